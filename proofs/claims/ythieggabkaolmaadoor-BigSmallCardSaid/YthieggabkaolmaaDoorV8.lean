/- The walk of BigSmall: whatever the numbers, true. -/
import Derived.Test.YthieggabkaolmaaDoorV6
namespace Go.Proofs.YthieggabkaolmaaDoor
open Go.RowKit Go.BigM
set_option linter.unusedVariables false

theorem within_large (a : Int) (n : Nat) (ha : I64 a) (h1 : 1 ≤ n) (h2 : n ≤ 4000000000) (w : World) : Calls Tryd.prog 15 #[.int .i64 a, .int .i64 n] w (SomeR n w) := by
  refine (within_any a n w ha.1 ha.2 (by omega) (by omega)).mono ?_
  rintro e w' ⟨he, hw⟩
  have h3 := Int.emod_nonneg a (show (n : Int) ≠ 0 by omega)
  have h4 := Int.emod_lt_of_pos a (show (0 : Int) < n by omega)
  exact ⟨(a % n).toNat, by omega, by rw [he]; exact ret_int (by omega), hw⟩
theorem Is.small (z : Int) (h1 : -1000000000000 < z) (h2 : z < 1000000000000) : ∃ s, Is s z := Is.mk z (Nat.lt_of_lt_of_le (show z.natAbs < 10 ^ 12 by omega) (pow_Lim 12 (by decide)))
/-- small's text is the number's. -/
theorem small_is {s : ByteArray} {z : Int} (h : Is s z) (h1 : -1000000000000 < z) (h2 : z < 1000000000000) (w : World) :
    Calls Tryd.prog 28 #[.int .i64 z] w fun e w' => e = .returned (.string s) ∧ Below w.heap.size w w' :=
  (small_any z h1 h2 w).mono fun e w' ⟨t, he, ht, hb⟩ => ⟨by rw [he, ht.same h], hb⟩
theorem mul_bd (a b : Int) (h1 : -1000000 ≤ a) (h2 : a ≤ 1000000) (h3 : -10000 ≤ b) (h4 : b ≤ 10000) : -10000000000 ≤ a * b ∧ a * b ≤ 10000000000 := by
  have h : (a * b).natAbs ≤ 1000000 * 10000 := by rw [Int.natAbs_mul]; exact Nat.mul_le_mul (by omega) (by omega)
  omega
theorem div_bd (a b : Int) (h1 : -1000000 ≤ a) (h2 : a ≤ 1000000) : -1000000 ≤ a.tdiv b ∧ a.tdiv b ≤ 1000000 := by
  have h : (a.tdiv b).natAbs ≤ a.natAbs := by rw [Int.natAbs_tdiv]; exact Nat.div_le_self _ _
  omega
theorem mod_bd (a b : Int) (h1 : -1000000 ≤ a) (h2 : a ≤ 1000000) : -1000000 ≤ a.tmod b ∧ a.tmod b ≤ 1000000 := by
  have h : (a.tmod b).natAbs ≤ a.natAbs := by rw [Int.natAbs_tmod]; exact Nat.mod_le _ _
  omega

set_option maxHeartbeats 8000000 in
set_option maxRecDepth 100000 in
theorem small_walk (a0 a1 : Int) (w0 : (Lit.int .i64 a0).wf = true) (w1 : (Lit.int .i64 a1).wf = true) (w : World) :
    Calls Tryd.prog 5 #[.int .i64 a0, .int .i64 a1] w fun e w' => e = .returned (.bool true) ∧ Below w.heap.size w w' := by
  have hI := Lib.hid (wf_I64 a0 w0)
  have hJ := Lib.hid (wf_I64 a1 w1)
  have BB := Lib.hid (Below.refl w.heap.size w)
  clear w0 w1
  go_enter Tryd.func5, Tryd.ntmps5
  go_wp2_with (go_at_call 13; refine (known_any _).mono ?_; rintro e w1 ⟨rfl, hb⟩; replace BB := Lib.hid (BB.out.trans (hb.mono BB.out.size)); clear hb)
  refine (within_large a0 2000001 hI.out (by decide) (by decide) _).mono ?_
  rintro e w' ⟨r, hr, rfl, rfl⟩
  go_wp2_with fail
  refine (within_large a1 20001 hJ.out (by decide) (by decide) _).mono ?_
  rintro e w' ⟨t, ht, rfl, rfl⟩
  go_wp2_with fail
  obtain ⟨a, ha⟩ : ∃ a : Int, (r : Int) - 1000000 = a := ⟨_, rfl⟩
  obtain ⟨b, hb⟩ : ∃ b : Int, (t : Int) - 10000 = b := ⟨_, rfl⟩
  have ha1 : -1000000 ≤ a := by omega
  have ha2 : a ≤ 1000000 := by omega
  have hb1 : -10000 ≤ b := by omega
  have hb2 : b ≤ 10000 := by omega
  simp only [ha, hb]
  clear ha hb hr ht hI hJ
  obtain ⟨sx, ix⟩ := Is.small a (by omega) (by omega)
  obtain ⟨sy, iy⟩ := Is.small b (by omega) (by omega)
  obtain ⟨hp1, hp2⟩ := mul_bd a b ha1 ha2 hb1 hb2
  obtain ⟨ss, is⟩ := Is.small (a + b) (by omega) (by omega)
  obtain ⟨sd, id⟩ := Is.small (a - b) (by omega) (by omega)
  obtain ⟨sp, ip⟩ := Is.small (a * b) (by omega) (by omega)
  have G1 := Lib.hid (small_is ix (by omega) (by omega))
  have G2 := Lib.hid (small_is iy (by omega) (by omega))
  have G3 := Lib.hid (small_is is (by omega) (by omega))
  have G4 := Lib.hid (small_is id (by omega) (by omega))
  have G5 := Lib.hid (small_is ip (by omega) (by omega))
  have F1 := Lib.hid (add_v ix iy is)
  have F2 := Lib.hid (sub_v ix iy id)
  have F3 := Lib.hid (mul_v ix iy ip)
  by_cases h0 : b = 0
  · subst h0
    obtain rfl : ss = sx := is.same (by rw [Int.add_zero]; exact ix)
    obtain rfl : sd = ss := id.same (by rw [Int.sub_zero]; rw [Int.add_zero] at is; exact is)
    obtain rfl : sp = sy := ip.same (by rw [Int.mul_zero]; exact iy)
    have F4 := Lib.hid (quo_z ix iy)
    rcases Int.lt_trichotomy a 0 with hlt | heq | hgt
    · have F5 := Lib.hid (cmp_v ix iy (-1) (by unfold cmpI; rw [if_pos hlt]))
      have l1 : decide (a < 0) = true := decide_eq_true hlt
      have l2 : decide (0 < a) = false := decide_eq_false (by omega)
      clear ix iy is id ip 
      refine (G1.out _).mono ?_
      rintro e w2 ⟨rfl, hb⟩; replace BB := Lib.hid (BB.out.trans (hb.mono BB.out.size)); clear hb
      go_wp2_with ((first | (go_at_call 28; (first | (with_reducible refine (G1.out _).mono ?_) | (with_reducible refine (G2.out _).mono ?_) | (with_reducible refine (G3.out _).mono ?_) | (with_reducible refine (G4.out _).mono ?_) | (with_reducible refine (G5.out _).mono ?_))) | (go_at_call 18; (with_reducible refine (F1.out _).mono ?_)) | (go_at_call 20; (with_reducible refine (F2.out _).mono ?_)) | (go_at_call 22; (with_reducible refine (F3.out _).mono ?_)) | (go_at_call 24; (with_reducible refine (F4.out _).mono ?_)) | (go_at_call 26; (with_reducible refine (F5.out _).mono ?_))); rintro e w2 ⟨rfl, hb⟩; replace BB := Lib.hid (BB.out.trans (hb.mono BB.out.size)); clear hb)
      go_ret
      exact ⟨rfl, BB.out⟩
    · have F5 := Lib.hid (cmp_v ix iy 0 (by unfold cmpI; rw [if_neg (by omega), if_pos heq]))
      subst heq
      obtain rfl := ix.same iy
      clear ix iy is id ip 
      refine (G1.out _).mono ?_
      rintro e w2 ⟨rfl, hb⟩; replace BB := Lib.hid (BB.out.trans (hb.mono BB.out.size)); clear hb
      go_wp2_with ((first | (go_at_call 28; (first | (with_reducible refine (G1.out _).mono ?_) | (with_reducible refine (G2.out _).mono ?_) | (with_reducible refine (G3.out _).mono ?_) | (with_reducible refine (G4.out _).mono ?_) | (with_reducible refine (G5.out _).mono ?_))) | (go_at_call 18; (with_reducible refine (F1.out _).mono ?_)) | (go_at_call 20; (with_reducible refine (F2.out _).mono ?_)) | (go_at_call 22; (with_reducible refine (F3.out _).mono ?_)) | (go_at_call 24; (with_reducible refine (F4.out _).mono ?_)) | (go_at_call 26; (with_reducible refine (F5.out _).mono ?_))); rintro e w2 ⟨rfl, hb⟩; replace BB := Lib.hid (BB.out.trans (hb.mono BB.out.size)); clear hb)
      go_ret
      exact ⟨rfl, BB.out⟩
    · have F5 := Lib.hid (cmp_v ix iy 1 (by unfold cmpI; rw [if_neg (by omega), if_neg (by omega)]))
      have l1 : decide (a < 0) = false := decide_eq_false (by omega)
      have l2 : decide (0 < a) = true := decide_eq_true hgt
      clear ix iy is id ip 
      refine (G1.out _).mono ?_
      rintro e w2 ⟨rfl, hb⟩; replace BB := Lib.hid (BB.out.trans (hb.mono BB.out.size)); clear hb
      go_wp2_with ((first | (go_at_call 28; (first | (with_reducible refine (G1.out _).mono ?_) | (with_reducible refine (G2.out _).mono ?_) | (with_reducible refine (G3.out _).mono ?_) | (with_reducible refine (G4.out _).mono ?_) | (with_reducible refine (G5.out _).mono ?_))) | (go_at_call 18; (with_reducible refine (F1.out _).mono ?_)) | (go_at_call 20; (with_reducible refine (F2.out _).mono ?_)) | (go_at_call 22; (with_reducible refine (F3.out _).mono ?_)) | (go_at_call 24; (with_reducible refine (F4.out _).mono ?_)) | (go_at_call 26; (with_reducible refine (F5.out _).mono ?_))); rintro e w2 ⟨rfl, hb⟩; replace BB := Lib.hid (BB.out.trans (hb.mono BB.out.size)); clear hb)
      go_ret
      exact ⟨rfl, BB.out⟩
  · have hne : (b == 0) = false := beq_eq_false_iff_ne.2 h0
    have hne2 : (b != 0) = true := by rw [bne_iff_ne]; exact h0
    obtain ⟨hq1, hq2⟩ := div_bd a b ha1 ha2
    obtain ⟨hm1, hm2⟩ := mod_bd a b ha1 ha2
    obtain ⟨sq, iq⟩ := Is.small (a.tdiv b) (by omega) (by omega)
    obtain ⟨sr, ir⟩ := Is.small (a.tmod b) (by omega) (by omega)
    have F4 := Lib.hid (quo_v ix iy h0 iq ir)
    have G6 := Lib.hid (small_is iq (by omega) (by omega))
    have G7 := Lib.hid (small_is ir (by omega) (by omega))
    have wq : wrap64 (a.tdiv b) = a.tdiv b := IntWalk.wrap64_in _ ⟨by omega, by omega⟩
    have wq2 : IntKind.i64.wrap (a.tdiv b) = a.tdiv b := IntWalk.i64_in _ (by omega)
    have wm2 : IntKind.i64.wrap (a.tmod b) = a.tmod b := IntWalk.i64_in _ (by omega)
    have h0' : ¬ b = 0 := h0
    rcases Int.lt_trichotomy a b with hlt | heq | hgt
    · have F5 := Lib.hid (cmp_v ix iy (-1) (by unfold cmpI; rw [if_pos hlt]))
      have l1 : decide (a < b) = true := decide_eq_true hlt
      have l2 : decide (b < a) = false := decide_eq_false (by omega)
      clear ix iy is id ip iq ir h0
      refine (G1.out _).mono ?_
      rintro e w2 ⟨rfl, hb⟩; replace BB := Lib.hid (BB.out.trans (hb.mono BB.out.size)); clear hb
      go_wp2_with ((first | (go_at_call 28; (first | (with_reducible refine (G1.out _).mono ?_) | (with_reducible refine (G2.out _).mono ?_) | (with_reducible refine (G3.out _).mono ?_) | (with_reducible refine (G4.out _).mono ?_) | (with_reducible refine (G5.out _).mono ?_) | (with_reducible refine (G6.out _).mono ?_) | (with_reducible refine (G7.out _).mono ?_))) | (go_at_call 18; (with_reducible refine (F1.out _).mono ?_)) | (go_at_call 20; (with_reducible refine (F2.out _).mono ?_)) | (go_at_call 22; (with_reducible refine (F3.out _).mono ?_)) | (go_at_call 24; (with_reducible refine (F4.out _).mono ?_)) | (go_at_call 26; (with_reducible refine (F5.out _).mono ?_))); rintro e w2 ⟨rfl, hb⟩; replace BB := Lib.hid (BB.out.trans (hb.mono BB.out.size)); clear hb)
      go_ret
      exact ⟨rfl, BB.out⟩
    · have F5 := Lib.hid (cmp_v ix iy 0 (by unfold cmpI; rw [if_neg (by omega), if_pos heq]))
      have l1 : decide (a < b) = false := decide_eq_false (by omega)
      have l2 : decide (b < a) = false := decide_eq_false (by omega)
      clear heq
      clear ix iy is id ip iq ir h0
      refine (G1.out _).mono ?_
      rintro e w2 ⟨rfl, hb⟩; replace BB := Lib.hid (BB.out.trans (hb.mono BB.out.size)); clear hb
      go_wp2_with ((first | (go_at_call 28; (first | (with_reducible refine (G1.out _).mono ?_) | (with_reducible refine (G2.out _).mono ?_) | (with_reducible refine (G3.out _).mono ?_) | (with_reducible refine (G4.out _).mono ?_) | (with_reducible refine (G5.out _).mono ?_) | (with_reducible refine (G6.out _).mono ?_) | (with_reducible refine (G7.out _).mono ?_))) | (go_at_call 18; (with_reducible refine (F1.out _).mono ?_)) | (go_at_call 20; (with_reducible refine (F2.out _).mono ?_)) | (go_at_call 22; (with_reducible refine (F3.out _).mono ?_)) | (go_at_call 24; (with_reducible refine (F4.out _).mono ?_)) | (go_at_call 26; (with_reducible refine (F5.out _).mono ?_))); rintro e w2 ⟨rfl, hb⟩; replace BB := Lib.hid (BB.out.trans (hb.mono BB.out.size)); clear hb)
      go_ret
      exact ⟨rfl, BB.out⟩
    · have F5 := Lib.hid (cmp_v ix iy 1 (by unfold cmpI; rw [if_neg (by omega), if_neg (by omega)]))
      have l1 : decide (a < b) = false := decide_eq_false (by omega)
      have l2 : decide (b < a) = true := decide_eq_true hgt
      clear ix iy is id ip iq ir h0
      refine (G1.out _).mono ?_
      rintro e w2 ⟨rfl, hb⟩; replace BB := Lib.hid (BB.out.trans (hb.mono BB.out.size)); clear hb
      go_wp2_with ((first | (go_at_call 28; (first | (with_reducible refine (G1.out _).mono ?_) | (with_reducible refine (G2.out _).mono ?_) | (with_reducible refine (G3.out _).mono ?_) | (with_reducible refine (G4.out _).mono ?_) | (with_reducible refine (G5.out _).mono ?_) | (with_reducible refine (G6.out _).mono ?_) | (with_reducible refine (G7.out _).mono ?_))) | (go_at_call 18; (with_reducible refine (F1.out _).mono ?_)) | (go_at_call 20; (with_reducible refine (F2.out _).mono ?_)) | (go_at_call 22; (with_reducible refine (F3.out _).mono ?_)) | (go_at_call 24; (with_reducible refine (F4.out _).mono ?_)) | (go_at_call 26; (with_reducible refine (F5.out _).mono ?_))); rintro e w2 ⟨rfl, hb⟩; replace BB := Lib.hid (BB.out.trans (hb.mono BB.out.size)); clear hb)
      go_ret
      exact ⟨rfl, BB.out⟩
end Go.Proofs.YthieggabkaolmaaDoor
