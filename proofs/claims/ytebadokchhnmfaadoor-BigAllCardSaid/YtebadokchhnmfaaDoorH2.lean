/- The contract of math/bits.LeadingZeros64, laid off the shelf by its own command, in plain words. -/
import Derived.Shelf.Small.Bits
import Derived.Shelf.Strconv.Itoa0
import Derived.Lib.ItoaNum
import Derived.BigQuiet
import Derived.Deep.QuietTactic
import Derived.Test.YtebadokchhnmfaaDoorM3
import Derived.Test.YtebadokchhnmfaaDoorH1
import Derived.Test.YtebadokchhnmfaaDoorW2
namespace Go.Proofs
open Go.Shelf
def Tryd.lays134_ren : Go.Shelf.Ren := ⟨fun | 134 => 71 | 129 => 76 | n => n, fun | 53 => 84 | 3 => 3 | 4 => 4 | 46 => 94 | 5 => 5 | 9 => 9 | n => n, fun | n => n⟩
theorem Tryd.lays134 : Go.Proofs.Lays.n134 Tryd.prog Tryd.lays134_ren := {
  mixed := by kernel_rfl
  f129 := Tryd.func76.trans (congrArg some (by kernel_rfl))
  f134 := Tryd.func71.trans (congrArg some (by kernel_rfl))
  t3 := Tryd.underlying3
  a3 := Tryd.isAgg3
  z3 := Tryd.sizeOf3
  v3 := Tryd.zeroValue3
  t4 := Tryd.underlying4
  a4 := Tryd.isAgg4
  z4 := Tryd.sizeOf4
  v4 := Tryd.zeroValue4
  t5 := Tryd.underlying5
  a5 := Tryd.isAgg5
  z5 := Tryd.sizeOf5
  v5 := Tryd.zeroValue5
  t9 := Tryd.underlying9
  a9 := Tryd.isAgg9
  z9 := Tryd.sizeOf9
  v9 := Tryd.zeroValue9
  t46 := Tryd.underlying94
  a46 := Tryd.isAgg94
  z46 := Tryd.sizeOf94
  v46 := Tryd.zeroValue94
  t53 := Tryd.underlying84
  a53 := Tryd.isAgg84
  z53 := Tryd.sizeOf84
  v53 := Tryd.zeroValue84 }
/-- bits.LeadingZeros64: "LeadingZeros64 returns the number of leading zero bits in x; the result is 64 for x == 0.": IT RETURNS '64 - Lib.bitLen x'; the world is as it was. ITS CALLEE bits.Len64 IS MET BY ITS OWN CONTRACT OFF THE SHELF (lay that first): entered in place it sends the kernel out of memory. (LAID: no walk: one application.) -/
theorem Tryd.bits_LeadingZeros64 (x : Int) (w : World) (h0 : 0 ≤ x) (h1 : x ≤ 18446744073709551615) :
    Calls Tryd.prog 71 #[.int .u64 x] w fun e w' => e = .returned (.int .i64 (64 - (Lib.bitLen x.toNat : Int))) ∧ w' = w := Any.bits_LeadingZeros64 Tryd.lays134 x w h0 h1
end Go.Proofs
namespace Go.Proofs.YtebadokchhnmfaaDoor
open Go.RowKit Go.BigM
set_option linter.unusedVariables false

theorem u64_nat (n : Nat) (h : n < 18446744073709551616) : IntKind.u64.wrap (n : Int) = n := IntWalk.u64_in _ (by omega)
/-- How far a number may be moved up: it then fills 64 bits. -/
theorem zeros_spec (y : Nat) (h0 : y ≠ 0) (h1 : y < 18446744073709551616) :
    ∃ s : Nat, s ≤ 63 ∧ (64 - (Lib.bitLen y : Int)) = s ∧ 9223372036854775808 ≤ y * 2 ^ s ∧ y * 2 ^ s < 18446744073709551616 := by
  obtain ⟨b1, b2, b3⟩ := Lib.bitLenAux_bounds 64 y (by have : (2 : Nat) ^ 64 = 18446744073709551616 := rfl; omega) h0
  have hl := Lib.bitLen_le y 64 (Nat.le_refl _) (by have : (2 : Nat) ^ 64 = 18446744073709551616 := rfl; omega)
  change 1 ≤ Lib.bitLen y at b1
  change 2 ^ (Lib.bitLen y - 1) ≤ y at b2
  change y < 2 ^ Lib.bitLen y at b3
  refine ⟨64 - Lib.bitLen y, by omega, by omega, ?_, ?_⟩
  · have h := Nat.mul_le_mul_right (2 ^ (64 - Lib.bitLen y)) b2
    rw [← Nat.pow_add] at h
    have e : Lib.bitLen y - 1 + (64 - Lib.bitLen y) = 63 := by omega
    rw [e] at h
    exact h
  · have h := Nat.mul_lt_mul_of_pos_right b3 (show 0 < 2 ^ (64 - Lib.bitLen y) from Nat.pow_pos (by decide))
    rw [← Nat.pow_add] at h
    have e : Lib.bitLen y + (64 - Lib.bitLen y) = 64 := by omega
    rw [e] at h
    exact h
theorem zeros_any (y s : Nat) (h1 : y < 18446744073709551616) (hs : (64 - (Lib.bitLen y : Int)) = s) (w : World) :
    Calls Tryd.prog 71 #[.int .u64 y] w fun e w' => e = .returned (.int .i64 s) ∧ w = w' := by
  refine (Tryd.bits_LeadingZeros64 y w (by omega) (by omega)).mono ?_
  rintro e w' ⟨he, hw⟩
  exact ⟨by rw [he]; exact ret_int (by rw [← hs]; rfl), hw.symm⟩

set_option maxHeartbeats 1000000 in
set_option maxRecDepth 100000 in
theorem div64_zero (lo y : Nat) (hy : 0 < y) (h1 : lo < 18446744073709551616) (h2 : y < 18446744073709551616) (w : World) :
    Calls Tryd.prog 68 #[.int .u64 0, .int .u64 lo, .int .u64 y] w fun e w' => ∃ r : Int, e = .returned (.tuple #[.int .u64 ((lo / y : Nat) : Int), .int .u64 r]) ∧ ∃ m, w' = w.drewN m := by
  have q1 : ((y : Int) == 0) = false := beq_eq_false_iff_ne.2 (by omega)
  go_enter Tryd.func68, Tryd.ntmps68
  go_wp2
  go_quiet (fail)
  go_wp2
  go_ret2
  refine ⟨(lo : Int) % y, ?_, _, rfl⟩
  · have e : IntKind.u64.wrap ((lo : Int) / y) = ((lo / y : Nat) : Int) := by
      rw [← Int.natCast_ediv]; have := Nat.div_le_self lo y; exact u64_nat _ (by omega)
    rw [← e]; rfl

/-- A guess that is no less than the quotient's digit, and its rest. -/
def GuessInv (u d y1 y0 : Nat) (qv rv : Value) : Prop :=
  ∃ q r : Nat, qv = .int .u64 q ∧ rv = .int .u64 r ∧ q * y1 + r = u ∧ (u * 4294967296 + d) / (y1 * 4294967296 + y0) ≤ q ∧ q ≤ 4294967297 ∧ r < 4294967296
theorem guess_down (u d y1 y0 q r : Nat) (hyb : 2147483648 ≤ y1) (hu : u < y1 * 4294967296 + y0) (hd : d < 4294967296) (h : q * y1 + r = u) (hbad : 4294967296 ≤ q ∨ 4294967296 * r + d < q * y0) (hq : q ≤ 4294967297) :
    1 ≤ q ∧ (q - 1) * y1 + (r + y1) = u ∧ (u * 4294967296 + d) / (y1 * 4294967296 + y0) ≤ q - 1 ∧ q - 1 ≤ 4294967296 := by
  have h1 : 1 ≤ q := by
    rcases hbad with hb | hb
    · omega
    · cases q with
      | zero => simp at hb
      | succ q => omega
  refine ⟨h1, ?_, ?_, by omega⟩
  · rw [← h]
    have : (q - 1 + 1) * y1 = (q - 1) * y1 + y1 := by rw [Nat.add_mul, Nat.one_mul]
    rw [Nat.sub_add_cancel h1] at this
    omega
  · rcases hbad with hb | hb
    · have := quot_lt 4294967296 (y1 * 4294967296 + y0) u d hu hd
      omega
    · exact guess_dec _ _ _ (by omega) (guess_no 4294967296 y1 y0 u d q r h hb)

/-- The rest, as the machine reckons it. -/
theorem after_digit (u d yn Q R : Nat) (hyn : yn < 18446744073709551616) (h0 : 0 < yn) (hQ : Q = (u * 4294967296 + d) / yn) (hR : R = (u * 4294967296 + d) % yn) :
    IntKind.u64.wrap (IntKind.u64.wrap (IntKind.u64.wrap ((u : Int) * 4294967296) + (d : Int)) - IntKind.u64.wrap ((Q : Int) * (yn : Int))) = (R : Int) := by
  have h1 := Nat.div_add_mod' (u * 4294967296 + d) yn
  rw [← hQ, ← hR] at h1
  have h2 := Nat.mod_lt (u * 4294967296 + d) h0
  rw [← hR] at h2
  obtain ⟨P, hP⟩ : ∃ P, P = Q * yn := ⟨_, rfl⟩
  rw [← hP] at h1
  rw [show (Q : Int) * (yn : Int) = (P : Int) by rw [hP]; exact (Int.natCast_mul Q yn).symm]
  simp only [IntKind.wrap_u64]
  omega
/-- A first guess. -/
theorem guess_start (u d y1 y0 : Nat) (hyb : 2147483648 ≤ y1) (hyt : y1 < 4294967296) (h0 : y0 < 4294967296) (hu : u < y1 * 4294967296 + y0) (hd : d < 4294967296) :
    ∃ q p r : Nat, (u : Int) / (y1 : Int) = (q : Int) ∧ (q : Int) * (y1 : Int) = (p : Int) ∧ (u : Int) - (p : Int) = (r : Int) ∧ p ≤ u ∧
      (q * y1 + r = u ∧ (u * 4294967296 + d) / (y1 * 4294967296 + y0) ≤ q ∧ q ≤ 4294967297 ∧ r < 4294967296) := by
  have hqr := Nat.div_add_mod' u y1
  have hrb := Nat.mod_lt u (show 0 < y1 by omega)
  have hqK := guess_le 4294967296 y1 y0 u (by omega) (by decide) h0 hu
  have hge := guess_ge 4294967296 y1 y0 u d (u / y1) (u % y1) (by omega) hqr hrb hd
  refine ⟨u / y1, u / y1 * y1, u % y1, by rw [Int.natCast_ediv], (Int.natCast_mul _ _).symm, ?_, ?_, hqr, hge, hqK, ?_⟩
  · omega
  · omega
  · omega
theorem expand_two (K u d1 d0 : Nat) : (u * K + d1) * K + d0 = u * (K * K) + (d1 * K + d0) := by
  rw [Nat.add_mul, Nat.mul_assoc, Nat.add_assoc]
/-- The two digits are the quotient's. -/
theorem two_found (hi lo y s yn u v d1 d0 R Q1 Q0 : Nat) (h1 : lo < 18446744073709551616) (hlt : hi < y) (hyn : yn = y * 2 ^ s) (hy : 0 < yn)
    (hm : (hi * 18446744073709551616 + lo) * 2 ^ s = u * 18446744073709551616 + v) (hv : v = d1 * 4294967296 + d0)
    (hR : R = (u * 4294967296 + d1) % yn) (h2 : Q1 = (u * 4294967296 + d1) / yn) (h3 : Q0 = (R * 4294967296 + d0) / yn) :
    IntKind.u64.wrap (IntKind.u64.wrap ((Q1 : Int) * 4294967296) + (Q0 : Int)) = (((hi * 18446744073709551616 + lo) / y : Nat) : Int) := by
  have h4 := two_digits 4294967296 yn u d1 d0 hy
  rw [← hR, ← h2, ← h3] at h4
  have h5 := expand_two 4294967296 u d1 d0
  rewrite [show 4294967296 * 4294967296 = 18446744073709551616 from rfl, ← hv, ← hm] at h5
  rewrite [h5, hyn, moved _ _ _ (Nat.pow_pos (by decide))] at h4
  have h6 := quot_lt 18446744073709551616 y hi lo hlt h1
  rw [← h4] at h6 ⊢
  simp only [IntKind.wrap_u64]
  omega

theorem two_fit (hi lo y s yn u v d1 d0 R Q1 Q0 : Nat) (h1 : lo < 18446744073709551616) (hlt : hi < y) (hyn : yn = y * 2 ^ s) (hy : 0 < yn)
    (hm : (hi * 18446744073709551616 + lo) * 2 ^ s = u * 18446744073709551616 + v) (hv : v = d1 * 4294967296 + d0)
    (hR : R = (u * 4294967296 + d1) % yn) (h2 : Q1 = (u * 4294967296 + d1) / yn) (h3 : Q0 = (R * 4294967296 + d0) / yn) :
    IntKind.u64.wrap (IntKind.u64.wrap ((Q1 : Int) * 4294967296) + (Q0 : Int)) = ((hi : Int) * 18446744073709551616 + (lo : Int)) / (y : Int) :=
  (two_found hi lo y s yn u v d1 d0 R Q1 Q0 h1 hlt hyn hy hm hv hR h2 h3).trans (by simp)

set_option maxHeartbeats 4000000 in
set_option maxRecDepth 100000 in
theorem div64_high (hi lo y s : Nat) (hs : s ≤ 63) (hsz : (64 - (Lib.bitLen y : Int)) = s) (hhi : hi ≠ 0) (hlt : hi < y) (h1 : lo < 18446744073709551616) (h2 : y < 18446744073709551616)
    (n1 : 9223372036854775808 ≤ y * 2 ^ s) (n2 : y * 2 ^ s < 18446744073709551616) (w : World) :
    Calls Tryd.prog 68 #[.int .u64 hi, .int .u64 lo, .int .u64 y] w fun e w' => ∃ r : Int, e = .returned (.tuple #[.int .u64 (((hi * 18446744073709551616 + lo) / y : Nat) : Int), .int .u64 r]) ∧ ∃ m, w' = w.drewN m := by
  have q1 : ((y : Int) == 0) = false := beq_eq_false_iff_ne.2 (by omega)
  have q2 : decide ((y : Int) ≤ hi) = false := decide_eq_false (by omega)
  have q3 : ((hi : Int) == 0) = false := beq_eq_false_iff_ne.2 (by omega)
  have HS := Lib.hid hsz
  obtain ⟨yn, hyn⟩ : ∃ yn, yn = y * 2 ^ s := ⟨_, rfl⟩
  rw [← hyn] at n1 n2
  have e1 : IntKind.u64.wrap ((y : Int) * 2 ^ s) = (yn : Int) := by
    have : (y : Int) * 2 ^ s = ((y * 2 ^ s : Nat) : Int) := by simp
    rw [this, ← hyn]; exact IntWalk.u64_in _ (by omega)
  obtain ⟨y1, hy1⟩ : ∃ y1, y1 = yn / 4294967296 := ⟨_, rfl⟩
  obtain ⟨y0, hy0⟩ : ∃ y0, y0 = yn % 4294967296 := ⟨_, rfl⟩
  have e2 : (yn : Int) / 4294967296 = (y1 : Int) := by omega
  have e3 : bits .and .u64 (yn : Int) 4294967295 = (y0 : Int) := by rw [and_low32 _ (by omega) (by omega)]; omega
  have y1b : 2147483648 ≤ y1 ∧ y1 < 4294967296 := by omega
  have y0b : y0 < 4294967296 := by omega
  clear hsz
  obtain ⟨p1, p2, p3⟩ := moved_parts hi lo y s hs h1 hlt
  rw [← hyn] at p2
  obtain ⟨u, hu⟩ : ∃ u, u = hi * 2 ^ s + lo / 2 ^ (64 - s) := ⟨_, rfl⟩
  obtain ⟨v, hv⟩ : ∃ v, v = lo * 2 ^ s % 18446744073709551616 := ⟨_, rfl⟩
  rw [← hu, ← hv] at p3
  rw [← hu] at p2
  have hvb : v < 18446744073709551616 := by omega
  have e4 : bits .or .u64 (IntKind.u64.wrap ((hi : Int) * 2 ^ s)) ((lo : Int) / 2 ^ (64 - s)) = (u : Int) := by
    have f1 : (hi : Int) * 2 ^ s = ((hi * 2 ^ s : Nat) : Int) := by simp
    have f2 : (lo : Int) / 2 ^ (64 - s) = ((lo / 2 ^ (64 - s) : Nat) : Int) := by simp
    have f3 : hi * 2 ^ s < 18446744073709551616 := Nat.lt_of_le_of_lt (show hi * 2 ^ s ≤ u by rw [hu]; exact Nat.le_add_right _ _) (by omega)
    rw [f1, f2, u64_nat _ f3, u64_or_nat _ _ f3 (Nat.lt_of_le_of_lt (Nat.div_le_self _ _) h1)]
    have f4 := Nat.two_pow_add_eq_or_of_lt p1 hi
    rw [Nat.mul_comm (2 ^ s) hi] at f4
    rw [← f4, hu]
  have e5 : IntKind.u64.wrap ((lo : Int) * 2 ^ s) = (v : Int) := by
    have f1 : (lo : Int) * 2 ^ s = ((lo * 2 ^ s : Nat) : Int) := by simp
    rw [f1, IntKind.wrap_u64, hv]; rfl
  obtain ⟨d1, hd1⟩ : ∃ d1, d1 = v / 4294967296 := ⟨_, rfl⟩
  obtain ⟨d0, hd0⟩ : ∃ d0, d0 = v % 4294967296 := ⟨_, rfl⟩
  have e6 : (v : Int) / 4294967296 = (d1 : Int) := by omega
  have e7 : bits .and .u64 (v : Int) 4294967295 = (d0 : Int) := by rw [and_low32 _ (by omega) (by omega)]; omega
  have d1b : d1 < 4294967296 := by omega
  have d0b : d0 < 4294967296 := by omega
  have hy10 : yn = y1 * 4294967296 + y0 := by omega
  have hvd : v = d1 * 4294967296 + d0 := by omega
  obtain ⟨q, hq⟩ : ∃ q, q = u / y1 := ⟨_, rfl⟩
  have e8 : (u : Int) / (y1 : Int) = (q : Int) := by rw [hq, Int.natCast_ediv]
  have hqr := Nat.div_add_mod' u y1
  rw [← hq] at hqr
  have hrb := Nat.mod_lt u (show 0 < y1 by omega)
  obtain ⟨p, hp⟩ : ∃ p, p = q * y1 := ⟨_, rfl⟩
  have e9 : (q : Int) * (y1 : Int) = (p : Int) := by rw [hp]; exact (Int.natCast_mul q y1).symm
  obtain ⟨r, hr⟩ : ∃ r, r = u % y1 := ⟨_, rfl⟩
  rw [← hr] at hrb
  rw [← hr, ← hp] at hqr
  have e10 : (u : Int) - (p : Int) = (r : Int) := by omega
  have hqK := guess_le 4294967296 y1 y0 u (by omega) (by decide) y0b (by omega)
  rw [← hq] at hqK
  have hge := guess_ge 4294967296 y1 y0 u d1 q r (by omega) (by omega) hrb d1b
  have G0 := Lib.hid (And.intro p3 (And.intro hy10 (And.intro hvd (And.intro hp (And.intro hqr hge)))))
  have pb : p ≤ u := by omega
  clear p1 p3 hu hv hd1 hd0 hy10 hvd hq hqr hr hp hge
  have HYN := Lib.hid hyn
  clear hyn hy1 hy0
  go_enter Tryd.func68, Tryd.ntmps68
  go_wp2_with (go_at_call 71; refine (zeros_any y s (by omega) HS.out _).mono ?_; rintro e w' ⟨rfl, rfl⟩)
  have HN := Lib.hid (And.intro n1 (And.intro n2 (And.intro h1 h2)))
  clear n1 n2 h1 h2 hvb e1 e2 e3 e4 e5 e6 e7 e8 e9 e10 q1 q2 q3 pb
  go_loop [15, 16] (fun qv rv => GuessInv u d1 y1 y0 qv rv) (fun qv _ => (intOf qv).toNat)
  case atStart => exact ⟨q, r, rfl, rfl, by have := G0.out.2.2.2; have := G0.out.2.2.2.2.1; rw [← G0.out.2.2.2.1]; omega, G0.out.2.2.2.2.2, by omega, by omega⟩
  case round =>
    obtain ⟨q, r, rfl, rfl, hqr, hge, hqK, hrK⟩ := hrel
    have hb1 : q * y0 ≤ 4294967297 * 4294967295 := Nat.mul_le_mul hqK (by omega)
    obtain ⟨b, hb⟩ : ∃ b, b = q * y0 := ⟨_, rfl⟩
    have eb : IntKind.u64.wrap ((q : Int) * (y0 : Int)) = (b : Int) := by rw [hb, ← Int.natCast_mul]; exact u64_nat _ (by omega)
    clear hb1
    have i1 : (q : Int) ≤ 4294967297 := by omega
    have i2 : (r : Int) < 4294967296 := by omega
    have i3 : (y1 : Int) < 4294967296 := by omega
    have i4 : (d1 : Int) < 4294967296 := by omega
    have i5 : (0 : Int) ≤ (b : Int) := by omega
    have i6 : (2147483648 : Int) ≤ (y1 : Int) := by omega
    by_cases hbad : 4294967296 ≤ q ∨ 4294967296 * r + d1 < b
    · obtain ⟨g1, g2, g3, g4⟩ := guess_down u d1 y1 y0 q r y1b.1 (by have := G0.out.2.1; omega) d1b hqr (by rw [← hb]; exact hbad) hqK
      have i7 : (1 : Int) ≤ (q : Int) := by omega
      have HG := Lib.hid (And.intro g2 (And.intro g3 g4))
      clear g2 g3 g4 hge hqr hb
      by_cases hbr : r + y1 < 4294967296
      · have t3 : decide ((4294967296 : Int) ≤ (r : Int) + (y1 : Int)) = false := decide_eq_false (by omega)
        have HB := Lib.hid hbr
        by_cases hk : 4294967296 ≤ q
        · have t1 : decide ((4294967296 : Int) ≤ (q : Int)) = true := decide_eq_true (by omega)
          clear hbad hk hbr hqK hrK g1
          go_wp2_with fail
          go_round
          case rel => exact ⟨q - 1, r + y1, int_congr (by omega), int_congr (by omega), HG.out.1, HG.out.2.1, by have := HG.out.2.2; omega, HB.out⟩
          case measure => simp [intOf]; omega
        · have hbad' : 4294967296 * r + d1 < b := by omega
          have t1 : decide ((4294967296 : Int) ≤ (q : Int)) = false := decide_eq_false (by omega)
          have t2 : decide ((4294967296 : Int) * (r : Int) + (d1 : Int) < (b : Int)) = true := decide_eq_true (by omega)
          clear hbad hk hbr hqK hrK g1 hbad'
          go_wp2_with fail
          go_round
          case rel => exact ⟨q - 1, r + y1, int_congr (by omega), int_congr (by omega), HG.out.1, HG.out.2.1, by have := HG.out.2.2; omega, HB.out⟩
          case measure => simp [intOf]; omega
      · have t3 : decide ((4294967296 : Int) ≤ (r : Int) + (y1 : Int)) = true := decide_eq_true (by omega)
        obtain ⟨Q, hQq⟩ : ∃ Q, Q = q - 1 := ⟨_, rfl⟩
        have eQ : (q : Int) - 1 = (Q : Int) := by omega
        have hQ := digit_found y1 y0 u d1 (q - 1) (r + y1) y1b.1 (by have := G0.out.2.1; omega) d1b HG.out.1 HG.out.2.1 (guess_break 4294967296 y0 (q - 1) (r + y1) d1 HG.out.2.2 y0b (by omega))
        rw [← hQq] at hQ
        have HQ := Lib.hid hQ
        clear hQ hQq HG
        by_cases hk : 4294967296 ≤ q
        · have t1 : decide ((4294967296 : Int) ≤ (q : Int)) = true := decide_eq_true (by omega)
          clear hbad hk hbr hqK hrK g1
          have HQY := Lib.hid (show Q = (u * 4294967296 + d1) / yn from by rewrite [G0.out.2.1]; exact HQ.out)
          obtain ⟨R, hR⟩ : ∃ R, R = (u * 4294967296 + d1) % yn := ⟨_, rfl⟩
          have hRy : R < yn := by rw [hR]; exact Nat.mod_lt _ (by have := HN.out.1; omega)
          have hn2 : yn < 18446744073709551616 := HN.out.2.1
          have EU := after_digit u d1 yn Q R hn2 (by omega) HQY.out hR
          have HR := Lib.hid hR
          obtain ⟨qB, pB, rB, s1, s2, s3, s4, s5⟩ := guess_start R d0 y1 y0 y1b.1 y1b.2 y0b (by have := G0.out.2.1; omega) d0b
          have S5 := Lib.hid s5
          have s6 : qB ≤ 4294967297 := s5.2.2.1
          clear hR s5
          go_wp2_with fail
          clear s1 s2 s3 s4 s6 EU hn2 i1 i2 i3 i4 i5 i6 i7 t1 t3 eb eQ
          go_loop [18, 16] (fun qv rv => GuessInv R d0 y1 y0 qv rv) (fun qv _ => (intOf qv).toNat)
          case atStart => exact ⟨qB, rB, rfl, rfl, S5.out⟩
          case round =>
            obtain ⟨q, r, rfl, rfl, hqr, hge, hqK, hrK⟩ := hrel
            have hb1 : q * y0 ≤ 4294967297 * 4294967295 := Nat.mul_le_mul hqK (by omega)
            obtain ⟨b, hb⟩ : ∃ b, b = q * y0 := ⟨_, rfl⟩
            have eb : IntKind.u64.wrap ((q : Int) * (y0 : Int)) = (b : Int) := by rw [hb, ← Int.natCast_mul]; exact u64_nat _ (by omega)
            clear hb1
            have i1 : (q : Int) ≤ 4294967297 := by omega
            have i2 : (r : Int) < 4294967296 := by omega
            have i3 : (y1 : Int) < 4294967296 := by omega
            have i4 : (d0 : Int) < 4294967296 := by omega
            have i5 : (0 : Int) ≤ (b : Int) := by omega
            have i6 : (2147483648 : Int) ≤ (y1 : Int) := by omega
            by_cases hbad : 4294967296 ≤ q ∨ 4294967296 * r + d0 < b
            · obtain ⟨g1, g2, g3, g4⟩ := guess_down R d0 y1 y0 q r y1b.1 (by have := G0.out.2.1; omega) d0b hqr (by rw [← hb]; exact hbad) hqK
              have i7 : (1 : Int) ≤ (q : Int) := by omega
              have HG := Lib.hid (And.intro g2 (And.intro g3 g4))
              clear g2 g3 g4 hge hqr hb
              by_cases hbr : r + y1 < 4294967296
              · have t3 : decide ((4294967296 : Int) ≤ (r : Int) + (y1 : Int)) = false := decide_eq_false (by omega)
                have HB := Lib.hid hbr
                by_cases hk : 4294967296 ≤ q
                · have t1 : decide ((4294967296 : Int) ≤ (q : Int)) = true := decide_eq_true (by omega)
                  clear hbad hk hbr hqK hrK g1
                  go_wp2_with fail
                  go_round
                  case rel => exact ⟨q - 1, r + y1, int_congr (by omega), int_congr (by omega), HG.out.1, HG.out.2.1, by have := HG.out.2.2; omega, HB.out⟩
                  case measure => simp [intOf]; omega
                · have hbad' : 4294967296 * r + d0 < b := by omega
                  have t1 : decide ((4294967296 : Int) ≤ (q : Int)) = false := decide_eq_false (by omega)
                  have t2 : decide ((4294967296 : Int) * (r : Int) + (d0 : Int) < (b : Int)) = true := decide_eq_true (by omega)
                  clear hbad hk hbr hqK hrK g1 hbad'
                  go_wp2_with fail
                  go_round
                  case rel => exact ⟨q - 1, r + y1, int_congr (by omega), int_congr (by omega), HG.out.1, HG.out.2.1, by have := HG.out.2.2; omega, HB.out⟩
                  case measure => simp [intOf]; omega
              · have t3 : decide ((4294967296 : Int) ≤ (r : Int) + (y1 : Int)) = true := decide_eq_true (by omega)
                obtain ⟨QB, hQq⟩ : ∃ Q, Q = q - 1 := ⟨_, rfl⟩
                have eQB : (q : Int) - 1 = (QB : Int) := by omega
                have hQ := digit_found y1 y0 R d0 (q - 1) (r + y1) y1b.1 (by have := G0.out.2.1; omega) d0b HG.out.1 HG.out.2.1 (guess_break 4294967296 y0 (q - 1) (r + y1) d0 HG.out.2.2 y0b (by omega))
                rw [← hQq] at hQ
                have HQB := Lib.hid hQ
                clear hQ hQq HG
                by_cases hk : 4294967296 ≤ q
                · have t1 : decide ((4294967296 : Int) ≤ (q : Int)) = true := decide_eq_true (by omega)
                  clear hbad hk hbr hqK hrK g1
                  go_wp2_with fail
                  go_ret2
                  have EF := two_fit hi lo y s yn u v d1 d0 R _ QB HN.out.2.2.1 hlt HYN.out (by have := HN.out.1; omega) G0.out.1 G0.out.2.2.1 HR.out HQY.out (by rewrite [G0.out.2.1]; exact HQB.out)
                  refine ⟨⟨IntKind.u64.wrap (IntKind.u64.wrap (IntKind.u64.wrap ((R : Int) * 4294967296) + (d0 : Int)) - IntKind.u64.wrap ((QB : Int) * (yn : Int))) / 2 ^ s, congrArg (fun a => Ending.returned (Value.tuple #[.int .u64 a, .int .u64 (IntKind.u64.wrap (IntKind.u64.wrap (IntKind.u64.wrap ((R : Int) * 4294967296) + (d0 : Int)) - IntKind.u64.wrap ((QB : Int) * (yn : Int))) / 2 ^ s)])) EF⟩, 0, ?_⟩
                  first | rfl | exact (World.drewN_zero _).symm | simp [World.drewN]
                · have hbad' : 4294967296 * r + d0 < b := by omega
                  have t1 : decide ((4294967296 : Int) ≤ (q : Int)) = false := decide_eq_false (by omega)
                  have t2 : decide ((4294967296 : Int) * (r : Int) + (d0 : Int) < (b : Int)) = true := decide_eq_true (by omega)
                  clear hbad hk hbr hqK hrK g1 hbad'
                  go_wp2_with fail
                  go_ret2
                  have EF := two_fit hi lo y s yn u v d1 d0 R _ QB HN.out.2.2.1 hlt HYN.out (by have := HN.out.1; omega) G0.out.1 G0.out.2.2.1 HR.out HQY.out (by rewrite [G0.out.2.1]; exact HQB.out)
                  refine ⟨⟨IntKind.u64.wrap (IntKind.u64.wrap (IntKind.u64.wrap ((R : Int) * 4294967296) + (d0 : Int)) - IntKind.u64.wrap ((QB : Int) * (yn : Int))) / 2 ^ s, congrArg (fun a => Ending.returned (Value.tuple #[.int .u64 a, .int .u64 (IntKind.u64.wrap (IntKind.u64.wrap (IntKind.u64.wrap ((R : Int) * 4294967296) + (d0 : Int)) - IntKind.u64.wrap ((QB : Int) * (yn : Int))) / 2 ^ s)])) EF⟩, 0, ?_⟩
                  first | rfl | exact (World.drewN_zero _).symm | simp [World.drewN]
            · have hgood : b ≤ 4294967296 * r + d0 := by omega
              have hQ := digit_found y1 y0 R d0 q r y1b.1 (by have := G0.out.2.1; omega) d0b hqr hge (by rw [← hb]; exact hgood)
              have t1 : decide ((4294967296 : Int) ≤ (q : Int)) = false := decide_eq_false (by omega)
              have t2 : decide ((4294967296 : Int) * (r : Int) + (d0 : Int) < (b : Int)) = false := decide_eq_false (by omega)
              have HQB := Lib.hid hQ
              clear hQ hqr hge hb hbad hgood hqK hrK
              go_wp2_with fail
              go_ret2
              have EF := two_fit hi lo y s yn u v d1 d0 R _ q HN.out.2.2.1 hlt HYN.out (by have := HN.out.1; omega) G0.out.1 G0.out.2.2.1 HR.out HQY.out (by rewrite [G0.out.2.1]; exact HQB.out)
              refine ⟨⟨IntKind.u64.wrap (IntKind.u64.wrap (IntKind.u64.wrap ((R : Int) * 4294967296) + (d0 : Int)) - IntKind.u64.wrap ((q : Int) * (yn : Int))) / 2 ^ s, congrArg (fun a => Ending.returned (Value.tuple #[.int .u64 a, .int .u64 (IntKind.u64.wrap (IntKind.u64.wrap (IntKind.u64.wrap ((R : Int) * 4294967296) + (d0 : Int)) - IntKind.u64.wrap ((q : Int) * (yn : Int))) / 2 ^ s)])) EF⟩, 0, ?_⟩
              first | rfl | exact (World.drewN_zero _).symm | simp [World.drewN]
        · have hbad' : 4294967296 * r + d1 < b := by omega
          have t1 : decide ((4294967296 : Int) ≤ (q : Int)) = false := decide_eq_false (by omega)
          have t2 : decide ((4294967296 : Int) * (r : Int) + (d1 : Int) < (b : Int)) = true := decide_eq_true (by omega)
          clear hbad hk hbr hqK hrK g1 hbad'
          have HQY := Lib.hid (show Q = (u * 4294967296 + d1) / yn from by rewrite [G0.out.2.1]; exact HQ.out)
          obtain ⟨R, hR⟩ : ∃ R, R = (u * 4294967296 + d1) % yn := ⟨_, rfl⟩
          have hRy : R < yn := by rw [hR]; exact Nat.mod_lt _ (by have := HN.out.1; omega)
          have hn2 : yn < 18446744073709551616 := HN.out.2.1
          have EU := after_digit u d1 yn Q R hn2 (by omega) HQY.out hR
          have HR := Lib.hid hR
          obtain ⟨qB, pB, rB, s1, s2, s3, s4, s5⟩ := guess_start R d0 y1 y0 y1b.1 y1b.2 y0b (by have := G0.out.2.1; omega) d0b
          have S5 := Lib.hid s5
          have s6 : qB ≤ 4294967297 := s5.2.2.1
          clear hR s5
          go_wp2_with fail
          clear s1 s2 s3 s4 s6 EU hn2 i1 i2 i3 i4 i5 i6 i7 t1 t2 t3 eb eQ
          go_loop [18, 16] (fun qv rv => GuessInv R d0 y1 y0 qv rv) (fun qv _ => (intOf qv).toNat)
          case atStart => exact ⟨qB, rB, rfl, rfl, S5.out⟩
          case round =>
            obtain ⟨q, r, rfl, rfl, hqr, hge, hqK, hrK⟩ := hrel
            have hb1 : q * y0 ≤ 4294967297 * 4294967295 := Nat.mul_le_mul hqK (by omega)
            obtain ⟨b, hb⟩ : ∃ b, b = q * y0 := ⟨_, rfl⟩
            have eb : IntKind.u64.wrap ((q : Int) * (y0 : Int)) = (b : Int) := by rw [hb, ← Int.natCast_mul]; exact u64_nat _ (by omega)
            clear hb1
            have i1 : (q : Int) ≤ 4294967297 := by omega
            have i2 : (r : Int) < 4294967296 := by omega
            have i3 : (y1 : Int) < 4294967296 := by omega
            have i4 : (d0 : Int) < 4294967296 := by omega
            have i5 : (0 : Int) ≤ (b : Int) := by omega
            have i6 : (2147483648 : Int) ≤ (y1 : Int) := by omega
            by_cases hbad : 4294967296 ≤ q ∨ 4294967296 * r + d0 < b
            · obtain ⟨g1, g2, g3, g4⟩ := guess_down R d0 y1 y0 q r y1b.1 (by have := G0.out.2.1; omega) d0b hqr (by rw [← hb]; exact hbad) hqK
              have i7 : (1 : Int) ≤ (q : Int) := by omega
              have HG := Lib.hid (And.intro g2 (And.intro g3 g4))
              clear g2 g3 g4 hge hqr hb
              by_cases hbr : r + y1 < 4294967296
              · have t3 : decide ((4294967296 : Int) ≤ (r : Int) + (y1 : Int)) = false := decide_eq_false (by omega)
                have HB := Lib.hid hbr
                by_cases hk : 4294967296 ≤ q
                · have t1 : decide ((4294967296 : Int) ≤ (q : Int)) = true := decide_eq_true (by omega)
                  clear hbad hk hbr hqK hrK g1
                  go_wp2_with fail
                  go_round
                  case rel => exact ⟨q - 1, r + y1, int_congr (by omega), int_congr (by omega), HG.out.1, HG.out.2.1, by have := HG.out.2.2; omega, HB.out⟩
                  case measure => simp [intOf]; omega
                · have hbad' : 4294967296 * r + d0 < b := by omega
                  have t1 : decide ((4294967296 : Int) ≤ (q : Int)) = false := decide_eq_false (by omega)
                  have t2 : decide ((4294967296 : Int) * (r : Int) + (d0 : Int) < (b : Int)) = true := decide_eq_true (by omega)
                  clear hbad hk hbr hqK hrK g1 hbad'
                  go_wp2_with fail
                  go_round
                  case rel => exact ⟨q - 1, r + y1, int_congr (by omega), int_congr (by omega), HG.out.1, HG.out.2.1, by have := HG.out.2.2; omega, HB.out⟩
                  case measure => simp [intOf]; omega
              · have t3 : decide ((4294967296 : Int) ≤ (r : Int) + (y1 : Int)) = true := decide_eq_true (by omega)
                obtain ⟨QB, hQq⟩ : ∃ Q, Q = q - 1 := ⟨_, rfl⟩
                have eQB : (q : Int) - 1 = (QB : Int) := by omega
                have hQ := digit_found y1 y0 R d0 (q - 1) (r + y1) y1b.1 (by have := G0.out.2.1; omega) d0b HG.out.1 HG.out.2.1 (guess_break 4294967296 y0 (q - 1) (r + y1) d0 HG.out.2.2 y0b (by omega))
                rw [← hQq] at hQ
                have HQB := Lib.hid hQ
                clear hQ hQq HG
                by_cases hk : 4294967296 ≤ q
                · have t1 : decide ((4294967296 : Int) ≤ (q : Int)) = true := decide_eq_true (by omega)
                  clear hbad hk hbr hqK hrK g1
                  go_wp2_with fail
                  go_ret2
                  have EF := two_fit hi lo y s yn u v d1 d0 R _ QB HN.out.2.2.1 hlt HYN.out (by have := HN.out.1; omega) G0.out.1 G0.out.2.2.1 HR.out HQY.out (by rewrite [G0.out.2.1]; exact HQB.out)
                  refine ⟨⟨IntKind.u64.wrap (IntKind.u64.wrap (IntKind.u64.wrap ((R : Int) * 4294967296) + (d0 : Int)) - IntKind.u64.wrap ((QB : Int) * (yn : Int))) / 2 ^ s, congrArg (fun a => Ending.returned (Value.tuple #[.int .u64 a, .int .u64 (IntKind.u64.wrap (IntKind.u64.wrap (IntKind.u64.wrap ((R : Int) * 4294967296) + (d0 : Int)) - IntKind.u64.wrap ((QB : Int) * (yn : Int))) / 2 ^ s)])) EF⟩, 0, ?_⟩
                  first | rfl | exact (World.drewN_zero _).symm | simp [World.drewN]
                · have hbad' : 4294967296 * r + d0 < b := by omega
                  have t1 : decide ((4294967296 : Int) ≤ (q : Int)) = false := decide_eq_false (by omega)
                  have t2 : decide ((4294967296 : Int) * (r : Int) + (d0 : Int) < (b : Int)) = true := decide_eq_true (by omega)
                  clear hbad hk hbr hqK hrK g1 hbad'
                  go_wp2_with fail
                  go_ret2
                  have EF := two_fit hi lo y s yn u v d1 d0 R _ QB HN.out.2.2.1 hlt HYN.out (by have := HN.out.1; omega) G0.out.1 G0.out.2.2.1 HR.out HQY.out (by rewrite [G0.out.2.1]; exact HQB.out)
                  refine ⟨⟨IntKind.u64.wrap (IntKind.u64.wrap (IntKind.u64.wrap ((R : Int) * 4294967296) + (d0 : Int)) - IntKind.u64.wrap ((QB : Int) * (yn : Int))) / 2 ^ s, congrArg (fun a => Ending.returned (Value.tuple #[.int .u64 a, .int .u64 (IntKind.u64.wrap (IntKind.u64.wrap (IntKind.u64.wrap ((R : Int) * 4294967296) + (d0 : Int)) - IntKind.u64.wrap ((QB : Int) * (yn : Int))) / 2 ^ s)])) EF⟩, 0, ?_⟩
                  first | rfl | exact (World.drewN_zero _).symm | simp [World.drewN]
            · have hgood : b ≤ 4294967296 * r + d0 := by omega
              have hQ := digit_found y1 y0 R d0 q r y1b.1 (by have := G0.out.2.1; omega) d0b hqr hge (by rw [← hb]; exact hgood)
              have t1 : decide ((4294967296 : Int) ≤ (q : Int)) = false := decide_eq_false (by omega)
              have t2 : decide ((4294967296 : Int) * (r : Int) + (d0 : Int) < (b : Int)) = false := decide_eq_false (by omega)
              have HQB := Lib.hid hQ
              clear hQ hqr hge hb hbad hgood hqK hrK
              go_wp2_with fail
              go_ret2
              have EF := two_fit hi lo y s yn u v d1 d0 R _ q HN.out.2.2.1 hlt HYN.out (by have := HN.out.1; omega) G0.out.1 G0.out.2.2.1 HR.out HQY.out (by rewrite [G0.out.2.1]; exact HQB.out)
              refine ⟨⟨IntKind.u64.wrap (IntKind.u64.wrap (IntKind.u64.wrap ((R : Int) * 4294967296) + (d0 : Int)) - IntKind.u64.wrap ((q : Int) * (yn : Int))) / 2 ^ s, congrArg (fun a => Ending.returned (Value.tuple #[.int .u64 a, .int .u64 (IntKind.u64.wrap (IntKind.u64.wrap (IntKind.u64.wrap ((R : Int) * 4294967296) + (d0 : Int)) - IntKind.u64.wrap ((q : Int) * (yn : Int))) / 2 ^ s)])) EF⟩, 0, ?_⟩
              first | rfl | exact (World.drewN_zero _).symm | simp [World.drewN]
    · have hgood : b ≤ 4294967296 * r + d1 := by omega
      have hQ := digit_found y1 y0 u d1 q r y1b.1 (by have := G0.out.2.1; omega) d1b hqr hge (by rw [← hb]; exact hgood)
      have t1 : decide ((4294967296 : Int) ≤ (q : Int)) = false := decide_eq_false (by omega)
      have t2 : decide ((4294967296 : Int) * (r : Int) + (d1 : Int) < (b : Int)) = false := decide_eq_false (by omega)
      have HQ := Lib.hid hQ
      clear hQ hqr hge hb hbad hgood hqK hrK
      have HQY := Lib.hid (show q = (u * 4294967296 + d1) / yn from by rewrite [G0.out.2.1]; exact HQ.out)
      obtain ⟨R, hR⟩ : ∃ R, R = (u * 4294967296 + d1) % yn := ⟨_, rfl⟩
      have hRy : R < yn := by rw [hR]; exact Nat.mod_lt _ (by have := HN.out.1; omega)
      have hn2 : yn < 18446744073709551616 := HN.out.2.1
      have EU := after_digit u d1 yn q R hn2 (by omega) HQY.out hR
      have HR := Lib.hid hR
      obtain ⟨qB, pB, rB, s1, s2, s3, s4, s5⟩ := guess_start R d0 y1 y0 y1b.1 y1b.2 y0b (by have := G0.out.2.1; omega) d0b
      have S5 := Lib.hid s5
      have s6 : qB ≤ 4294967297 := s5.2.2.1
      clear hR s5
      go_wp2_with fail
      clear s1 s2 s3 s4 s6 EU hn2 i1 i2 i3 i4 i5 i6 t1 t2 eb
      go_loop [18, 16] (fun qv rv => GuessInv R d0 y1 y0 qv rv) (fun qv _ => (intOf qv).toNat)
      case atStart => exact ⟨qB, rB, rfl, rfl, S5.out⟩
      case round =>
        obtain ⟨q, r, rfl, rfl, hqr, hge, hqK, hrK⟩ := hrel
        have hb1 : q * y0 ≤ 4294967297 * 4294967295 := Nat.mul_le_mul hqK (by omega)
        obtain ⟨b, hb⟩ : ∃ b, b = q * y0 := ⟨_, rfl⟩
        have eb : IntKind.u64.wrap ((q : Int) * (y0 : Int)) = (b : Int) := by rw [hb, ← Int.natCast_mul]; exact u64_nat _ (by omega)
        clear hb1
        have i1 : (q : Int) ≤ 4294967297 := by omega
        have i2 : (r : Int) < 4294967296 := by omega
        have i3 : (y1 : Int) < 4294967296 := by omega
        have i4 : (d0 : Int) < 4294967296 := by omega
        have i5 : (0 : Int) ≤ (b : Int) := by omega
        have i6 : (2147483648 : Int) ≤ (y1 : Int) := by omega
        by_cases hbad : 4294967296 ≤ q ∨ 4294967296 * r + d0 < b
        · obtain ⟨g1, g2, g3, g4⟩ := guess_down R d0 y1 y0 q r y1b.1 (by have := G0.out.2.1; omega) d0b hqr (by rw [← hb]; exact hbad) hqK
          have i7 : (1 : Int) ≤ (q : Int) := by omega
          have HG := Lib.hid (And.intro g2 (And.intro g3 g4))
          clear g2 g3 g4 hge hqr hb
          by_cases hbr : r + y1 < 4294967296
          · have t3 : decide ((4294967296 : Int) ≤ (r : Int) + (y1 : Int)) = false := decide_eq_false (by omega)
            have HB := Lib.hid hbr
            by_cases hk : 4294967296 ≤ q
            · have t1 : decide ((4294967296 : Int) ≤ (q : Int)) = true := decide_eq_true (by omega)
              clear hbad hk hbr hqK hrK g1
              go_wp2_with fail
              go_round
              case rel => exact ⟨q - 1, r + y1, int_congr (by omega), int_congr (by omega), HG.out.1, HG.out.2.1, by have := HG.out.2.2; omega, HB.out⟩
              case measure => simp [intOf]; omega
            · have hbad' : 4294967296 * r + d0 < b := by omega
              have t1 : decide ((4294967296 : Int) ≤ (q : Int)) = false := decide_eq_false (by omega)
              have t2 : decide ((4294967296 : Int) * (r : Int) + (d0 : Int) < (b : Int)) = true := decide_eq_true (by omega)
              clear hbad hk hbr hqK hrK g1 hbad'
              go_wp2_with fail
              go_round
              case rel => exact ⟨q - 1, r + y1, int_congr (by omega), int_congr (by omega), HG.out.1, HG.out.2.1, by have := HG.out.2.2; omega, HB.out⟩
              case measure => simp [intOf]; omega
          · have t3 : decide ((4294967296 : Int) ≤ (r : Int) + (y1 : Int)) = true := decide_eq_true (by omega)
            obtain ⟨QB, hQq⟩ : ∃ Q, Q = q - 1 := ⟨_, rfl⟩
            have eQB : (q : Int) - 1 = (QB : Int) := by omega
            have hQ := digit_found y1 y0 R d0 (q - 1) (r + y1) y1b.1 (by have := G0.out.2.1; omega) d0b HG.out.1 HG.out.2.1 (guess_break 4294967296 y0 (q - 1) (r + y1) d0 HG.out.2.2 y0b (by omega))
            rw [← hQq] at hQ
            have HQB := Lib.hid hQ
            clear hQ hQq HG
            by_cases hk : 4294967296 ≤ q
            · have t1 : decide ((4294967296 : Int) ≤ (q : Int)) = true := decide_eq_true (by omega)
              clear hbad hk hbr hqK hrK g1
              go_wp2_with fail
              go_ret2
              have EF := two_fit hi lo y s yn u v d1 d0 R _ QB HN.out.2.2.1 hlt HYN.out (by have := HN.out.1; omega) G0.out.1 G0.out.2.2.1 HR.out HQY.out (by rewrite [G0.out.2.1]; exact HQB.out)
              refine ⟨⟨IntKind.u64.wrap (IntKind.u64.wrap (IntKind.u64.wrap ((R : Int) * 4294967296) + (d0 : Int)) - IntKind.u64.wrap ((QB : Int) * (yn : Int))) / 2 ^ s, congrArg (fun a => Ending.returned (Value.tuple #[.int .u64 a, .int .u64 (IntKind.u64.wrap (IntKind.u64.wrap (IntKind.u64.wrap ((R : Int) * 4294967296) + (d0 : Int)) - IntKind.u64.wrap ((QB : Int) * (yn : Int))) / 2 ^ s)])) EF⟩, 0, ?_⟩
              first | rfl | exact (World.drewN_zero _).symm | simp [World.drewN]
            · have hbad' : 4294967296 * r + d0 < b := by omega
              have t1 : decide ((4294967296 : Int) ≤ (q : Int)) = false := decide_eq_false (by omega)
              have t2 : decide ((4294967296 : Int) * (r : Int) + (d0 : Int) < (b : Int)) = true := decide_eq_true (by omega)
              clear hbad hk hbr hqK hrK g1 hbad'
              go_wp2_with fail
              go_ret2
              have EF := two_fit hi lo y s yn u v d1 d0 R _ QB HN.out.2.2.1 hlt HYN.out (by have := HN.out.1; omega) G0.out.1 G0.out.2.2.1 HR.out HQY.out (by rewrite [G0.out.2.1]; exact HQB.out)
              refine ⟨⟨IntKind.u64.wrap (IntKind.u64.wrap (IntKind.u64.wrap ((R : Int) * 4294967296) + (d0 : Int)) - IntKind.u64.wrap ((QB : Int) * (yn : Int))) / 2 ^ s, congrArg (fun a => Ending.returned (Value.tuple #[.int .u64 a, .int .u64 (IntKind.u64.wrap (IntKind.u64.wrap (IntKind.u64.wrap ((R : Int) * 4294967296) + (d0 : Int)) - IntKind.u64.wrap ((QB : Int) * (yn : Int))) / 2 ^ s)])) EF⟩, 0, ?_⟩
              first | rfl | exact (World.drewN_zero _).symm | simp [World.drewN]
        · have hgood : b ≤ 4294967296 * r + d0 := by omega
          have hQ := digit_found y1 y0 R d0 q r y1b.1 (by have := G0.out.2.1; omega) d0b hqr hge (by rw [← hb]; exact hgood)
          have t1 : decide ((4294967296 : Int) ≤ (q : Int)) = false := decide_eq_false (by omega)
          have t2 : decide ((4294967296 : Int) * (r : Int) + (d0 : Int) < (b : Int)) = false := decide_eq_false (by omega)
          have HQB := Lib.hid hQ
          clear hQ hqr hge hb hbad hgood hqK hrK
          go_wp2_with fail
          go_ret2
          have EF := two_fit hi lo y s yn u v d1 d0 R _ q HN.out.2.2.1 hlt HYN.out (by have := HN.out.1; omega) G0.out.1 G0.out.2.2.1 HR.out HQY.out (by rewrite [G0.out.2.1]; exact HQB.out)
          refine ⟨⟨IntKind.u64.wrap (IntKind.u64.wrap (IntKind.u64.wrap ((R : Int) * 4294967296) + (d0 : Int)) - IntKind.u64.wrap ((q : Int) * (yn : Int))) / 2 ^ s, congrArg (fun a => Ending.returned (Value.tuple #[.int .u64 a, .int .u64 (IntKind.u64.wrap (IntKind.u64.wrap (IntKind.u64.wrap ((R : Int) * 4294967296) + (d0 : Int)) - IntKind.u64.wrap ((q : Int) * (yn : Int))) / 2 ^ s)])) EF⟩, 0, ?_⟩
          first | rfl | exact (World.drewN_zero _).symm | simp [World.drewN]
end Go.Proofs.YtebadokchhnmfaaDoor
