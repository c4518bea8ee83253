/- The contract of atLeast: how often one row of limbs goes into another one, or less. -/
import Derived.Test.YtebadokchhnmfaaDoorJ0
import Derived.Test.YtebadokchhnmfaaDoorH3
import Derived.Test.YtebadokchhnmfaaDoorL1
import Derived.Deep.RegionHeld3
namespace Go.Proofs.YtebadokchhnmfaaDoor
open Go.RowKit Go.BigM
set_option linter.unusedVariables false
set_option linter.unusedSimpArgs false

theorem pair_is (a b P : Nat) (ha : a < 1000000000) (hb : b < 1000000000) (hP : P = a * 1000000000 + b) (n : Nat) (w : World) :
    Calls Tryd.prog 66 #[.int .u32 a, .int .u32 b] (w.drewN n) fun e w' => e = .returned (.int .u64 (P : Int)) ∧ w' = w.drewN n := by
  subst hP
  exact (pair_any a b ha hb _).mono fun _ _ h => ⟨h.1, h.2.symm⟩
theorem mul64_is (x h l : Nat) (hx : x < 1000000000000000000) (hh : h = x * 1000000000 / 18446744073709551616) (hl : l = x * 1000000000 % 18446744073709551616) (n : Nat) (w : World) :
    Calls Tryd.prog 67 #[.int .u64 x, .int .u64 1000000000] (w.drewN n) fun e w' => e = .returned (.tuple #[.int .u64 (h : Int), .int .u64 (l : Int)]) ∧ w' = w.drewN n := by
  subst hh hl
  exact (mul64_base x hx _).mono fun _ _ h => ⟨h.1, h.2.symm⟩

/-- How often, or less. -/
def RetK (D V : List Nat) (w : World) (e : Ending) (w' : World) : Prop :=
  ∃ k : Nat, e = .returned (.int .u32 (k : Int)) ∧ k * lval V ≤ lval D ∧ k < 4294967296 ∧ ∃ m, w' = w.drewN m

theorem k_lt (k V P : Nat) (h : k * V ≤ P) (hlt : P < B * V) : k < B := Nat.lt_of_mul_lt_mul_right (Nat.lt_of_le_of_lt h hlt)

set_option maxHeartbeats 1000000 in
theorem atLeast_one (g1 o1 c1 g2 c2 : Nat) (D V : List Nat) (hD : D.length = 2) (hV : V.length = 1) (sD : Small D) (sV : Small V) (h0 : 0 < lg V 0) (hlt : lval D < B * lval V) (w : World)
    (hc : ∀ j, j < 2 → w.cell? ⟨g1, o1 + j, none⟩ = some (.int .u32 (lg D j : Nat)))
    (hv : ∀ j, j < 1 → w.cell? ⟨g2, j, none⟩ = some (.int .u32 (lg V j : Nat))) :
    Calls Tryd.prog 62 #[.slice (some ⟨g1, o1, none⟩) 2 c1, .slice (some ⟨g2, 0, none⟩) 1 c2] w (RetK D V w) := by
  have d1 := hc 1 (by omega)
  have d0 := hc 0 (by omega)
  have v0 := hv 0 (by omega)
  rw [Nat.add_zero] at d0
  have eD := two_is D hD
  have eV := one_is V hV
  have a1 := lg_lt sD 1
  have a0 := lg_lt sD 0
  have b0 := lg_lt sV 0
  obtain ⟨x1, hx1⟩ : ∃ x, x = lg D 1 := ⟨_, rfl⟩
  obtain ⟨x0, hx0⟩ : ∃ x, x = lg D 0 := ⟨_, rfl⟩
  obtain ⟨y0, hy0⟩ : ∃ x, x = lg V 0 := ⟨_, rfl⟩
  rw [← hx1] at d1 a1 eD
  rw [← hx0] at d0 a0 eD
  rw [← hy0] at v0 b0 h0 eV
  obtain ⟨P, hP⟩ : ∃ P, P = x1 * 1000000000 + x0 := ⟨_, rfl⟩
  have F := pair_is x1 x0 P a1 a0 hP
  have eD' : lval D = P := by rw [eD, hP]; rfl
  have hk1 : P / y0 * lval V ≤ lval D := by rw [eD', eV]; exact Nat.div_mul_le_self _ _
  have hk2 := k_lt _ _ _ hk1 hlt
  obtain ⟨k, hk⟩ : ∃ k, k = P / y0 := ⟨_, rfl⟩
  have hki : (P : Int) / (y0 : Int) = (k : Int) := by rw [hk]; exact (Int.natCast_ediv P y0).symm
  rw [← hk] at hk1 hk2
  have hk3 : k < 1000000000 := hk2
  have y1 : (1 : Int) ≤ (y0 : Int) := by omega
  have K1 := Lib.hid hk1
  have HF := Lib.hid F
  clear hx1 hx0 hy0 hP eD eD' eV hk hk1 hk2 F hc hv hlt hD hV sD sV
  go_enter Tryd.func62, Tryd.ntmps62
  go_wp2_with fail
  go_quiet ((go_at_call 66; exact Calls.quiet_of_same (HF.out _ _)))
  go_wp2_with fail
  go_ret
  exact ⟨k, rfl, K1.out, by omega, nq, rfl⟩

set_option maxHeartbeats 2000000 in
theorem atLeast_many (m g1 o1 c1 g2 c2 : Nat) (D V : List Nat) (hm : m ≤ 40) (hD : D.length = m + 3) (hV : V.length = m + 2) (sD : Small D) (sV : Small V) (h0 : 0 < lg V (m + 1)) (hlt : lval D < B * lval V) (w : World)
    (hc : ∀ j, j < m + 3 → w.cell? ⟨g1, o1 + j, none⟩ = some (.int .u32 (lg D j : Nat)))
    (hv : ∀ j, j < m + 2 → w.cell? ⟨g2, j, none⟩ = some (.int .u32 (lg V j : Nat))) :
    Calls Tryd.prog 62 #[.slice (some ⟨g1, o1, none⟩) (m + 3) c1, .slice (some ⟨g2, 0, none⟩) (m + 2) c2] w (RetK D V w) := by
  have d1 := hc (m + 2) (by omega)
  have d0 := hc (m + 1) (by omega)
  have v1 := hv (m + 1) (by omega)
  have v0 := hv m (by omega)
  have a1 := lg_lt sD (m + 2)
  have a0 := lg_lt sD (m + 1)
  have b1 := lg_lt sV (m + 1)
  have b0 := lg_lt sV m
  have hk1 := guess_div D V m hD hV sV
  obtain ⟨x1, hx1⟩ : ∃ x, x = lg D (m + 2) := ⟨_, rfl⟩
  obtain ⟨x0, hx0⟩ : ∃ x, x = lg D (m + 1) := ⟨_, rfl⟩
  obtain ⟨y1, hy1⟩ : ∃ x, x = lg V (m + 1) := ⟨_, rfl⟩
  obtain ⟨y0, hy0⟩ : ∃ x, x = lg V m := ⟨_, rfl⟩
  rw [← hx1] at d1 a1 hk1
  rw [← hx0] at d0 a0 hk1
  rw [← hy1] at v1 b1 h0 hk1
  rw [← hy0] at v0 b0 hk1
  obtain ⟨P, hP⟩ : ∃ P, P = x1 * 1000000000 + x0 := ⟨_, rfl⟩
  obtain ⟨Q, hQ⟩ : ∃ Q, Q = y1 * 1000000000 + y0 := ⟨_, rfl⟩
  obtain ⟨h, hh⟩ : ∃ h, h = P * 1000000000 / 18446744073709551616 := ⟨_, rfl⟩
  obtain ⟨l, hl⟩ : ∃ l, l = P * 1000000000 % 18446744073709551616 := ⟨_, rfl⟩
  have hPb : P < 1000000000000000000 := by omega
  have F1 := pair_is x1 x0 P a1 a0 hP
  have F2 := mul64_is P h l hPb hh hl
  have F3 := pair_is y1 y0 Q b1 b0 hQ
  have hN : h * 18446744073709551616 + l = P * 1000000000 := by rw [hh, hl]; exact Nat.div_add_mod' _ _
  have hQ1 : Q + 1 < 2000000000000000000 := by omega
  have hQ0 : 1000000000 ≤ Q := by omega
  have hhl : h < Q + 1 := by omega
  have hll : l < 18446744073709551616 := by rw [hl]; exact Nat.mod_lt _ (by decide)
  have F4 := fun w => div64_any h l (Q + 1) hhl hll (by omega) w
  rw [hN] at F4
  have e1 : (x1 * B + x0) * B / (y1 * B + y0 + 1) = P * 1000000000 / (Q + 1) := by rw [hP, hQ]; rfl
  rw [e1] at hk1
  have hk2 := k_lt _ _ _ hk1 hlt
  obtain ⟨k, hk⟩ : ∃ k, k = P * 1000000000 / (Q + 1) := ⟨_, rfl⟩
  rw [← hk] at hk1 hk2 F4
  have hk3 : k < 1000000000 := hk2
  have K1 := Lib.hid hk1
  have H1 := Lib.hid F1
  have H2 := Lib.hid F2
  have H3 := Lib.hid F3
  have F5 : ∀ w, Calls Tryd.prog 68 #[.int .u64 (h : Int), .int .u64 (l : Int), .int .u64 ((Q : Int) + 1)] w fun e w' => ∃ r : Int, e = .returned (.tuple #[.int .u64 (k : Int), .int .u64 r]) ∧ ∃ m, w' = w.drewN m := F4
  have H4 := Lib.hid F5
  have HH : Hid (h < 18446744073709551616 ∧ l < 18446744073709551616) := ⟨by omega, hll⟩
  have q1 : ((m : Int) + 2 == 1) = false := beq_eq_false_iff_ne.2 (by omega)
  have s1 : IntKind.i64.wrap ((m : Int) + 2 - 1) = (m : Int) + 1 := by rw [IntWalk.i64_in _ (by omega)]; omega
  have s2 : IntKind.i64.wrap ((m : Int) + 2 - 2) = (m : Int) := by rw [IntWalk.i64_in _ (by omega)]; omega
  have s3 : (0 : Int) ≤ (m : Int) + 1 := by omega
  have s4 : ((m : Int) + 1).toNat = m + 1 := by omega
  have s5 : ((m : Int) + 2).toNat = m + 2 := by omega
  have s6 : IntKind.i64.wrap (m : Int) = (m : Int) := IntWalk.i64_in _ (by omega)
  have s7 : ¬ ((m : Int) + 2 ≤ (m : Int)) := by omega
  clear hx1 hx0 hy1 hy0 hP hQ hk hk1 hk2 F1 F2 F3 F4 F5 hc hv hlt hD hV sD sV hh hl hN e1 hll hhl hPb
  go_enter Tryd.func62, Tryd.ntmps62
  go_wp2_with fail
  go_quiet (first | (go_at_call 66; exact Calls.quiet_of_same (H1.out _ _)) | (go_at_call 67; exact Calls.quiet_of_same (H2.out _ _)))
  go_wp2_with fail
  obtain ⟨w0, hw0⟩ : ∃ w0, w0 = w.drewN nq := ⟨_, rfl⟩
  have v1 : w0.cell? ⟨g2, m + 1, none⟩ = some (.int .u32 (y1 : Nat)) := by rw [hw0]; exact v1
  have v0 : w0.cell? ⟨g2, m, none⟩ = some (.int .u32 (y0 : Nat)) := by rw [hw0]; exact v0
  have HW := Lib.hid hw0
  rw [← hw0]
  clear hw0
  refine wp_region_noPanic ?_
  refine wp_region_held_drew (S := fun w' => w'.cell? ⟨g2, m + 1, none⟩ = some (.int .u32 (y1 : Nat)) ∧ w'.cell? ⟨g2, m, none⟩ = some (.int .u32 (y0 : Nat))) (by kernel_rfl) (⟨v1, v0⟩) (fun hHeld => ?_)
  refine wpAnyH_take (i := 0) (v := .int .u64 h) rfl (by kernel_rfl) (by kernel_rfl) (by kernel_rfl) (fun _ _ _ h => h) (Or.inl ⟨rfl, fun w' hw' => ?_⟩) hHeld ?_
  · go_simp
  simp only [List.getElem_toArray, List.getElem_cons_succ, List.getElem_cons_zero, Act.put, List.setIfInBounds_toArray, List.set_cons_zero, List.set_cons_succ]
  refine wpAnyH_take (i := 1) (v := .int .u64 l) rfl (by kernel_rfl) (by kernel_rfl) (by kernel_rfl) (fun _ _ _ h => h) (Or.inl ⟨rfl, fun w' hw' => ?_⟩) hHeld ?_
  · go_simp
  simp only [List.getElem_toArray, List.getElem_cons_succ, List.getElem_cons_zero, Act.put, List.setIfInBounds_toArray, List.set_cons_zero, List.set_cons_succ]
  refine wpAnyH_take (i := 2) (v := .slice (some ⟨g2, 0, none⟩) (m + 2) c2) rfl (by kernel_rfl) (by kernel_rfl) (by kernel_rfl) (fun _ _ _ h => h) (Or.inl ⟨rfl, fun w' hw' => ?_⟩) hHeld ?_
  · go_simp
  simp only [List.getElem_toArray, List.getElem_cons_succ, List.getElem_cons_zero, Act.put, List.setIfInBounds_toArray, List.set_cons_zero, List.set_cons_succ]
  refine wpAnyH_take (i := 3) (v := .int .i64 ((m : Int) + 2)) rfl (by kernel_rfl) (by kernel_rfl) (by kernel_rfl) (fun _ _ _ h => h) (Or.inl ⟨rfl, fun w' hw' => ?_⟩) hHeld ?_
  · go_simp
  simp only [List.getElem_toArray, List.getElem_cons_succ, List.getElem_cons_zero, Act.put, List.setIfInBounds_toArray, List.set_cons_zero, List.set_cons_succ]
  refine wpAnyH_take (i := 4) (v := .int .i64 ((m : Int) + 1)) rfl (by kernel_rfl) (by kernel_rfl) (by kernel_rfl) (fun _ _ _ h => h) (Or.inl ⟨rfl, fun w' hw' => ?_⟩) hHeld ?_
  · go_simp
  simp only [List.getElem_toArray, List.getElem_cons_succ, List.getElem_cons_zero, Act.put, List.setIfInBounds_toArray, List.set_cons_zero, List.set_cons_succ]
  refine wpAnyH_take (i := 5) (v := .pointer (some ⟨g2, m + 1, none⟩)) rfl (by kernel_rfl) (by kernel_rfl) (by kernel_rfl) (fun _ _ _ h => h) (Or.inl ⟨rfl, fun w' hw' => ?_⟩) hHeld ?_
  · go_simp
  simp only [List.getElem_toArray, List.getElem_cons_succ, List.getElem_cons_zero, Act.put, List.setIfInBounds_toArray, List.set_cons_zero, List.set_cons_succ]
  refine wpAnyH_take (i := 6) (v := .int .u32 y1) rfl (by kernel_rfl) (by kernel_rfl) (by kernel_rfl) (fun _ _ _ h => h) (Or.inl ⟨rfl, fun w' hw' => ?_⟩) hHeld ?_
  · have hc := hw'.1; go_simp
  simp only [List.getElem_toArray, List.getElem_cons_succ, List.getElem_cons_zero, Act.put, List.setIfInBounds_toArray, List.set_cons_zero, List.set_cons_succ]
  refine wpAnyH_take (i := 7) (v := .slice (some ⟨g2, 0, none⟩) (m + 2) c2) rfl (by kernel_rfl) (by kernel_rfl) (by kernel_rfl) (fun _ _ _ h => h) (Or.inl ⟨rfl, fun w' hw' => ?_⟩) hHeld ?_
  · go_simp
  simp only [List.getElem_toArray, List.getElem_cons_succ, List.getElem_cons_zero, Act.put, List.setIfInBounds_toArray, List.set_cons_zero, List.set_cons_succ]
  refine wpAnyH_take (i := 8) (v := .int .i64 ((m : Int) + 2)) rfl (by kernel_rfl) (by kernel_rfl) (by kernel_rfl) (fun _ _ _ h => h) (Or.inl ⟨rfl, fun w' hw' => ?_⟩) hHeld ?_
  · go_simp
  simp only [List.getElem_toArray, List.getElem_cons_succ, List.getElem_cons_zero, Act.put, List.setIfInBounds_toArray, List.set_cons_zero, List.set_cons_succ]
  refine wpAnyH_take (i := 9) (v := .int .i64 (m : Int)) rfl (by kernel_rfl) (by kernel_rfl) (by kernel_rfl) (fun _ _ _ h => h) (Or.inl ⟨rfl, fun w' hw' => ?_⟩) hHeld ?_
  · go_simp
  simp only [List.getElem_toArray, List.getElem_cons_succ, List.getElem_cons_zero, Act.put, List.setIfInBounds_toArray, List.set_cons_zero, List.set_cons_succ]
  refine wpAnyH_take (i := 10) (v := .pointer (some ⟨g2, m, none⟩)) rfl (by kernel_rfl) (by kernel_rfl) (by kernel_rfl) (fun _ _ _ h => h) (Or.inl ⟨rfl, fun w' hw' => ?_⟩) hHeld ?_
  · go_simp
  simp only [List.getElem_toArray, List.getElem_cons_succ, List.getElem_cons_zero, Act.put, List.setIfInBounds_toArray, List.set_cons_zero, List.set_cons_succ]
  refine wpAnyH_take (i := 11) (v := .int .u32 y0) rfl (by kernel_rfl) (by kernel_rfl) (by kernel_rfl) (fun _ _ _ h => h) (Or.inl ⟨rfl, fun w' hw' => ?_⟩) hHeld ?_
  · have hc := hw'.2; go_simp
  simp only [List.getElem_toArray, List.getElem_cons_succ, List.getElem_cons_zero, Act.put, List.setIfInBounds_toArray, List.set_cons_zero, List.set_cons_succ]
  refine wpAnyH_ready (rs := [12]) (by kernel_rfl) (by simp) ?_
  refine AllReadyH.cons rfl (fun K hK => ?_) AllReadyH.nil
  go_simp
  refine (H3.out 1 w0).mono ?_
  rintro e w' ⟨rfl, rfl⟩
  refine hK.out _ _ ⟨v1, v0⟩ (fun hHeld => ?_)
  clear hK K
  try simp only [List.getElem_toArray, List.getElem_cons_succ, List.getElem_cons_zero, Act.put, List.setIfInBounds_toArray, List.set_cons_zero, List.set_cons_succ]
  refine wpAnyH_take (i := 13) (v := .int .u64 ((Q : Int) + 1)) rfl (by kernel_rfl) (by kernel_rfl) (by kernel_rfl) (fun _ _ _ h => h) (Or.inl ⟨rfl, fun w' hw' => ?_⟩) hHeld ?_
  · have s8 : IntKind.u64.wrap ((Q : Int) + 1) = (Q : Int) + 1 := IntWalk.u64_in _ (by omega)
    go_simp
  simp only [List.getElem_toArray, List.getElem_cons_succ, List.getElem_cons_zero, Act.put, List.setIfInBounds_toArray, List.set_cons_zero, List.set_cons_succ]
  refine wpAnyH_ready (rs := [14]) (by kernel_rfl) (by simp) ?_
  refine AllReadyH.cons rfl (fun K hK => ?_) AllReadyH.nil
  go_simp
  refine (H4.out _).mono ?_
  rintro e w' ⟨r, rfl, n2, rfl⟩
  refine hK.out _ _ ⟨v1, v0⟩ (fun hHeld => ?_)
  clear hK K
  try simp only [List.getElem_toArray, List.getElem_cons_succ, List.getElem_cons_zero, Act.put, List.setIfInBounds_toArray, List.set_cons_zero, List.set_cons_succ]
  refine wpAnyH_take (i := 15) (v := .tuple #[.int .u64 k, .int .u64 r]) rfl (by kernel_rfl) (by kernel_rfl) (by kernel_rfl) (fun _ _ _ h => h) (Or.inl ⟨rfl, fun w' hw' => ?_⟩) hHeld ?_
  · go_simp
  simp only [List.getElem_toArray, List.getElem_cons_succ, List.getElem_cons_zero, Act.put, List.setIfInBounds_toArray, List.set_cons_zero, List.set_cons_succ]
  refine wpAnyH_take (i := 16) (v := .int .u64 k) rfl (by kernel_rfl) (by kernel_rfl) (by kernel_rfl) (fun _ _ _ h => h) (Or.inl ⟨rfl, fun w' hw' => ?_⟩) hHeld ?_
  · go_simp
  simp only [List.getElem_toArray, List.getElem_cons_succ, List.getElem_cons_zero, Act.put, List.setIfInBounds_toArray, List.set_cons_zero, List.set_cons_succ]
  refine wpAnyH_take (i := 17) (v := .int .u64 r) rfl (by kernel_rfl) (by kernel_rfl) (by kernel_rfl) (fun _ _ _ h => h) (Or.inl ⟨rfl, fun w' hw' => ?_⟩) hHeld ?_
  · go_simp
  simp only [List.getElem_toArray, List.getElem_cons_succ, List.getElem_cons_zero, Act.put, List.setIfInBounds_toArray, List.set_cons_zero, List.set_cons_succ]
  refine wpAnyH_take (i := 18) (v := .int .u64 k) rfl (by kernel_rfl) (by kernel_rfl) (by kernel_rfl) (fun _ _ _ h => h) (Or.inl ⟨rfl, fun w' hw' => ?_⟩) hHeld ?_
  · go_simp
  simp only [List.getElem_toArray, List.getElem_cons_succ, List.getElem_cons_zero, Act.put, List.setIfInBounds_toArray, List.set_cons_zero, List.set_cons_succ]
  refine wpAnyH_take (i := 19) (v := .int .u64 r) rfl (by kernel_rfl) (by kernel_rfl) (by kernel_rfl) (fun _ _ _ h => h) (Or.inl ⟨rfl, fun w' hw' => ?_⟩) hHeld ?_
  · go_simp
  simp only [List.getElem_toArray, List.getElem_cons_succ, List.getElem_cons_zero, Act.put, List.setIfInBounds_toArray, List.set_cons_zero, List.set_cons_succ]
  refine wpAnyH_done (by kernel_rfl) ?_ _
  refine NoPanic.normal ?_
  clear hHeld
  go_wp2
  go_ret
  exact ⟨k, rfl, K1.out, by omega, _, by rw [HW.out, World.drewN_drewN]⟩

theorem atLeast_any (n g1 o1 c1 g2 c2 : Nat) (D V : List Nat) (h1 : 1 ≤ n) (hn : n ≤ 42) (hD : D.length = n + 1) (hV : V.length = n) (sD : Small D) (sV : Small V) (h0 : 0 < lg V (n - 1)) (hlt : lval D < B * lval V) (w : World)
    (hc : ∀ j, j < n + 1 → w.cell? ⟨g1, o1 + j, none⟩ = some (.int .u32 (lg D j : Nat)))
    (hv : ∀ j, j < n → w.cell? ⟨g2, j, none⟩ = some (.int .u32 (lg V j : Nat))) :
    Calls Tryd.prog 62 #[.slice (some ⟨g1, o1, none⟩) (n + 1) c1, .slice (some ⟨g2, 0, none⟩) n c2] w (RetK D V w) := by
  match n, h1 with
  | 1, _ => exact atLeast_one g1 o1 c1 g2 c2 D V hD hV sD sV h0 hlt w hc hv
  | m + 2, _ => exact atLeast_many m g1 o1 c1 g2 c2 D V (by omega) hD hV sD sV h0 hlt w hc hv
end Go.Proofs.YtebadokchhnmfaaDoor
