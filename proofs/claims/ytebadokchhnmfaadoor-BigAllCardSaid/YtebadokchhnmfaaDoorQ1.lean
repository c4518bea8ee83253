/- The contract of product. -/
import Derived.Test.YtebadokchhnmfaaDoorP1
import Derived.Test.YtebadokchhnmfaaDoorQ0
import Derived.Test.YtebadokchhnmfaaDoorS2
import Derived.Test.YtebadokchhnmfaaDoorL1
import Derived.BigQuiet
import Derived.Deep.RegionHeld3
namespace Go.Proofs.YtebadokchhnmfaaDoor
open Go.RowKit Go.BigM
set_option linter.unusedVariables false
set_option linter.unusedSimpArgs false

theorem window_i (g i n : Nat) (x : Int) (hx : x = ((i + n : Nat) : Int)) (hn : 0 < n) (hb : i + n ≤ 46) (w : World) :
    Calls Tryd.prog 50 #[.pointer (some ⟨g, 0, none⟩), .int .i64 i, .int .i64 x] w fun e w' => e = .returned (.slice (some ⟨g, i, none⟩) n n) ∧ w = w' := by
  subst hx
  have := window_any g 0 i (i + n) (by omega) hb (Or.inr (by omega)) w
  rw [Nat.zero_add, Nat.add_sub_cancel_left] at this
  exact this
/-- Behind i limbs of a product. -/
def ProdInv (w : World) (L M : List Nat) (u : Nat) (iv : Value) (wr : World) : Prop :=
  ∃ (i : Nat) (S : List Nat), i ≤ u ∧ iv = .int .i64 i ∧ S.length = 46 ∧ Small S ∧ lval S = lval (L.take i) * lval M ∧
    Row wr w.heap.size L 47 ∧ Row wr (w.heap.size + 1) M 47 ∧ Row wr (w.heap.size + 1 + 1) Z46 47 ∧ Row wr (w.heap.size + 1 + 1 + 1) S 47 ∧ Below w.heap.size w wr

set_option maxHeartbeats 2000000 in
set_option maxRecDepth 100000 in
theorem product_any (L M : List Nat) (hL : L.length = 46) (hM : M.length = 46) (sL : Small L) (sM : Small M) (hu : usedOf L ≤ 23) (hv : usedOf M ≤ 23) (w : World) :
    Calls Tryd.prog 36 #[.agg (U L), .agg (U M)] w (RetL w fun S => lval S = lval L * lval M) := by
  go_enter Tryd.func36, Tryd.ntmps36
  go_wp2_with fail
  rw [U_zeros]
  obtain ⟨r1, r2, r3, hb⟩ := three_rows w L M
  have q1 := r1.alloc (.cells (U Z46) 47)
  have q2 := r2.alloc (.cells (U Z46) 47)
  have q3 := r3.alloc (.cells (U Z46) 47)
  have q4 : Row ((((w.alloc (.cells (U L) 47)).alloc (.cells (U M) 47)).alloc (.cells (U Z46) 47)).alloc (.cells (U Z46) 47)) (w.heap.size + 1 + 1 + 1) Z46 47 := Row.new' _ _ _ _ (by simp)
  have qb := hb.alloc (by simp; omega) (.cells (U Z46) 47)
  generalize (((w.alloc (.cells (U L) 47)).alloc (.cells (U M) 47)).alloc (.cells (U Z46) 47)).alloc (.cells (U Z46) 47) = W at q1 q2 q3 q4 qb ⊢
  have Q1 := Lib.hid q1
  have Q2 := Lib.hid q2
  have Q3 := Lib.hid q3
  have Q4 := Lib.hid q4
  have QB := Lib.hid qb
  have HL := Lib.hid hL
  have HM := Lib.hid hM
  clear q1 q2 q3 q4 qb r1 r2 r3 hb hL hM
  obtain ⟨u, eu⟩ : ∃ u, u = usedOf L := ⟨_, rfl⟩
  obtain ⟨v, ev⟩ : ∃ v, v = usedOf M := ⟨_, rfl⟩
  rw [← eu] at hu
  rw [← ev] at hv
  have EU := Lib.hid eu
  have EV := Lib.hid ev
  clear eu ev
  refine (used_any _ 0 M HM.out W (Q2.out.cells 46 (by rw [HM.out]; omega))).mono ?_
  rintro e w' ⟨rfl, rfl⟩
  rw [← EV.out]
  go_wp2_with fail
  refine (window_z _ 0 v _ rfl (by omega) W).mono ?_
  rintro e w' ⟨rfl, rfl⟩
  go_wp2_with fail
  refine (used_any _ 0 L HL.out W (Q1.out.cells 46 (by rw [HL.out]; omega))).mono ?_
  rintro e w' ⟨rfl, rfl⟩
  rw [← EU.out]
  go_wp2_with fail
  go_loopw [11] (fun iv wr => ProdInv w L M u iv wr) (fun iv _ => u - (intOf iv).toNat)
  case atStart => exact ⟨0, Z46, Nat.zero_le _, rfl, rfl, Z46_small, by rw [Z46_val]; simp [lval], Q1.out, Q2.out, Q3.out, Q4.out, QB.out⟩
  case round =>
    obtain ⟨i, S, hi, rfl, hS, sS, vS, r1, r2, r3, r4, rb⟩ := hrel
    have S1 := Lib.hid hS
    have S2 := Lib.hid vS
    have K1 := Lib.hid r1
    have K2 := Lib.hid r2
    have K3 := Lib.hid r3
    have K4 := Lib.hid r4
    have KB := Lib.hid rb
    clear hS vS r1 r2 r3 r4 rb
    by_cases hlt : i < u
    · have e1 : IntKind.i64.wrap ((i : Int) + v) = (i : Int) + v := IntWalk.i64_in _ (by omega)
      have e2 : IntKind.i64.wrap ((i : Int) + v + 1) = (i : Int) + v + 1 := IntWalk.i64_in _ (by omega)
      have hi0 : (0 : Int) ≤ (i : Int) := by omega
      have hi46 : (i : Int) < 46 := by omega
      go_wp2_with fail
      refine wp_region_noPanic ?_
      refine wp_region_held_drew (S := fun w' => Row w' w.heap.size L 47) (by kernel_rfl) (K1.out) (fun hHeld => ?_)
      refine wpAnyH_take (i := 0) (v := .int .i64 i) rfl (by kernel_rfl) (by kernel_rfl) (by kernel_rfl) (fun _ _ _ h => h) (Or.inl ⟨rfl, fun w' hw' => ?_⟩) hHeld ?_
      · go_simp
      simp only [Act.put, List.setIfInBounds_toArray, List.set_cons_zero, List.set_cons_succ]
      refine wpAnyH_take (i := 1) (v := .int .i64 i) rfl (by kernel_rfl) (by kernel_rfl) (by kernel_rfl) (fun _ _ _ h => h) (Or.inl ⟨rfl, fun w' hw' => ?_⟩) hHeld ?_
      · go_simp
      simp only [Act.put, List.setIfInBounds_toArray, List.set_cons_zero, List.set_cons_succ]
      refine wpAnyH_take (i := 2) (v := .slice (some ⟨w.heap.size + 1, 0, none⟩) v v) rfl (by kernel_rfl) (by kernel_rfl) (by kernel_rfl) (fun _ _ _ h => h) (Or.inl ⟨rfl, fun w' hw' => ?_⟩) hHeld ?_
      · go_simp
      simp only [Act.put, List.setIfInBounds_toArray, List.set_cons_zero, List.set_cons_succ]
      refine wpAnyH_take (i := 3) (v := .int .i64 v) rfl (by kernel_rfl) (by kernel_rfl) (by kernel_rfl) (fun _ _ _ h => h) (Or.inl ⟨rfl, fun w' hw' => ?_⟩) hHeld ?_
      · go_simp
      simp only [Act.put, List.setIfInBounds_toArray, List.set_cons_zero, List.set_cons_succ]
      refine wpAnyH_take (i := 4) (v := .int .i64 ((i : Int) + v)) rfl (by kernel_rfl) (by kernel_rfl) (by kernel_rfl) (fun _ _ _ h => h) (Or.inl ⟨rfl, fun w' hw' => ?_⟩) hHeld ?_
      · go_simp
      simp only [Act.put, List.setIfInBounds_toArray, List.set_cons_zero, List.set_cons_succ]
      refine wpAnyH_take (i := 5) (v := .int .i64 ((i : Int) + v + 1)) rfl (by kernel_rfl) (by kernel_rfl) (by kernel_rfl) (fun _ _ _ h => h) (Or.inl ⟨rfl, fun w' hw' => ?_⟩) hHeld ?_
      · go_simp
      simp only [Act.put, List.setIfInBounds_toArray, List.set_cons_zero, List.set_cons_succ]
      refine wpAnyH_take (i := 7) (v := .slice (some ⟨w.heap.size + 1, 0, none⟩) v v) rfl (by kernel_rfl) (by kernel_rfl) (by kernel_rfl) (fun _ _ _ h => h) (Or.inl ⟨rfl, fun w' hw' => ?_⟩) hHeld ?_
      · go_simp
      simp only [Act.put, List.setIfInBounds_toArray, List.set_cons_zero, List.set_cons_succ]
      refine wpAnyH_take (i := 8) (v := .int .i64 i) rfl (by kernel_rfl) (by kernel_rfl) (by kernel_rfl) (fun _ _ _ h => h) (Or.inl ⟨rfl, fun w' hw' => ?_⟩) hHeld ?_
      · go_simp
      simp only [Act.put, List.setIfInBounds_toArray, List.set_cons_zero, List.set_cons_succ]
      refine wpAnyH_take (i := 9) (v := .pointer (some ⟨w.heap.size, i, none⟩)) rfl (by kernel_rfl) (by kernel_rfl) (by kernel_rfl) (fun _ _ _ h => h) (Or.inl ⟨rfl, fun w' hw' => ?_⟩) hHeld ?_
      · go_simp
      simp only [Act.put, List.setIfInBounds_toArray, List.set_cons_zero, List.set_cons_succ]
      refine wpAnyH_take (i := 10) (v := .int .u32 (lg L i : Nat)) rfl (by kernel_rfl) (by kernel_rfl) (by kernel_rfl) (fun _ _ _ h => h) (Or.inl ⟨rfl, fun w' hw' => ?_⟩) hHeld ?_
      · have hc := Row.cell hw' i (by rw [HL.out]; omega); go_simp
      simp only [Act.put, List.setIfInBounds_toArray, List.set_cons_zero, List.set_cons_succ]
      refine wpAnyH_ready (rs := [6]) (by kernel_rfl) (by simp) ?_
      refine AllReadyH.cons rfl (fun K hK => ?_) AllReadyH.nil
      go_simp
      refine (window_i (w.heap.size + 1 + 1 + 1) i (v + 1) _ (by omega) (by omega) (by omega) _).mono ?_
      rintro e w' ⟨rfl, rfl⟩
      refine hK.out _ _ K1.out (fun hHeld => ?_)
      clear hK K
      refine wpAnyH_ready (rs := [11]) (by kernel_rfl) (by simp) ?_
      refine AllReadyH.cons rfl (fun K hK => ?_) AllReadyH.nil
      go_simp
      have hM' : (M.take v).length = v := by rw [List.length_take, HM.out]; omega
      refine (addTimes_any (w.heap.size + 1 + 1 + 1) i (v + 1) _ (w.heap.size + 1) 0 v _ (lg L i) S (M.take v) 47 wr.drew (by rw [S1.out]; omega) (by rw [S1.out]; omega) sS (sM.take _) K4.out (by omega) hM' (by omega) (Nat.le_of_lt (Nat.lt_trans (lg_lt sL i) (by decide))) ?_).mono ?_
      · intro j hj
        have := K2.out.cells 46 (by rw [HM.out]; omega) j (by omega)
        rw [lg_take _ _ _ hj]; exact this
      rintro e w' ⟨rfl, cv, ha⟩
      have hP : lval S < B ^ (i + v) := by
        rw [S2.out, Nat.pow_add]
        have h1 := lval_lt (L.take i) (sL.take i)
        rw [List.length_take, HL.out, Nat.min_eq_left (by omega)] at h1
        exact Nat.mul_lt_mul'' h1 (lval_lt_used M v (by rw [← EV.out]; omega) sM)
      obtain ⟨S', hw, hS', sS', vS'⟩ := ha.prod S1.out (by omega) (sL.getD i) sS sM (by rw [← EV.out]; omega) hP
      have A1 : Row w' w.heap.size L 47 := by rw [hw]; exact Row.other (w := wr.drew) K1.out _ (by omega)
      have A2 : Row w' (w.heap.size + 1) M 47 := by rw [hw]; exact Row.other (w := wr.drew) K2.out _ (by omega)
      have A3 : Row w' (w.heap.size + 1 + 1) Z46 47 := by rw [hw]; exact Row.other (w := wr.drew) K3.out _ (by omega)
      have A4 : Row w' (w.heap.size + 1 + 1 + 1) S' 47 := by rw [hw]; exact Row.set (w := wr.drew) K4.out _
      have AB : Below w.heap.size w w' := by rw [hw]; exact below_setRow (Below.drew KB.out) _ _ (by omega)
      have AV : lval S' = lval (L.take (i + 1)) * lval M := by
        rw [vS', S2.out, lval_take_lg, Nat.add_mul]
      refine hK.out _ _ A1 (fun hHeld => ?_)
      clear hK K
      refine wpAnyH_done (by kernel_rfl) ?_ _
      refine NoPanic.normal ?_
      have HN := Lib.hid (show ProdInv w L M u (.int .i64 ((i : Int) + 1)) w' from ⟨i + 1, S', by omega, by go_num, hS', sS', AV, A1, A2, A3, A4, AB⟩)
      clear A1 A2 A3 A4 AB AV hw ha hP hHeld hM' hS' vS'
      go_wp2
      go_roundw
      case rel => exact HN.out
      case measure => simp [intOf]; omega
    · obtain rfl : i = u := by omega
      have AV : Hid (lval S = lval L * lval M) := by
        show _ = _
        rw [S2.out, lval_take_used L _ (by rw [← EU.out]; omega)]
      clear hlt
      go_wp2_with (first | (refine wpList_load_row rfl 47 _ rfl (w.heap.size + 1 + 1 + 1) rfl 47 (U S) (0, 0) _ K4.out Tryd.underlying47 rfl (by rw [U_size, S1.out]; exact info47) ?_) | (refine wpList_store_row rfl 47 _ _ rfl (w.heap.size + 1 + 1) (U S) rfl rfl 47 (U Z46) K3.out (by rw [U_size, S1.out]; exact info47) (by rw [U_size, U_size, S1.out]; rfl) (U_one S) ?_))
      have A4 := Lib.hid (K3.out.set S)
      have AC := Lib.hid (below_setRow KB.out (w.heap.size + 1 + 1) (U S) (by omega))
      generalize wr.setRow (w.heap.size + 1 + 1) (U S) = W'' at A4 AC ⊢
      go_wp2
      refine bodyPost_ret (results_cell_row rfl _ _ (w.heap.size + 1 + 1) 47 (U S) (0, 0) _ rfl A4.out Tryd.underlying47 rfl (by rw [U_size, S1.out]; exact info47)) rfl ?_
      exact ⟨S, rfl, S1.out, sS, AV.out, AC.out⟩
end Go.Proofs.YtebadokchhnmfaaDoor
