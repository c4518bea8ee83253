/- A row of one number, over and over; a row of unknowns. -/
import Derived.Test.YtjecjlnkpbbanaaL4
import Derived.Laws.MathBits
import Derived.Laws.CopyOwn
namespace Go.Proofs.Ytjecjlnkpbbanaa
open Go Go.RowKit
set_option linter.unusedVariables false
set_option linter.unusedSimpArgs false
set_option pp.deepTerms true
set_option maxHeartbeats 4000000 in
theorem mul64_one (n : Nat) (hn : n ≤ 1000000) (w : World) :
    Calls Try.prog 79 #[.int .u64 1, .int .u64 n] w fun e w' => e = .returned (.tuple #[.int .u64 0, .int .u64 n]) ∧ w = w' := by
  have m1 : bits .and .u64 (n : Int) 4294967295 = (n : Int) := by rw [and_low32 _ (by omega) (by omega)]; omega
  have m2 : bits .and .u64 1 4294967295 = 1 := by rw [and_low32 _ (by omega) (by omega)]; rfl
  have m3 : (n : Int) / 4294967296 = 0 := by omega
  have m4 : bits .and .u64 0 4294967295 = 0 := by rw [and_low32 _ (by omega) (by omega)]; rfl
  have m5 : IntKind.u64.wrap (n : Int) = n := by rw [IntKind.wrap_u64]; omega
  go_enter Try.func79, Try.ntmps79
  go_wp2
  go_ret2
  refine ⟨?_, rfl⟩
  have q1 : ∀ a b c d : Int, a = c → b = d → Ending.returned (.tuple #[.int .u64 a, .int .u64 b]) = .returned (.tuple #[.int .u64 c, .int .u64 d]) := by rintro a b c d rfl rfl; rfl
  refine q1 _ _ _ _ ?_ ?_ <;> first | omega | (simp only [IntKind.wrap_u64]; omega) | (simp [m1, m2, m3, m4, m5]; done)
theorem mul_one' (n : Nat) (hn : n ≤ 1000000) (w : World) :
    Calls Try.prog 77 #[.int .u64 1, .int .u64 n] w fun e w' => e = .returned (.tuple #[.int .u64 0, .int .u64 n]) ∧ w = w' := by
  have F := Lib.hid (mul64_one n hn w)
  go_enter Try.func77, Try.ntmps77
  go_wp2_with fail
  refine F.out.mono ?_
  rintro e w1 ⟨rfl, rfl⟩
  clear F
  go_wp2_with fail
  go_ret2
  exact ⟨rfl, rfl⟩
def repL (v : Int) (n k : Nat) : List Int := List.replicate k v ++ List.replicate (n - k) 0
theorem repL_len {v : Int} {n k : Nat} (h : k ≤ n) : (repL v n k).length = n := by simp [repL]; omega
theorem repL_all (v : Int) (n : Nat) : repL v n n = List.replicate n v := by simp [repL]
def RpInv (v : Int) (n g : Nat) (w : World) (iv : Value) (wr : World) : Prop :=
  ∃ k : Nat, k ≤ n ∧ (k = 0 → n = 0) ∧ iv = .int .i64 (k : Int) ∧ IRw wr g (repL v n k) ∧ Below w.heap.size w wr
theorem rep_splice (v : Int) (n k j : Nat) (hj : j = min k (n - k)) : splice ((repL v n k).map (Value.int .i64)) k ((List.replicate j v).map (Value.int .i64)) = (repL v n (k + j)).map (Value.int .i64) := by
  unfold splice repL
  simp only [List.map_append, List.map_replicate, List.length_replicate]
  rw [List.take_left' (by simp), List.drop_append, List.drop_of_length_le (by simp), List.length_replicate, List.nil_append, List.drop_replicate, ← List.append_assoc, List.replicate_append_replicate]
  congr 2
  omega
theorem rep_cell {w : World} {g : Nat} {v : Int} {n k : Nat} (h : IRw w g (repL v n k)) (hk : k ≤ n) {j : Nat} (hj : j < k) : w.cell? ⟨g, j, none⟩ = some (.int .i64 v) := by
  have := h.cell j (by rw [repL_len hk]; omega)
  rw [this]
  congr 2
  unfold repL
  rw [List.getElem_append_left (by simpa using hj), List.getElem_replicate]
def SrcJ (W : World) (g0 : Nat) (cs : List Value) : Prop := ∀ j u, cs[j]? = some u → W.cell? ((⟨g0, 0, none⟩ : Addr).add j) = some u
theorem addr_add (g o j : Nat) : (⟨g, o, none⟩ : Addr).add j = ⟨g, o + j, none⟩ := by simp [Addr.add]
theorem one_cells (j : Nat) (v : Int) : ∀ u ∈ (List.replicate j v).map (Value.int .i64), u.oneCell' = true := by
  intro u hu
  obtain ⟨x, _, rfl⟩ := List.mem_map.1 hu
  rfl
theorem rep_get {j : Nat} {v : Int} {i : Nat} {u : Value} (h : ((List.replicate j v).map (Value.int .i64))[i]? = some u) : i < j ∧ u = .int .i64 v := by
  rw [List.map_replicate, List.getElem?_replicate] at h
  split at h
  · injection h with h; exact ⟨by assumption, h.symm⟩
  · cases h
set_option maxHeartbeats 16000000 in
set_option maxRecDepth 100000 in
theorem repeat_any (w : World) (g0 : Nat) (v : Int) (c : Nat) (n : Nat) (hn : n ≤ 1000000) (hx : w.cell? ⟨g0, 0, none⟩ = some (.int .i64 v)) :
    Calls Try.prog 74 #[.slice (some ⟨g0, 0, none⟩) 1 c, .int .i64 n] w fun e w' => e = .returned (.slice (some ⟨w.heap.size, 0, none⟩) n n) ∧ IRw w' w.heap.size (List.replicate n v) ∧ Below w.heap.size w w' := by
  have FM := Lib.hid (fun W => mul_one' n hn W)
  have hmk := run_make_ints n hn w
  have hgl : g0 < w.heap.size := World.block_lt_of_cell? w _ hx
  have H1 : IRw (w.alloc (.cells (ivals (List.replicate n 0)) 3)) w.heap.size (repL v n 0) := alloc_at w _
  have HB1 : Below w.heap.size w (w.alloc (.cells (ivals (List.replicate n 0)) 3)) := (Below.refl _ _).alloc (Nat.le_refl _) _
  have hc1 : (w.alloc (.cells (ivals (List.replicate n 0)) 3)).cell? ⟨g0, 0, none⟩ = some (.int .i64 v) := by
    rw [← hx]; exact World.cell?_of_block (w := w) (HB1.block g0 hgl)
  generalize w.alloc (.cells (ivals (List.replicate n 0)) 3) = W1 at hmk H1 HB1 hc1
  obtain ⟨g, hg⟩ : ∃ g, w.heap.size = g := ⟨_, rfl⟩
  rw [hg] at hmk H1 ⊢
  have HG := Lib.hid hg
  have hgle : Hid (w.heap.size ≤ g) := by show _ ≤ _; omega
  have hgt : decide (9223372036854775807 < (n : Int)) = false := decide_eq_false (by omega)
  have hn0 : decide ((n : Int) < 0) = false := decide_eq_false (by omega)
  have hcv : IntKind.u64.wrap (n : Int) = n := by rw [IntKind.wrap_u64]; omega
  have hcv2 : IntKind.i64.wrap (n : Int) = n := by rw [IntKind.wrap_i64]; omega
  obtain ⟨j0, hj0⟩ : ∃ j0, j0 = min 1 n := ⟨_, rfl⟩
  obtain ⟨cs, hcs⟩ : ∃ cs, cs = (List.replicate j0 v).map (Value.int .i64) := ⟨_, rfl⟩
  have HCL : Hid (cs.length = j0) := by show _ = _; rw [hcs]; simp
  have HCN : Hid (cs.length = Nat.min 1 n) := by show _ = _; rw [HCL.out, hj0]
  have HPOS : Hid (SrcJ W1 g0 cs) := fun j u hu => by
    rw [hcs] at hu
    obtain ⟨h1, rfl⟩ := rep_get hu
    have : j = 0 := by omega
    subst this
    exact hc1
  have HFIT : Hid (0 + cs.length ≤ ((repL v n 0).map (Value.int .i64)).length) := by show _ ≤ _; rw [HCL.out, List.length_map, repL_len (Nat.zero_le _)]; omega
  have HONE : Hid (∀ u ∈ cs, u.oneCell' = true) := by rw [hcs]; exact one_cells _ _
  have HST : Hid (∀ W : World, Hid (W.heap[g]? = some (.cells (splice ((repL v n 0).map (Value.int .i64)) 0 cs).toArray 3 (0, 0))) → Below w.heap.size w W → RpInv v n g w (.int .i64 (j0 : Nat)) W) := by
    intro W h1 h2
    have h1 := h1.out
    refine ⟨j0, by omega, by omega, rfl, ?_, h2⟩
    rw [hcs] at h1
    have e : (List.replicate j0 v).map (Value.int .i64) = (List.replicate j0 v).map (Value.int .i64) := rfl
    by_cases hz : n = 0
    · have : j0 = 0 := by omega
      subst this hz
      simpa [splice, IRw, ivals] using h1
    · have hj1 : j0 = 1 := by omega
      subst hj1
      have e9 : splice ((repL v n 0).map (Value.int .i64)) 0 ((List.replicate 1 v).map (Value.int .i64)) = (repL v n 1).map (Value.int .i64) := by
        unfold splice repL
        obtain ⟨n', rfl⟩ : ∃ n', n = n' + 1 := ⟨n - 1, by omega⟩
        simp [List.replicate_succ]
      rw [e9] at h1
      exact h1
  have HC1 : Hid (W1.heap[g]? = some (.cells ((repL v n 0).map (Value.int .i64)).toArray 3 (0, 0))) := H1
  have HBB := Lib.hid HB1
  clear hg H1 HB1 hcs hj0 hc1 hgl
  go_enter Try.func74, Try.ntmps74
  go_wp2_with fail
  refine (FM.out _).mono ?_
  rintro e w1 ⟨rfl, rfl⟩
  clear FM
  go_wp2_with (refine wpList_copy_splice (by rfl) (Operand.tmp 31) (Operand.tmp 32) 22 22 rfl 3 Try.underlying22 (by rfl) _ _ _ _ _ _ rfl rfl g 0 _ 3 HC1.out cs HCN.out (fun _ => ⟨rfl, _, rfl, HPOS.out⟩) HFIT.out HONE.out w.heap.size w HBB.out hgle.out ?_; intro w2 hr2 hb2; rw [HCL.out]; have H0 := Lib.hid (HST.out w2 hr2 hb2); clear hr2 hb2 HC1 HCN HPOS HFIT HONE HBB HST HCL cs)
  go_loopw [8] (fun iv wr => RpInv v n g w iv wr) (fun iv _ => n - (intOf iv).toNat)
  case atStart => exact H0.out
  case round =>
    clear H0
    obtain ⟨k, hk, hk0, rfl, hrow, hbel⟩ := hrel
    have HR := Lib.hid hrow
    have HB := Lib.hid hbel
    have HK0 := Lib.hid hk0
    clear hrow hbel hk0
    by_cases hkn : k < n
    · have q1 : decide ((k : Int) < (n : Int)) = true := decide_eq_true (by omega)
      have hk1 : 0 < k := by have := HK0.out; omega
      obtain ⟨j, hj⟩ : ∃ j, j = min k (n - k) := ⟨_, rfl⟩
      have hj1 : 0 < j := by omega
      obtain ⟨cs, hcs⟩ : ∃ cs, cs = (List.replicate j v).map (Value.int .i64) := ⟨_, rfl⟩
      have HCL : Hid (cs.length = j) := by show _ = _; rw [hcs]; simp
      have HCN : Hid (cs.length = Nat.min k (n - k)) := by show _ = _; rw [HCL.out, hj]
      have HRX : Hid (IRw wr.drew g (repL v n k)) := HR.out
      have HBX : Hid (Below w.heap.size w wr.drew) := HB.out.drew
      have hkl : k + j ≤ n := by omega
      have HFIT : Hid (k + cs.length ≤ ((repL v n k).map (Value.int .i64)).length) := by show _ ≤ _; rw [HCL.out, List.length_map, repL_len hk]; omega
      have HONE : Hid (∀ u ∈ cs, u.oneCell' = true) := by rw [hcs]; exact one_cells _ _
      have HST : Hid (∀ W : World, Hid (W.heap[g]? = some (.cells (splice ((repL v n k).map (Value.int .i64)) k cs).toArray 3 (0, 0))) → Below w.heap.size w W → RpInv v n g w (.int .i64 ((k : Int) + (j : Int))) W) := by
        intro W h1 h2
        have h1 := h1.out
        rw [hcs, rep_splice v n k j hj] at h1
        exact ⟨k + j, hkl, by omega, by rw [Int.natCast_add], h1, h2⟩
      have HCC : Hid (∀ W : World, IRw W g (repL v n k) → ∀ i u, cs[i]? = some u → W.cell? ((⟨g, 0, none⟩ : Addr).add i) = some u) := by
        intro W hW i u hu
        rw [hcs] at hu
        obtain ⟨h1, rfl⟩ := rep_get hu
        rw [addr_add, Nat.zero_add]
        exact rep_cell hW hk (by omega)
      have hkj : (k : Int) + (j : Int) < 9223372036854775808 := by omega
      clear hj hcs HB HK0
      go_wp2_with fail
      refine wp_region_noPanic ?_
      refine wp_region_held_drew (S := fun _ => True) (by kernel_rfl) trivial (fun hHeld => ?_)
      generalize wr.drew = X at HRX HBX hHeld ⊢
      refine wpAnyH_take (i := 0) (v := ?v0) rfl (by kernel_rfl) (by kernel_rfl) (by kernel_rfl) (fun _ _ _ h => h) (Or.inl ⟨rfl, fun w' hw' => ?h0⟩) hHeld ?r0
      case h0 =>
        (go_simp; try (first | (rw [IntKind.wrap_i64]; omega) | omega))
        try with_reducible rfl
      simp only [List.getElem_toArray, List.getElem_cons_succ, List.getElem_cons_zero, Act.put, List.setIfInBounds_toArray, List.set_cons_zero, List.set_cons_succ]
      refine wpAnyH_take (i := 1) (v := ?v1) rfl (by kernel_rfl) (by kernel_rfl) (by kernel_rfl) (fun _ _ _ h => h) (Or.inl ⟨rfl, fun w' hw' => ?h1⟩) hHeld ?r1
      case h1 =>
        (go_simp; try (first | (rw [IntKind.wrap_i64]; omega) | omega))
        try with_reducible rfl
      simp only [List.getElem_toArray, List.getElem_cons_succ, List.getElem_cons_zero, Act.put, List.setIfInBounds_toArray, List.set_cons_zero, List.set_cons_succ]
      refine wpAnyH_take (i := 2) (v := ?v2) rfl (by kernel_rfl) (by kernel_rfl) (by kernel_rfl) (fun _ _ _ h => h) (Or.inl ⟨rfl, fun w' hw' => ?h2⟩) hHeld ?r2
      case h2 =>
        (go_simp; try (first | (rw [IntKind.wrap_i64]; omega) | omega))
        try with_reducible rfl
      simp only [List.getElem_toArray, List.getElem_cons_succ, List.getElem_cons_zero, Act.put, List.setIfInBounds_toArray, List.set_cons_zero, List.set_cons_succ]
      refine wpAnyH_take (i := 3) (v := .slice (some ⟨g, k, none⟩) (n - k) (n - k)) rfl (by kernel_rfl) (by kernel_rfl) (by kernel_rfl) (fun _ _ _ h => h) (Or.inl ⟨rfl, fun w' hw' => ?_⟩) hHeld ?_
      · (go_simp; try (first | (rw [IntKind.wrap_i64]; omega) | omega))
      simp only [List.getElem_toArray, List.getElem_cons_succ, List.getElem_cons_zero, Act.put, List.setIfInBounds_toArray, List.set_cons_zero, List.set_cons_succ]
      refine wpAnyH_take (i := 4) (v := ?v4) rfl (by kernel_rfl) (by kernel_rfl) (by kernel_rfl) (fun _ _ _ h => h) (Or.inl ⟨rfl, fun w' hw' => ?h4⟩) hHeld ?r4
      case h4 =>
        (go_simp; try (first | (rw [IntKind.wrap_i64]; omega) | omega))
        try with_reducible rfl
      simp only [List.getElem_toArray, List.getElem_cons_succ, List.getElem_cons_zero, Act.put, List.setIfInBounds_toArray, List.set_cons_zero, List.set_cons_succ]
      refine wpAnyH_take (i := 5) (v := ?v5) rfl (by kernel_rfl) (by kernel_rfl) (by kernel_rfl) (fun _ _ _ h => h) (Or.inl ⟨rfl, fun w' hw' => ?h5⟩) hHeld ?r5
      case h5 =>
        (go_simp; try (first | (rw [IntKind.wrap_i64]; omega) | omega))
        try with_reducible rfl
      simp only [List.getElem_toArray, List.getElem_cons_succ, List.getElem_cons_zero, Act.put, List.setIfInBounds_toArray, List.set_cons_zero, List.set_cons_succ]
      refine wpAnyH_take (i := 6) (v := .slice (some ⟨g, 0, none⟩) k n) rfl (by kernel_rfl) (by kernel_rfl) (by kernel_rfl) (fun _ _ _ h => h) (Or.inl ⟨rfl, fun w' hw' => ?_⟩) hHeld ?_
      · (go_simp; try (first | (rw [IntKind.wrap_i64]; omega) | omega))
      simp only [List.getElem_toArray, List.getElem_cons_succ, List.getElem_cons_zero, Act.put, List.setIfInBounds_toArray, List.set_cons_zero, List.set_cons_succ]
      refine wpAnyH_ready (rs := [7]) (by kernel_rfl) (by simp) ?_
      refine (AllReadyH.cons rfl (fun K hK => ?_) AllReadyH.nil)
      refine step_copy_splice rfl (Operand.tmp 41) (Operand.tmp 44) 22 22 rfl 3 Try.underlying22 (by rfl) _ _ _ _ _ _ rfl rfl g k _ 3 HRX.out cs HCN.out (fun _ => ⟨rfl, _, rfl, HCC.out X HRX.out⟩) HFIT.out HONE.out w.heap.size w HBX.out hgle.out ?_
      intro w2 hr2 hb2
      rw [HCL.out]
      have HREL := Lib.hid (HST.out w2 hr2 hb2)
      clear hr2 hb2 HST HCC HFIT HONE HCN HCL HRX HBX cs
      refine hK.out _ _ trivial (fun hHeld => ?_)
      clear hK K
      try simp only [List.getElem_toArray, List.getElem_cons_succ, List.getElem_cons_zero, Act.put, List.setIfInBounds_toArray, List.set_cons_zero, List.set_cons_succ]
      refine wpAnyH_take (i := 8) (v := Value.int .i64 ((k : Int) + (j : Int))) rfl (by kernel_rfl) (by kernel_rfl) (by kernel_rfl) (fun _ _ _ h => h) (Or.inl ⟨rfl, fun w' hw' => ?_⟩) hHeld ?_
      · (go_simp; try (first | (rw [IntKind.wrap_i64]; omega) | omega))
      simp only [List.getElem_toArray, List.getElem_cons_succ, List.getElem_cons_zero, Act.put, List.setIfInBounds_toArray, List.set_cons_zero, List.set_cons_succ]
      refine wpAnyH_take (i := 9) (v := ?v8) rfl (by kernel_rfl) (by kernel_rfl) (by kernel_rfl) (fun _ _ _ h => h) (Or.inl ⟨rfl, fun w' hw' => ?h8⟩) hHeld ?r8
      case h8 =>
        (go_simp; try (first | (rw [IntKind.wrap_i64]; omega) | omega))
        try with_reducible rfl
      simp only [List.getElem_toArray, List.getElem_cons_succ, List.getElem_cons_zero, Act.put, List.setIfInBounds_toArray, List.set_cons_zero, List.set_cons_succ]
      refine wpAnyH_done (by kernel_rfl) ?_ _
      refine NoPanic.normal ?_
      clear hHeld
      go_wp2_with fail
      go_roundw
      case rel => exact HREL.out
      case measure => simp [intOf]; omega
    · have hkn2 : k = n := by omega
      subst hkn2
      have q1 : decide ((k : Int) < (k : Int)) = false := decide_eq_false (by omega)
      have HE : Hid (IRw wr g (List.replicate k v)) := by have := HR.out; rw [repL_all] at this; exact this
      clear HR HK0
      go_wp2_with fail
      go_ret
      exact ⟨rfl, HE.out, by have h9 := HB.out; rw [HG.out] at h9; exact h9⟩
end Go.Proofs.Ytjecjlnkpbbanaa
