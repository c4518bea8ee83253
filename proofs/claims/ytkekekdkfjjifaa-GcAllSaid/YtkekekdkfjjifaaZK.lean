/- A row of one number, over and over; a row of unknowns. -/
import Derived.Test.YtkekekdkfjjifaaZD
import Derived.Laws.MathBits
import Derived.Laws.CopyOwn
import Derived.Test.YtkekekdkfjjifaaZG
namespace Go.Proofs.Ytkekekdkfjjifaa
open Go Go.RowKit
set_option linter.unusedVariables false
set_option linter.unusedSimpArgs false
set_option pp.deepTerms true
set_option maxHeartbeats 4000000 in
theorem mul64_one (n : Nat) (hn : n ≤ 1000000) (w : World) :
    Calls Try.prog 79 #[.int .u64 1, .int .u64 n] w fun e w' => e = .returned (.tuple #[.int .u64 0, .int .u64 n]) ∧ w = w' := by
  have m1 : bits .and .u64 (n : Int) 4294967295 = (n : Int) := by rw [and_low32 _ (by omega) (by omega)]; omega
  have m2 : bits .and .u64 1 4294967295 = 1 := by rw [and_low32 _ (by omega) (by omega)]; rfl
  have m3 : (n : Int) / 4294967296 = 0 := by omega
  have m4 : bits .and .u64 0 4294967295 = 0 := by rw [and_low32 _ (by omega) (by omega)]; rfl
  have m5 : IntKind.u64.wrap (n : Int) = n := by rw [IntKind.wrap_u64]; omega
  go_enter Try.func79, Try.ntmps79
  go_wp2
  go_ret2
  refine ⟨?_, rfl⟩
  have q1 : ∀ a b c d : Int, a = c → b = d → Ending.returned (.tuple #[.int .u64 a, .int .u64 b]) = .returned (.tuple #[.int .u64 c, .int .u64 d]) := by rintro a b c d rfl rfl; rfl
  refine q1 _ _ _ _ ?_ ?_ <;> first | omega | (simp only [IntKind.wrap_u64]; omega) | (simp [m1, m2, m3, m4, m5]; done)
theorem mul_one' (n : Nat) (hn : n ≤ 1000000) (w : World) :
    Calls Try.prog 77 #[.int .u64 1, .int .u64 n] w fun e w' => e = .returned (.tuple #[.int .u64 0, .int .u64 n]) ∧ w = w' := by
  have F := Lib.hid (mul64_one n hn w)
  go_enter Try.func77, Try.ntmps77
  go_wp2_with fail
  refine F.out.mono ?_
  rintro e w1 ⟨rfl, rfl⟩
  clear F
  go_wp2_with fail
  go_ret2
  exact ⟨rfl, rfl⟩
def repL (v : Int) (n k : Nat) : List Int := List.replicate k v ++ List.replicate (n - k) 0
theorem repL_len {v : Int} {n k : Nat} (h : k ≤ n) : (repL v n k).length = n := by simp [repL]; omega
theorem repL_all (v : Int) (n : Nat) : repL v n n = List.replicate n v := by simp [repL]
def RpInv (v : Int) (n g : Nat) (w : World) (iv : Value) (wr : World) : Prop :=
  ∃ k : Nat, k ≤ n ∧ (k = 0 → n = 0) ∧ iv = .int .i64 (k : Int) ∧ IRw wr g (repL v n k) ∧ Below w.heap.size w wr
theorem rep_splice (v : Int) (n k j : Nat) (hj : j = min k (n - k)) : splice ((repL v n k).map (Value.int .i64)) k ((List.replicate j v).map (Value.int .i64)) = (repL v n (k + j)).map (Value.int .i64) := by
  unfold splice repL
  simp only [List.map_append, List.map_replicate, List.length_replicate]
  rw [List.take_left' (by simp), List.drop_append, List.drop_of_length_le (by simp), List.length_replicate, List.nil_append, List.drop_replicate, ← List.append_assoc, List.replicate_append_replicate]
  congr 2
  omega
theorem rep_cell {w : World} {g : Nat} {v : Int} {n k : Nat} (h : IRw w g (repL v n k)) (hk : k ≤ n) {j : Nat} (hj : j < k) : w.cell? ⟨g, j, none⟩ = some (.int .i64 v) := by
  have := h.cell j (by rw [repL_len hk]; omega)
  rw [this]
  congr 2
  unfold repL
  rw [List.getElem_append_left (by simpa using hj), List.getElem_replicate]
def SrcJ (W : World) (g0 : Nat) (cs : List Value) : Prop := ∀ j u, cs[j]? = some u → W.cell? ((⟨g0, 0, none⟩ : Addr).add j) = some u
theorem addr_add (g o j : Nat) : (⟨g, o, none⟩ : Addr).add j = ⟨g, o + j, none⟩ := by simp [Addr.add]
theorem one_cells (j : Nat) (v : Int) : ∀ u ∈ (List.replicate j v).map (Value.int .i64), u.oneCell' = true := by
  intro u hu
  obtain ⟨x, _, rfl⟩ := List.mem_map.1 hu
  rfl
theorem rep_get {j : Nat} {v : Int} {i : Nat} {u : Value} (h : ((List.replicate j v).map (Value.int .i64))[i]? = some u) : i < j ∧ u = .int .i64 v := by
  rw [List.map_replicate, List.getElem?_replicate] at h
  split at h
  · injection h with h; exact ⟨by assumption, h.symm⟩
  · cases h
set_option maxHeartbeats 16000000 in
set_option maxRecDepth 100000 in
theorem repeat_any (w : World) (g0 : Nat) (v : Int) (c : Nat) (n : Nat) (hn : n ≤ 1000000) (hx : w.cell? ⟨g0, 0, none⟩ = some (.int .i64 v)) :
    Calls Try.prog 74 #[.slice (some ⟨g0, 0, none⟩) 1 c, .int .i64 n] w fun e w' => e = .returned (.slice (some ⟨w.heap.size, 0, none⟩) n n) ∧ IRw w' w.heap.size (List.replicate n v) ∧ Below w.heap.size w w' := by
  have FM := Lib.hid (fun W => mul_one' n hn W)
  have hmk := run_make_ints n hn w
  have hgl : g0 < w.heap.size := World.block_lt_of_cell? w _ hx
  have H1 : IRw (w.alloc (.cells (ivals (List.replicate n 0)) 3)) w.heap.size (repL v n 0) := alloc_at w _
  have HB1 : Below w.heap.size w (w.alloc (.cells (ivals (List.replicate n 0)) 3)) := (Below.refl _ _).alloc (Nat.le_refl _) _
  have hc1 : (w.alloc (.cells (ivals (List.replicate n 0)) 3)).cell? ⟨g0, 0, none⟩ = some (.int .i64 v) := by
    rw [← hx]; exact World.cell?_of_block (w := w) (HB1.block g0 hgl)
  generalize w.alloc (.cells (ivals (List.replicate n 0)) 3) = W1 at hmk H1 HB1 hc1
  obtain ⟨g, hg⟩ : ∃ g, w.heap.size = g := ⟨_, rfl⟩
  rw [hg] at hmk H1 ⊢
  have HG := Lib.hid hg
  have hgle : Hid (w.heap.size ≤ g) := by show _ ≤ _; omega
  have hgt : decide (9223372036854775807 < (n : Int)) = false := decide_eq_false (by omega)
  have hn0 : decide ((n : Int) < 0) = false := decide_eq_false (by omega)
  have hcv : IntKind.u64.wrap (n : Int) = n := by rw [IntKind.wrap_u64]; omega
  have hcv2 : IntKind.i64.wrap (n : Int) = n := by rw [IntKind.wrap_i64]; omega
  obtain ⟨j0, hj0⟩ : ∃ j0, j0 = min 1 n := ⟨_, rfl⟩
  obtain ⟨cs, hcs⟩ : ∃ cs, cs = (List.replicate j0 v).map (Value.int .i64) := ⟨_, rfl⟩
  have HCL : Hid (cs.length = j0) := by show _ = _; rw [hcs]; simp
  have HCN : Hid (cs.length = Nat.min 1 n) := by show _ = _; rw [HCL.out, hj0]
  have HPOS : Hid (SrcJ W1 g0 cs) := fun j u hu => by
    rw [hcs] at hu
    obtain ⟨h1, rfl⟩ := rep_get hu
    have : j = 0 := by omega
    subst this
    exact hc1
  have HFIT : Hid (0 + cs.length ≤ ((repL v n 0).map (Value.int .i64)).length) := by show _ ≤ _; rw [HCL.out, List.length_map, repL_len (Nat.zero_le _)]; omega
  have HONE : Hid (∀ u ∈ cs, u.oneCell' = true) := by rw [hcs]; exact one_cells _ _
  have HST : Hid (∀ W : World, Hid (W.heap[g]? = some (.cells (splice ((repL v n 0).map (Value.int .i64)) 0 cs).toArray 3 (0, 0))) → Below w.heap.size w W → RpInv v n g w (.int .i64 (j0 : Nat)) W) := by
    intro W h1 h2
    have h1 := h1.out
    refine ⟨j0, by omega, by omega, rfl, ?_, h2⟩
    rw [hcs] at h1
    have e : (List.replicate j0 v).map (Value.int .i64) = (List.replicate j0 v).map (Value.int .i64) := rfl
    by_cases hz : n = 0
    · have : j0 = 0 := by omega
      subst this hz
      simpa [splice, IRw, ivals] using h1
    · have hj1 : j0 = 1 := by omega
      subst hj1
      have e9 : splice ((repL v n 0).map (Value.int .i64)) 0 ((List.replicate 1 v).map (Value.int .i64)) = (repL v n 1).map (Value.int .i64) := by
        unfold splice repL
        obtain ⟨n', rfl⟩ : ∃ n', n = n' + 1 := ⟨n - 1, by omega⟩
        simp [List.replicate_succ]
      rw [e9] at h1
      exact h1
  have HC1 : Hid (W1.heap[g]? = some (.cells ((repL v n 0).map (Value.int .i64)).toArray 3 (0, 0))) := H1
  have HBB := Lib.hid HB1
  clear hg H1 HB1 hcs hj0 hc1 hgl
  go_enter Try.func74, Try.ntmps74
  go_wp2_with fail
  refine (FM.out _).mono ?_
  rintro e w1 ⟨rfl, rfl⟩
  clear FM
  go_wp2_with (refine wpList_copy_splice (by rfl) (Operand.tmp 31) (Operand.tmp 32) 22 22 rfl 3 Try.underlying22 (by rfl) _ _ _ _ _ _ rfl rfl g 0 _ 3 HC1.out cs HCN.out (fun _ => ⟨rfl, _, rfl, HPOS.out⟩) HFIT.out HONE.out w.heap.size w HBB.out hgle.out ?_; intro w2 hr2 hb2; rw [HCL.out]; have H0 := Lib.hid (HST.out w2 hr2 hb2); clear hr2 hb2 HC1 HCN HPOS HFIT HONE HBB HST HCL cs)
  go_loopw [8] (fun iv wr => RpInv v n g w iv wr) (fun iv _ => n - (intOf iv).toNat)
  case atStart => exact H0.out
  case round =>
    clear H0
    obtain ⟨k, hk, hk0, rfl, hrow, hbel⟩ := hrel
    have HR := Lib.hid hrow
    have HB := Lib.hid hbel
    have HK0 := Lib.hid hk0
    clear hrow hbel hk0
    by_cases hkn : k < n
    · have q1 : decide ((k : Int) < (n : Int)) = true := decide_eq_true (by omega)
      have hk1 : 0 < k := by have := HK0.out; omega
      obtain ⟨j, hj⟩ : ∃ j, j = min k (n - k) := ⟨_, rfl⟩
      have hj1 : 0 < j := by omega
      obtain ⟨cs, hcs⟩ : ∃ cs, cs = (List.replicate j v).map (Value.int .i64) := ⟨_, rfl⟩
      have HCL : Hid (cs.length = j) := by show _ = _; rw [hcs]; simp
      have HCN : Hid (cs.length = Nat.min k (n - k)) := by show _ = _; rw [HCL.out, hj]
      have HRX : Hid (IRw wr.drew g (repL v n k)) := HR.out
      have HBX : Hid (Below w.heap.size w wr.drew) := HB.out.drew
      have hkl : k + j ≤ n := by omega
      have HFIT : Hid (k + cs.length ≤ ((repL v n k).map (Value.int .i64)).length) := by show _ ≤ _; rw [HCL.out, List.length_map, repL_len hk]; omega
      have HONE : Hid (∀ u ∈ cs, u.oneCell' = true) := by rw [hcs]; exact one_cells _ _
      have HST : Hid (∀ W : World, Hid (W.heap[g]? = some (.cells (splice ((repL v n k).map (Value.int .i64)) k cs).toArray 3 (0, 0))) → Below w.heap.size w W → RpInv v n g w (.int .i64 ((k : Int) + (j : Int))) W) := by
        intro W h1 h2
        have h1 := h1.out
        rw [hcs, rep_splice v n k j hj] at h1
        exact ⟨k + j, hkl, by omega, by rw [Int.natCast_add], h1, h2⟩
      have HCC : Hid (∀ W : World, IRw W g (repL v n k) → ∀ i u, cs[i]? = some u → W.cell? ((⟨g, 0, none⟩ : Addr).add i) = some u) := by
        intro W hW i u hu
        rw [hcs] at hu
        obtain ⟨h1, rfl⟩ := rep_get hu
        rw [addr_add, Nat.zero_add]
        exact rep_cell hW hk (by omega)
      have hkj : (k : Int) + (j : Int) < 9223372036854775808 := by omega
      clear hj hcs HB HK0
      go_wp2_with fail
      refine wp_region_noPanic ?_
      refine wp_region_held_drew (S := fun _ => True) (by kernel_rfl) trivial (fun hHeld => ?_)
      generalize wr.drew = X at HRX HBX hHeld ⊢
      refine wpAnyH_take (i := 0) (v := ?v0) rfl (by kernel_rfl) (by kernel_rfl) (by kernel_rfl) (fun _ _ _ h => h) (Or.inl ⟨rfl, fun w' hw' => ?h0⟩) hHeld ?r0
      case h0 =>
        (go_simp; try (first | (rw [IntKind.wrap_i64]; omega) | omega))
        try with_reducible rfl
      simp only [List.getElem_toArray, List.getElem_cons_succ, List.getElem_cons_zero, Act.put, List.setIfInBounds_toArray, List.set_cons_zero, List.set_cons_succ]
      refine wpAnyH_take (i := 1) (v := ?v1) rfl (by kernel_rfl) (by kernel_rfl) (by kernel_rfl) (fun _ _ _ h => h) (Or.inl ⟨rfl, fun w' hw' => ?h1⟩) hHeld ?r1
      case h1 =>
        (go_simp; try (first | (rw [IntKind.wrap_i64]; omega) | omega))
        try with_reducible rfl
      simp only [List.getElem_toArray, List.getElem_cons_succ, List.getElem_cons_zero, Act.put, List.setIfInBounds_toArray, List.set_cons_zero, List.set_cons_succ]
      refine wpAnyH_take (i := 2) (v := ?v2) rfl (by kernel_rfl) (by kernel_rfl) (by kernel_rfl) (fun _ _ _ h => h) (Or.inl ⟨rfl, fun w' hw' => ?h2⟩) hHeld ?r2
      case h2 =>
        (go_simp; try (first | (rw [IntKind.wrap_i64]; omega) | omega))
        try with_reducible rfl
      simp only [List.getElem_toArray, List.getElem_cons_succ, List.getElem_cons_zero, Act.put, List.setIfInBounds_toArray, List.set_cons_zero, List.set_cons_succ]
      refine wpAnyH_take (i := 3) (v := .slice (some ⟨g, k, none⟩) (n - k) (n - k)) rfl (by kernel_rfl) (by kernel_rfl) (by kernel_rfl) (fun _ _ _ h => h) (Or.inl ⟨rfl, fun w' hw' => ?_⟩) hHeld ?_
      · (go_simp; try (first | (rw [IntKind.wrap_i64]; omega) | omega))
      simp only [List.getElem_toArray, List.getElem_cons_succ, List.getElem_cons_zero, Act.put, List.setIfInBounds_toArray, List.set_cons_zero, List.set_cons_succ]
      refine wpAnyH_take (i := 4) (v := ?v4) rfl (by kernel_rfl) (by kernel_rfl) (by kernel_rfl) (fun _ _ _ h => h) (Or.inl ⟨rfl, fun w' hw' => ?h4⟩) hHeld ?r4
      case h4 =>
        (go_simp; try (first | (rw [IntKind.wrap_i64]; omega) | omega))
        try with_reducible rfl
      simp only [List.getElem_toArray, List.getElem_cons_succ, List.getElem_cons_zero, Act.put, List.setIfInBounds_toArray, List.set_cons_zero, List.set_cons_succ]
      refine wpAnyH_take (i := 5) (v := ?v5) rfl (by kernel_rfl) (by kernel_rfl) (by kernel_rfl) (fun _ _ _ h => h) (Or.inl ⟨rfl, fun w' hw' => ?h5⟩) hHeld ?r5
      case h5 =>
        (go_simp; try (first | (rw [IntKind.wrap_i64]; omega) | omega))
        try with_reducible rfl
      simp only [List.getElem_toArray, List.getElem_cons_succ, List.getElem_cons_zero, Act.put, List.setIfInBounds_toArray, List.set_cons_zero, List.set_cons_succ]
      refine wpAnyH_take (i := 6) (v := .slice (some ⟨g, 0, none⟩) k n) rfl (by kernel_rfl) (by kernel_rfl) (by kernel_rfl) (fun _ _ _ h => h) (Or.inl ⟨rfl, fun w' hw' => ?_⟩) hHeld ?_
      · (go_simp; try (first | (rw [IntKind.wrap_i64]; omega) | omega))
      simp only [List.getElem_toArray, List.getElem_cons_succ, List.getElem_cons_zero, Act.put, List.setIfInBounds_toArray, List.set_cons_zero, List.set_cons_succ]
      refine wpAnyH_ready (rs := [7]) (by kernel_rfl) (by simp) ?_
      refine (AllReadyH.cons rfl (fun K hK => ?_) AllReadyH.nil)
      refine step_copy_splice rfl (Operand.tmp 41) (Operand.tmp 44) 22 22 rfl 3 Try.underlying22 (by rfl) _ _ _ _ _ _ rfl rfl g k _ 3 HRX.out cs HCN.out (fun _ => ⟨rfl, _, rfl, HCC.out X HRX.out⟩) HFIT.out HONE.out w.heap.size w HBX.out hgle.out ?_
      intro w2 hr2 hb2
      rw [HCL.out]
      have HREL := Lib.hid (HST.out w2 hr2 hb2)
      clear hr2 hb2 HST HCC HFIT HONE HCN HCL HRX HBX cs
      refine hK.out _ _ trivial (fun hHeld => ?_)
      clear hK K
      try simp only [List.getElem_toArray, List.getElem_cons_succ, List.getElem_cons_zero, Act.put, List.setIfInBounds_toArray, List.set_cons_zero, List.set_cons_succ]
      refine wpAnyH_take (i := 8) (v := Value.int .i64 ((k : Int) + (j : Int))) rfl (by kernel_rfl) (by kernel_rfl) (by kernel_rfl) (fun _ _ _ h => h) (Or.inl ⟨rfl, fun w' hw' => ?_⟩) hHeld ?_
      · (go_simp; try (first | (rw [IntKind.wrap_i64]; omega) | omega))
      simp only [List.getElem_toArray, List.getElem_cons_succ, List.getElem_cons_zero, Act.put, List.setIfInBounds_toArray, List.set_cons_zero, List.set_cons_succ]
      refine wpAnyH_take (i := 9) (v := ?v8) rfl (by kernel_rfl) (by kernel_rfl) (by kernel_rfl) (fun _ _ _ h => h) (Or.inl ⟨rfl, fun w' hw' => ?h8⟩) hHeld ?r8
      case h8 =>
        (go_simp; try (first | (rw [IntKind.wrap_i64]; omega) | omega))
        try with_reducible rfl
      simp only [List.getElem_toArray, List.getElem_cons_succ, List.getElem_cons_zero, Act.put, List.setIfInBounds_toArray, List.set_cons_zero, List.set_cons_succ]
      refine wpAnyH_done (by kernel_rfl) ?_ _
      refine NoPanic.normal ?_
      clear hHeld
      go_wp2_with fail
      go_roundw
      case rel => exact HREL.out
      case measure => simp [intOf]; omega
    · have hkn2 : k = n := by omega
      subst hkn2
      have q1 : decide ((k : Int) < (k : Int)) = false := decide_eq_false (by omega)
      have HE : Hid (IRw wr g (List.replicate k v)) := by have := HR.out; rw [repL_all] at this; exact this
      clear HR HK0
      go_wp2_with fail
      go_ret
      exact ⟨rfl, HE.out, by have h9 := HB.out; rw [HG.out] at h9; exact h9⟩
end Go.Proofs.Ytkekekdkfjjifaa
namespace Go.Proofs.Ytkekekdkfjjifaa
open Go Go.RowKit
set_option linter.unusedVariables false
set_option linter.unusedSimpArgs false
def RetU (n : Nat) (w : World) (e : Ending) (w' : World) : Prop :=
  ∃ g, w.heap.size ≤ g ∧ e = .returned (.slice (some ⟨g, 0, none⟩) n n) ∧ IRw w' g (List.replicate n (-1)) ∧ Below w.heap.size w w'
set_option maxHeartbeats 4000000 in
theorem unknowns_any (n : Nat) (hn : n ≤ 1000000) (w : World) : Calls Try.prog 64 #[.int .i64 n] w (RetU n w) := by
  have hc : (w.alloc (.cells #[.int .i64 (-1)] 3)).cell? ⟨w.heap.size, 0, none⟩ = some (.int .i64 (-1)) := by
    rw [cell_of_row _ _ 0 _ _ _ (alloc_at w _)]; rfl
  have F := Lib.hid (repeat_any (w.alloc (.cells #[.int .i64 (-1)] 3)) w.heap.size (-1) 1 n hn hc)
  have HB : Hid (Below w.heap.size w (w.alloc (.cells #[.int .i64 (-1)] 3))) := (Below.refl _ _).alloc (Nat.le_refl _) _
  have hsz : w.heap.size ≤ (w.alloc (.cells #[.int .i64 (-1)] 3)).heap.size := HB.out.size
  clear hc
  generalize (w.alloc (.cells #[.int .i64 (-1)] 3)).heap.size = g9 at hsz F
  go_enter Try.func64, Try.ntmps64
  go_wp2_with fail
  refine F.out.mono ?_
  rintro e w1 ⟨rfl, h1, h2⟩
  have H1 := Lib.hid h1
  have H2 := Lib.hid (HB.out.trans (h2.mono hsz))
  clear F h1 h2
  go_wp2_with fail
  go_ret
  exact ⟨_, hsz, rfl, H1.out, H2.out⟩
def pval : Option Nat → Value
  | none => .slice none 0 0
  | some q => .slice (some ⟨q, 0, none⟩) 21 21
def pvals (l : List (Option Nat)) : Array Value := (l.map pval).toArray
def PRw (w : World) (g : Nat) (l : List (Option Nat)) : Prop := w.heap[g]? = some (.cells (pvals l) 22 (0, 0))
theorem pvals_set (l : List (Option Nat)) (j : Nat) (q : Option Nat) : (pvals l).setIfInBounds j (pval q) = pvals (l.set j q) := by
  unfold pvals; rw [List.setIfInBounds_toArray, List.map_set]
theorem PRw.put {w : World} {g : Nat} {l : List (Option Nat)} (h : PRw w g l) (j : Nat) (q : Option Nat) : PRw (w.setCell ⟨g, j, none⟩ (pval q)) g (l.set j q) := by
  have := heap_setCell_same w g j _ 22 (pval q) h
  rw [pvals_set] at this
  exact this
theorem PRw.cell {w : World} {g : Nat} {l : List (Option Nat)} (h : PRw w g l) (j : Nat) (hj : j < l.length) : w.cell? ⟨g, j, none⟩ = some (pval l[j]) := by
  rw [cell_of_row w g j _ _ _ h]
  unfold pvals
  rw [List.getElem?_toArray, List.getElem?_map, List.getElem?_eq_getElem hj]; rfl
theorem infoS22 : (Try.prog.info? 22).map (fun i => (i.zero, i.size, i.bytes)) = some (some (.slice none 0 0), 1, 24) := by kernel_rfl
theorem made_pvals (n : Nat) : madeCells (Value.slice none 0 0).cells n = pvals (List.replicate n none) := by
  apply Array.ext
  · rw [size_madeCells]; simp [pvals, Value.cells]
  · intro i h1 h2
    simp [madeCells, pvals, pval, Value.cells, Nat.mod_one]
theorem run_make_rows (n : Nat) (hn : n ≤ 1000000) (w : World) :
    (Instr.makeSlice 30 (.int .i64 n) (.int .i64 n)).run Try.prog w = .ok (.slice (some ⟨w.heap.size, 0, none⟩) n n) (w.alloc (.cells (pvals (List.replicate n none)) 22)) := by
  obtain ⟨i, hi, hz, h1, h2⟩ := info_parts infoS22
  have := run_make (P := Try.prog) w 30 22 i (.slice none 0 0) Try.underlying30 hi hz .i64 .i64 n n (by omega) (Int.le_refl _) (by rw [h2]; omega) (by omega)
  rw [h1, Nat.mul_one, made_pvals, Int.toNat_natCast] at this
  exact this
/-- What newOld brings: two rows, new. -/
def RetO (b U : Nat) (w : World) (e : Ending) (w' : World) : Prop :=
  ∃ eb pb, w.heap.size ≤ eb ∧ w.heap.size ≤ pb ∧ eb ≠ pb ∧ e = .returned (.agg #[.pointer (some ⟨b, 0, none⟩), .slice (some ⟨eb, 0, none⟩) U U, .slice (some ⟨pb, 0, none⟩) U U]) ∧
    IRw w' eb (List.replicate U (-1)) ∧ PRw w' pb (List.replicate U none) ∧ Below w.heap.size w w'
set_option maxHeartbeats 8000000 in
set_option maxRecDepth 100000 in
theorem newOld_any {w : World} {b : Nat} {G : Option Nat} {os : List Ob} {m : Nat} (h : HpO w b G os m) : Calls Try.prog 63 #[.pointer (some ⟨b, 0, none⟩)] w (RetO b (total os) w) := by
  have hU : (wds os).length = total os := wds_length os
  have hm : total os ≤ 1000000 := by have := h.2.2.2.2; have := h.2.2.2.1; omega
  have F20 := Lib.hid (fun W (hb : Below w.heap.size w W) => used_any (h.below hb).1)
  rw [hU] at F20
  have F64 := Lib.hid (fun W => unknowns_any (total os) hm W)
  generalize total os = U at hm F20 F64 ⊢
  have HMK := Lib.hid (fun W => run_make_rows U hm W)
  clear hU
  have HB0 : Hid (Below w.heap.size w (w.alloc (.cells #[.pointer none, .slice none 0 0, .slice none 0 0] 59))) := (Below.refl _ _).alloc (Nat.le_refl _) _
  have hA : (w.alloc (.cells #[.pointer none, .slice none 0 0, .slice none 0 0] 59)).heap[w.heap.size]? = some (.cells #[.pointer none, .slice none 0 0, .slice none 0 0] 59 (0, 0)) := alloc_at w _
  have hs0 : w.heap.size < (w.alloc (.cells #[.pointer none, .slice none 0 0, .slice none 0 0] 59)).heap.size := by simp
  go_enter Try.func63, Try.ntmps63
  go_wp2_with fail
  generalize w.alloc (.cells #[.pointer none, .slice none 0 0, .slice none 0 0] 59) = W0 at HB0 hA hs0 ⊢
  obtain ⟨g, hg⟩ : ∃ g, g = w.heap.size := ⟨_, rfl⟩
  rw [← hg] at hA hs0 ⊢
  have HG := Lib.hid hg
  clear hg
  have HA := Lib.hid hA
  clear hA
  refine (F20.out _ HB0.out).mono ?_
  rintro e w1 ⟨rfl, rfl⟩
  go_wp2_with fail
  refine (F64.out _).mono ?_
  rintro e w2 ⟨eb, heb, rfl, h1, h2⟩
  have H1 := Lib.hid h1
  have HB2 := Lib.hid (HB0.out.trans (h2.mono (by have := HG.out; omega)))
  have hA2 := (h2.block g hs0).trans HA.out
  have hs2 := h2.size
  clear h1 h2 F64 HA HB0
  go_wp2_with fail
  refine (F20.out _ HB2.out).mono ?_
  rintro e w3 ⟨rfl, rfl⟩
  have hmk := HMK.out w2
  have HP : Hid (PRw (w2.alloc (.cells (pvals (List.replicate U none)) 22)) w2.heap.size (List.replicate U none)) := alloc_at w2 _
  have HB3 : Hid (Below w2.heap.size w2 (w2.alloc (.cells (pvals (List.replicate U none)) 22))) := (Below.refl _ _).alloc (Nat.le_refl _) _
  have HI3 : Hid (IRw (w2.alloc (.cells (pvals (List.replicate U none)) 22)) eb (List.replicate U (-1))) := (HB3.out.block _ H1.out.lt).trans H1.out
  have hA3 := (HB3.out.block g (by omega)).trans hA2
  have hei := H1.out.lt
  generalize w2.alloc (.cells (pvals (List.replicate U none)) 22) = W3 at hmk HP HB3 HI3 hA3
  generalize hpb : w2.heap.size = pb at *
  clear hA2 H1 F20 HMK
  have c0 : W3.cell? ⟨g, 0, none⟩ = some (.pointer none) := by rw [cell_of_row _ _ 0 _ _ _ hA3]; rfl
  have c1 : W3.cell? ⟨g, 1, none⟩ = some (.slice none 0 0) := by rw [cell_of_row _ _ 1 _ _ _ hA3]; rfl
  have c2 : W3.cell? ⟨g, 2, none⟩ = some (.slice none 0 0) := by rw [cell_of_row _ _ 2 _ _ _ hA3]; rfl
  have f0 := frozen_of_row W3 g 0 _ _ hA3
  have f1 := frozen_of_row W3 g 1 _ _ hA3
  have f2 := frozen_of_row W3 g 2 _ _ hA3
  have hge : w.heap.size ≤ eb := by have := HG.out; omega
  have hgp : w.heap.size ≤ pb := by have := HB2.out.size; omega
  have HBF : Hid (Below w.heap.size w W3) := HB2.out.trans (HB3.out.mono hgp)
  have hgl : w.heap.size ≤ g := by have := HG.out; omega
  have hge2 : g ≠ eb := by omega
  have hgp2 : g ≠ pb := by omega
  have k1 := heap_setCell_same W3 g 0 _ 59 (.pointer (some ⟨b, 0, none⟩)) hA3
  have k2 := heap_setCell_same _ g 1 _ 59 (.slice (some ⟨eb, 0, none⟩) U U) k1
  have k3 := heap_setCell_same _ g 2 _ 59 (.slice (some ⟨pb, 0, none⟩) U U) k2
  have HIE : Hid (IRw (((W3.setCell ⟨g, 0, none⟩ (.pointer (some ⟨b, 0, none⟩))).setCell ⟨g, 1, none⟩ (.slice (some ⟨eb, 0, none⟩) U U)).setCell ⟨g, 2, none⟩ (.slice (some ⟨pb, 0, none⟩) U U)) eb (List.replicate U (-1))) := by
    show _ = _
    rw [Below.heap_setCell _ _ _ _ hge2.symm, Below.heap_setCell _ _ _ _ hge2.symm, Below.heap_setCell _ _ _ _ hge2.symm]; exact HI3.out
  have HIP : Hid (PRw (((W3.setCell ⟨g, 0, none⟩ (.pointer (some ⟨b, 0, none⟩))).setCell ⟨g, 1, none⟩ (.slice (some ⟨eb, 0, none⟩) U U)).setCell ⟨g, 2, none⟩ (.slice (some ⟨pb, 0, none⟩) U U)) pb (List.replicate U none)) := by
    show _ = _
    rw [Below.heap_setCell _ _ _ _ hgp2.symm, Below.heap_setCell _ _ _ _ hgp2.symm, Below.heap_setCell _ _ _ _ hgp2.symm]; exact HP.out
  have HBW : Hid (Below w.heap.size w (((W3.setCell ⟨g, 0, none⟩ (.pointer (some ⟨b, 0, none⟩))).setCell ⟨g, 1, none⟩ (.slice (some ⟨eb, 0, none⟩) U U)).setCell ⟨g, 2, none⟩ (.slice (some ⟨pb, 0, none⟩) U U))) :=
    ((HBF.out.setCell (p := ⟨g, 0, none⟩) hgl _).setCell (p := ⟨g, 1, none⟩) hgl _).setCell (p := ⟨g, 2, none⟩) hgl _
  clear hA3 k1 k2
  have K3 := Lib.hid k3
  clear k3
  go_wp2_with fail
  generalize ((W3.setCell ⟨g, 0, none⟩ (.pointer (some ⟨b, 0, none⟩))).setCell ⟨g, 1, none⟩ (.slice (some ⟨eb, 0, none⟩) U U)).setCell ⟨g, 2, none⟩ (.slice (some ⟨pb, 0, none⟩) U U) = W5 at K3 HIE HIP HBW ⊢
  clear c0 c1 c2 f0 f1 f2 hmk
  have d0 : W5.cell? ⟨g, 0, none⟩ = some (.pointer (some ⟨b, 0, none⟩)) := by rw [cell_of_row _ _ 0 _ _ _ K3.out]; rfl
  have d1 : W5.cell? ⟨g, 1, none⟩ = some (.slice (some ⟨eb, 0, none⟩) U U) := by rw [cell_of_row _ _ 1 _ _ _ K3.out]; rfl
  have d2 : W5.cell? ⟨g, 2, none⟩ = some (.slice (some ⟨pb, 0, none⟩) U U) := by rw [cell_of_row _ _ 2 _ _ _ K3.out]; rfl
  refine ⟨rfl, .agg #[.pointer (some ⟨b, 0, none⟩), .slice (some ⟨eb, 0, none⟩) U U, .slice (some ⟨pb, 0, none⟩) U U], by simp [results, Try.f63, go_sem, d0, d1, d2], (show RetO _ _ _ _ _ from ⟨eb, pb, hge, hgp, by omega, rfl, HIE.out, HIP.out, HBW.out⟩)⟩
theorem e2' {B k : Nat} {w w' : World} (h : Below B w w') (hk : k < B) : w'.heap[k]? = w.heap[k]? := h.block k hk
/-- What newCopier brings. -/
structure New (b m U dp : Nat) (w : World) (c eb pb b2 kb : Nat) (w' : World) : Prop where
  cell : w'.heap[c]? = some (.cells #[.pointer (some ⟨b, 0, none⟩), .slice (some ⟨eb, 0, none⟩) U U, .slice (some ⟨pb, 0, none⟩) U U, .int .i64 dp, .pointer (some ⟨b2, 0, none⟩), .slice (some ⟨kb, 0, none⟩) U U, .slice none 0 0] 61 (0, 0))
  e : IRw w' eb (List.replicate U (-1))
  p : PRw w' pb (List.replicate U none)
  k : IRw w' kb (List.replicate U (-1))
  h : HpO w' b2 none [] m
  bel : Below w.heap.size w w'
  le : w.heap.size ≤ eb ∧ w.heap.size ≤ pb ∧ w.heap.size ≤ b2 ∧ w.heap.size ≤ kb ∧ w.heap.size ≤ c
  ne : eb ≠ pb ∧ eb < b2 ∧ pb < b2 ∧ b2 < kb ∧ kb < c
set_option maxHeartbeats 8000000 in
set_option maxRecDepth 100000 in
theorem newCopier_any {w : World} {b : Nat} {G : Option Nat} {os : List Ob} {m : Nat} (h : HpO w b G os m) (dp : Nat) : Calls Try.prog 34 #[.pointer (some ⟨b, 0, none⟩), .int .i64 dp] w
    fun e w' => ∃ c eb pb b2 kb, e = .returned (.pointer (some ⟨c, 0, none⟩)) ∧ New b m (total os) dp w c eb pb b2 kb w' := by
  have hU : (wds os).length = total os := wds_length os
  have hm : total os ≤ 1000000 := by have := h.2.2.2.2; have := h.2.2.2.1; omega
  have hm1 := h.2.2.2.1
  have F20 := Lib.hid (fun W (hb : Below w.heap.size w W) => used_any (h.below hb).1)
  have F26 := Lib.hid (fun W (hb : Below w.heap.size w W) => words_any (h.below hb).1)
  have F27 := Lib.hid (fun W => new_any m (by omega) (by omega) W)
  rw [hU] at F20
  have F63 := Lib.hid (newOld_any h)
  have F64 := Lib.hid (fun W => unknowns_any (total os) hm W)
  generalize total os = U at hm F20 F64 F63 ⊢
  clear hU
  go_enter Try.func34, Try.ntmps34
  go_wp2_with fail
  refine F63.out.mono ?_
  rintro e w1 ⟨eb, pb, hge, hgp, hne, rfl, he, hp, hb1⟩
  have HB1 := Lib.hid hb1
  have HE1 := Lib.hid he
  have HP1 := Lib.hid hp
  have hel := he.lt
  have hpl : pb < w1.heap.size := (Array.getElem?_eq_some_iff.1 hp).1
  clear F63 hb1 he hp
  go_wp2_with fail
  refine (F26.out _ HB1.out).mono ?_
  rintro e w2 ⟨rfl, rfl⟩
  clear F26
  go_wp2_with fail
  refine (F27.out _).mono ?_
  rintro e w2 ⟨rfl, hw2⟩
  have HB2 : Hid (Below w1.heap.size w1 w2) := by rw [hw2]; exact (Below.refl _ _).alloc (Nat.le_refl _) _
  have HH : Hid (HL w w2 w1.heap.size none [] m) := by rw [hw2]; exact HL.new HB1.out m hm1
  have hs2 : w1.heap.size < w2.heap.size := by rw [hw2]; simp
  clear hw2 F27
  obtain ⟨b2, hb2⟩ : ∃ b2, b2 = w1.heap.size := ⟨_, rfl⟩
  rw [← hb2] at HH hs2 HB2 hel hpl ⊢
  have HBQ := Lib.hid hb2
  clear hb2
  go_wp2_with fail
  refine (F20.out _ HH.out.bel).mono ?_
  rintro e w3 ⟨rfl, rfl⟩
  clear F20
  go_wp2_with fail
  refine (F64.out _).mono ?_
  rintro e w3 ⟨kb, hkb, rfl, hk, hb3⟩
  have HB3 := Lib.hid hb3
  have HK := Lib.hid hk
  have hkl := hk.lt
  clear hb3 hk F64
  have HBX : Hid (Below w3.heap.size w3 (w3.alloc (.cells #[.pointer (some ⟨b, 0, none⟩), .slice (some ⟨eb, 0, none⟩) U U, .slice (some ⟨pb, 0, none⟩) U U, .int .i64 dp, .pointer (some ⟨b2, 0, none⟩), .slice (some ⟨kb, 0, none⟩) U U, .slice none 0 0] 61))) := (Below.refl _ _).alloc (Nat.le_refl _) _
  have HAT := Lib.hid (alloc_at w3 (.cells #[.pointer (some ⟨b, 0, none⟩), .slice (some ⟨eb, 0, none⟩) U U, .slice (some ⟨pb, 0, none⟩) U U, .int .i64 dp, .pointer (some ⟨b2, 0, none⟩), .slice (some ⟨kb, 0, none⟩) U U, .slice none 0 0] 61))
  go_wp2_with fail
  go_ret
  have e1 := HB2.out
  have e3 := HB3.out
  have eq := HBQ.out
  have es1 := HB1.out.size
  have es3 := e3.size
  refine ⟨w3.heap.size, eb, pb, b2, kb, rfl, HAT.out, ?_, ?_, ?_, ?_, ?_, ⟨hge, hgp, by omega, by omega, by omega⟩, ⟨hne, hel, hpl, by omega, hkl⟩⟩
  · exact ((HBX.out.block _ (by omega)).trans ((e3.block _ (by omega)).trans (e2' e1 hel))).trans HE1.out
  · exact ((HBX.out.block _ (by omega)).trans ((e3.block _ (by omega)).trans (e2' e1 hpl))).trans HP1.out
  · exact (HBX.out.block _ hkl).trans HK.out
  · exact ((HH.out.below e3).below HBX.out).hp
  · exact ((HH.out.below e3).below HBX.out).bel
end Go.Proofs.Ytkekekdkfjjifaa
namespace Go.Proofs.Ytkekekdkfjjifaa
open Go Go.RowKit
set_option linter.unusedVariables false
set_option linter.unusedSimpArgs false
structure MemB (w : World) (C : Nat → Nat) (c b : Nat) (G : Option Nat) (os : List Ob) (m eb pb : Nat) (pk : List (Option Nat)) : Prop where
  hp : HpO w b G os m
  cb : C b = 6
  cg : ∀ k, G = some k → C k = 6
  cc : C c = 1
  ce : C eb = 2
  cp : C pb = 3
  cq : ∀ (i q : Nat), pk[i]? = some (some q) → C q = 4
  inj : ∀ (i j q : Nat), pk[i]? = some (some q) → pk[j]? = some (some q) → i = j
  len : pk.length = total os
  p : PRw w pb pk
  q : ∀ (i q : Nat), pk[i]? = some (some q) → ∃ l, IRw w q l ∧ l.length = 21 ∧ PI os i l
  k0 : w.cell? ⟨c, 0, none⟩ = some (.pointer (some ⟨b, 0, none⟩))
  k1 : w.cell? ⟨c, 1, none⟩ = some (.slice (some ⟨eb, 0, none⟩) (total os) (total os))
  k2 : w.cell? ⟨c, 2, none⟩ = some (.slice (some ⟨pb, 0, none⟩) (total os) (total os))
  fresh : ∀ k, w.heap.size ≤ k → C k = 0
theorem HpO.fr {F : Nat → Prop} {w w' : World} {b : Nat} {G : Option Nat} {os : List Ob} {m : Nat} (h : HpO w b G os m) (hf : Fr F w w') (h1 : ¬ F b) (h2 : ∀ k, G = some k → ¬ F k) : HpO w' b G os m :=
  ⟨h.1.keep (hf.block _ h.1.lt h1) (fun k hk => hf.block _ (h.1.glt k hk).1 (h2 k hk)), h.2⟩
theorem IRw.fr' {F : Nat → Prop} {w w' : World} {g : Nat} {l : List Int} (h : IRw w g l) (hf : Fr F w w') (h1 : ¬ F g) : IRw w' g l := (hf.block _ h.lt h1).trans h
theorem PRw.lt {w : World} {g : Nat} {l : List (Option Nat)} (h : PRw w g l) : g < w.heap.size := (Array.getElem?_eq_some_iff.1 h).1
theorem cell_fr {F : Nat → Prop} {w w' : World} {g j : Nat} {v : Value} (h : w.cell? ⟨g, j, none⟩ = some v) (hf : Fr F w w') (h1 : ¬ F g) : w'.cell? ⟨g, j, none⟩ = some v := by
  rw [← h]; exact World.cell?_of_block (w := w) (hf.block g (World.block_lt_of_cell? w _ h) h1)
theorem MemB.fr {F : Nat → Prop} {w w' : World} {C : Nat → Nat} {c b : Nat} {G : Option Nat} {os : List Ob} {m eb pb : Nat} {pk : List (Option Nat)} (h : MemB w C c b G os m eb pb pk) (hf : Fr F w w') (hF : ∀ k, F k → C k ≠ 1 ∧ C k ≠ 3 ∧ C k ≠ 4 ∧ C k ≠ 6) : MemB w' C c b G os m eb pb pk where
  hp := h.hp.fr hf (fun e => (hF _ e).2.2.2 h.cb) (fun k hk e => (hF _ e).2.2.2 (h.cg k hk))
  cb := h.cb
  cg := h.cg
  cc := h.cc
  ce := h.ce
  cp := h.cp
  cq := h.cq
  inj := h.inj
  len := h.len
  p := (hf.block _ h.p.lt (fun e => (hF _ e).2.1 h.cp)).trans h.p
  q := fun i q hq => by
    obtain ⟨l, h1, h2⟩ := h.q i q hq
    exact ⟨l, h1.fr' hf (fun e => (hF _ e).2.2.1 (h.cq i q hq)), h2⟩
  k0 := cell_fr h.k0 hf (fun e => (hF _ e).1 h.cc)
  k1 := cell_fr h.k1 hf (fun e => (hF _ e).1 h.cc)
  k2 := cell_fr h.k2 hf (fun e => (hF _ e).1 h.cc)
  fresh := fun k hk => h.fresh k (Nat.le_trans hf.size hk)
structure StE (w : World) (eb : Nat) (rv : Value) (r es : List Int) (wr : World) : Prop where
  own : wr.ownsRow w.heap.size 3 1 rv r.length (r.map (Value.int .i64))
  e : IRw wr eb es
  fr : Fr (fun x => x = eb) w wr
  lt : eb < w.heap.size
theorem StE.below {w wr w' : World} {eb : Nat} {rv : Value} {r es : List Int} (h : StE w eb rv r es wr) (hb : Below wr.heap.size wr w') : StE w eb rv r es w' :=
  ⟨own_below h.own hb, (hb.block _ h.e.lt).trans h.e, h.fr.trans (F' := fun _ => False) (Fr.of_below hb) (fun _ _ e => e.elim), h.lt⟩
theorem StE.put {w wr : World} {eb : Nat} {rv : Value} {r es : List Int} (h : StE w eb rv r es wr) (j : Nat) (v : Int) : StE w eb rv r (es.set j v) (wr.setCell ⟨eb, j, none⟩ (.int .i64 v)) :=
  ⟨own_fr (F := fun x => x = eb) h.own (Fr.setCell (F := fun x => x = eb) (p := ⟨eb, j, none⟩) (Fr.refl _ _) rfl _) (fun k hk e => by have := (h.own.lt k hk).1; have := h.lt; omega), h.e.put j v, h.fr.setCell (p := ⟨eb, j, none⟩) rfl _, h.lt⟩
theorem StE.app {w wr w9 : World} {eb : Nat} {rv v9 : Value} {r es : List Int} {x : Int} (h : StE w eb rv r es wr) {n : Nat} (ho : w9.ownsRow w.heap.size 3 1 v9 n (r.map (Value.int .i64) ++ [.int .i64 x])) (hn : n = r.length + 1) (hg : (wr.alloc (.cells #[.int .i64 x] 3)).grownBy w9 rv.ownBlock) : StE w eb v9 (r ++ [x]) es w9 := by
  have h2 := h.below ((Below.refl _ _).alloc (Nat.le_refl _) (.cells #[.int .i64 x] 3))
  have hs := h2.fr.size
  have hf : Fr (fun k => rv.ownBlock = some k) (wr.alloc (.cells #[.int .i64 x] 3)) w9 := ⟨hg.os, hg.tape, hg.output, hg.size, fun k hk hn => hg.block k hk (fun e => hn e.symm)⟩
  refine ⟨by rw [List.length_append, List.map_append, List.length_singleton, ← hn]; exact ho, h2.e.fr' hf (fun e => by have := (h.own.lt _ e).1; have := h.lt; omega), h2.fr.trans hf (fun k hk e => by have := (h.own.lt _ e).1; omega), h.lt⟩
theorem IRw.cell? {w : World} {g : Nat} {l : List Int} (h : IRw w g l) {j : Nat} {v : Int} (hj : l[j]? = some v) : w.cell? ⟨g, j, none⟩ = some (.int .i64 v) := by
  obtain ⟨h1, h2⟩ := List.getElem?_eq_some_iff.1 hj
  rw [h.cell j h1, h2]
theorem IRw.frz {w : World} {g : Nat} {l : List Int} (h : IRw w g l) (j : Nat) : w.frozen? ⟨g, j, none⟩ = false := frozen_of_row w g j _ 3 h
def EnI (os : List Ob) (es0 : List Int) (a : Int) (eb : Nat) (w : World) (atv rv : Value) (wr : World) : Prop :=
  ∃ k : Nat, atv = .int .i64 (it os k a) ∧ StE w eb rv (rowOf os a k) (mks os es0 a k) wr ∧ Wk os es0 a k
def slen : Value → Nat
  | .slice _ n _ => n
  | _ => 0
def RetEnd (x : Int) (C : Nat → Nat) (c b : Nat) (G : Option Nat) (os : List Ob) (m eb pb : Nat) (pk : List (Option Nat)) (w : World) (e : Ending) (w' : World) : Prop :=
  e = .returned (.int .i64 x) ∧ MemB w' C c b G os m eb pb pk ∧ (∃ es, IRw w' eb es ∧ es.length = total os ∧ EI os es) ∧ Fr (fun k => k = eb) w w'
def FiI (l : List Int) (es : List Int) (x : Int) (eb : Nat) (rv : Value) (w : World) (iv : Value) (wr : World) : Prop :=
  ∃ j : Nat, j ≤ l.length ∧ iv = .int .i64 (j : Int) ∧ StE w eb rv l (setAll es (fun _ => x) (l.take j)) wr
set_option maxHeartbeats 16000000 in
set_option maxRecDepth 100000 in
theorem end_o {w : World} {C : Nat → Nat} {c b : Nat} {G : Option Nat} {os : List Ob} {m eb pb : Nat} {pk : List (Option Nat)} {es0 : List Int} (h : MemB w C c b G os m eb pb pk) (he : IRw w eb es0) (hl : es0.length = total os) (hE : EI os es0) (a : Int) (ha : Vd os a) :
    Calls Try.prog 75 #[.pointer (some ⟨c, 0, none⟩), .int .i64 a] w (RetEnd (endO os a) C c b G os m eb pb pk w) := by
  have HM := Lib.hid (fun wr (hf : Fr (fun x => x = eb) w wr) => h.fr hf (fun k hk => by rw [hk, h.ce]; decide))
  have hm : total os ≤ 1000000 := by have := h.hp.2.2.2.2; have := h.hp.2.2.2.1; omega
  have HOK := Lib.hid h.hp.2.1
  have HCL := Lib.hid h.hp.2.2.1
  have hol := total_len os
  have HEW := Lib.hid he.lt
  have HLL := Lib.hid hl
  have HEE := Lib.hid hE
  have HA := Lib.hid ha
  have H0 : Hid (EnI os es0 a eb w (.int .i64 a) (.slice none 0 0) w) := ⟨0, rfl, ⟨World.ownsRow_nil _ _ _ _, he, Fr.refl _ _, he.lt⟩, Wk.zero _ _ _⟩
  clear h he hl hE ha
  obtain ⟨U, hU⟩ : ∃ U, U = total os := ⟨_, rfl⟩
  rw [← hU] at hm hol HLL
  have HU := Lib.hid hU
  clear hU
  go_enter Try.func75, Try.ntmps75
  go_wp2_with fail
  go_loopw [1, 6] (fun av rv wr => EnI os es0 a eb w av rv wr) (fun _ rv _ => os.length + 1 - slen rv)
  case atStart => exact H0.out
  case round =>
    clear H0
    obtain ⟨k, rfl, hst, hwk⟩ := hrel
    have HW := Lib.hid hwk
    have hkb := hwk.bound HCL.out HOK.out HA.out
    have hvd := it_vd HCL.out HOK.out HA.out hwk.led (Nat.le_refl k)
    have hp := vd_lt hvd
    rw [← HU.out] at hp
    obtain ⟨an, han⟩ : ∃ an : Nat, it os k a = an := ⟨(it os k a).toNat, by omega⟩
    have HAN := Lib.hid han
    obtain ⟨R, hR⟩ : ∃ R, R = rowOf os a k := ⟨_, rfl⟩
    obtain ⟨E, hEs⟩ : ∃ E, E = mks os es0 a k := ⟨_, rfl⟩
    rw [← hR, ← hEs] at hst
    have HRL : Hid (R.length = k) := by rw [hR]; exact rowOf_len os a k
    have HEL : Hid (E.length = U) := by show _ = _; rw [hEs]; unfold mks; rw [setAll_len, HLL.out]
    have HRB : Hid (∀ j (hj : j < R.length), ∃ y : Nat, R[j] = y) := fun j hj => by
      have h1 := hwk.rows HCL.out HOK.out HA.out (by rw [HLL.out, HU.out]) R[j] (by rw [← hR]; exact List.getElem_mem _)
      exact ⟨R[j].toNat, by omega⟩
    have HRB2 : Hid (∀ j (hj : j < R.length), R[j] < (U : Int)) := fun j hj => by
      have h1 := hwk.rows HCL.out HOK.out HA.out (by rw [HLL.out, HU.out]) R[j] (by rw [← hR]; exact List.getElem_mem _)
      have h2 := HLL.out
      omega
    have HQ := Lib.hid hR
    have HQE := Lib.hid hEs
    have HS := Lib.hid hst
    rw [han] at hp hvd ⊢
    have haU : an < U := by omega
    have HVD := Lib.hid hvd
    have c0 := (HM.out wr hst.fr).k0
    have c1 := (HM.out wr hst.fr).k1
    rw [← HU.out] at c1
    obtain ⟨v, hv⟩ : ∃ v, E[an]? = some v := ⟨_, List.getElem?_eq_getElem (by rw [HEL.out]; exact haU)⟩
    have HV := Lib.hid hv
    have c3 := hst.e.cell? hv
    have F22 := Lib.hid (fun W (hf : Fr (fun x => x = eb) w W) => tagm_any (HM.out W hf).hp (an : Int) (by omega) (by omega))
    have hown := hst.own
    rw [HRL.out] at hown
    obtain ⟨ao, cap, rfl⟩ := own_sform hown
    have HEX : Hid ((hdo os (endO os an)).t ≠ 5 → endO os a = endO os an ∧ EI os (setAll E (fun _ => endO os an) R)) := fun hne => by
      have := hwk.out HCL.out HOK.out HA.out (by rw [HLL.out, HU.out]) HEE.out (by rw [HAN.out]; exact hne)
      rw [HAN.out, ← hR, ← hEs] at this; exact this
    clear hwk hst hown han hv hvd hR hEs
    by_cases ht : (hdo os an).t = 5
    · have qt : (((hdo os an).t : Int) == 5) = true := by rw [ht]; rfl
      by_cases hv1 : v = -1
      · subst hv1
        have qv : ((-1 : Int) == -1) = true := rfl
        have HW2 : Hid (Wk os es0 a (k + 1)) := HW.out.more HCL.out HOK.out HA.out (by rw [HLL.out, HU.out]) (by rw [HAN.out]; exact ht) (by rw [HAN.out, Int.toNat_natCast, ← HQE.out]; exact HV.out)
        have HN : Hid (ptrsOf os an = [it os (k + 1) a]) := by
          obtain ⟨q, hq⟩ := HVD.out
          have ht' := ht
          rw [hdo_tag hq] at ht'
          have h1 := (HOK.out q (ob_mem hq)).shp.1 ht'
          show _ = _
          rw [ptrsOf_ob hq]
          have e2 : it os (k + 1) a = q.body.headD 0 := by
            show (nxt os (it os k a)).getD 0 = _
            rw [HAN.out, nxt_some_tag hq ht']; rfl
          rw [e2]
          have e3 := (HOK.out q (ob_mem hq)).ind ht'
          match hb : q.body, h1 with
          | [], h1 => unfold Ob.ptrs at h1; rw [hb] at h1; simp at h1
          | x :: l, h1 => unfold Ob.ptrs; rw [hb, e3]; rfl
        have F23 := Lib.hid (fun W (hf : Fr (fun x => x = eb) w W) => ptrs_o (HM.out W hf).hp (an : Int) (by omega) (by omega))
        rw [HN.out] at F23
        clear HEX HN ht
        go_wp2_with fail
        refine (F22.out wr HS.out.fr).mono ?_
        rintro e w2 ⟨rfl, hb2⟩
        have HS2 := Lib.hid (HS.out.below hb2)
        clear F22 HS c0 c1 c3 hb2
        have c0 := (HM.out w2 HS2.out.fr).k0
        have c1 := (HM.out w2 HS2.out.fr).k1
        rw [← HU.out] at c1
        have c3 := HS2.out.e.cell? HV.out
        have f3 := HS2.out.e.frz an
        have HSX : Hid (StE w eb (.slice ao k cap) R (E.set an an) (w2.setCell ⟨eb, an, none⟩ (.int .i64 (an : Int)))) := HS2.out.put an an
        have hX := HSX.out.below ((Below.refl _ _).alloc (Nat.le_refl _) (.cells #[.int .i64 (an : Int)] 3))
        have HSR := Lib.hid (srcA_one (d := .int .i64 (an : Int)) (T := 3) (alloc_at (w2.setCell ⟨eb, an, none⟩ (.int .i64 (an : Int))) (.cells #[.int .i64 (an : Int)] 3)) rfl 1)
        have hzz : (w2.setCell ⟨eb, an, none⟩ (.int .i64 (an : Int))).heap.size = w2.heap.size := by simp [World.setCell]
        rw [hzz] at HSR
        clear hzz
        have hsz2 : w.heap.size ≤ ((w2.setCell ⟨eb, an, none⟩ (.int .i64 (an : Int))).alloc (.cells #[.int .i64 (an : Int)] 3)).heap.size := hX.fr.size
        have HO2 : Hid (((w2.setCell ⟨eb, an, none⟩ (.int .i64 (an : Int))).alloc (.cells #[.int .i64 (an : Int)] 3)).ownsRow w.heap.size 3 1 (.slice ao k cap) k (R.map (Value.int .i64))) := by
          have := hX.own; rw [HRL.out] at this; exact this
        have hk9 : k + 1 ≤ 1000000000 := by omega
        clear hX HV
        obtain ⟨RM, hRM⟩ : ∃ RM, RM = R.map (Value.int .i64) := ⟨_, rfl⟩
        rw [← hRM] at HO2
        have HRM := Lib.hid hRM
        clear hRM
        go_wp2_with (refine wpList_wantedR (by rfl) fun K hK => ?_; refine wp_appI (Operand.tmp 35) (Operand.tmp 37) rfl w.heap.size (.slice ao k cap) k RM rfl HO2.out (.slice (some ⟨w2.heap.size, 0, none⟩) 1 1) rfl 1 _ HSR.out hk9 hsz2 ?_; intro v9 w9 hown9 hg9 hv9; have HS9 : Hid (StE w eb v9 (R ++ [(an : Int)]) (E.set an an) w9) := HSX.out.app (by rw [← HRM.out]; exact hown9) (by rw [HRL.out]) hg9; clear hown9 hg9 hv9 HSX HSR HO2 hsz2 HRM RM HS2 c0 c1 c3 f3; have c0 := (HM.out w9 HS9.out.fr).k0; refine hK _ _ ?_; clear hK K)
        refine (F23.out w9 HS9.out.fr).mono ?_
        rintro e w10 hr10
        obtain ⟨po, pc, rfl, hown10, hb10⟩ := hr10.form
        have HS10 := Lib.hid (HS9.out.below hb10)
        obtain ⟨g10, cg10, e10, -, -, -, hgc10⟩ := own_at hown10 (Nat.lt_of_lt_of_eq Nat.zero_lt_one rfl)
        have c10 := hgc10 0 (Nat.lt_of_lt_of_eq Nat.zero_lt_one rfl)
        simp only [List.getElem_cons_zero] at c10
        injection e10 with e10 _ _
        subst e10
        have HREL : Hid (EnI os es0 a eb w (.int .i64 (it os (k + 1) a)) v9 w10) := by
          refine ⟨k + 1, rfl, ?_, HW2.out⟩
          rw [rowOf_snoc, mks_more, HAN.out, ← HQ.out, ← HQE.out, Int.toNat_natCast]
          exact HS10.out
        have HSL : Hid (slen v9 = k + 1) := by
          have h9 := HS10.out.own
          obtain ⟨x1, x2, x3⟩ := own_sform h9
          show _ = _
          rw [x3]; simp [slen, HRL.out]
        clear F23 HS9 hr10 hown10 hgc10 c0 HS10
        go_wp2_with fail
        go_roundw
        case rel => exact HREL.out
        case measure => rw [HSL.out]; simp [slen]; omega
      · have qv : (v == -1) = false := by simpa using hv1
        have HE : Hid (v = endO os an) := by
          have := HW.out.last HCL.out HOK.out HA.out (by rw [HLL.out, HU.out]) HEE.out (v := v) (by rw [HAN.out]; exact ht) (by rw [HAN.out, Int.toNat_natCast, ← HQE.out]; exact HV.out) hv1
          rw [HAN.out] at this; exact this
        have hvv : Vd os v := by rw [HE.out]; exact endO_valid HVD.out
        have hvp := vd_lt hvv
        rw [← HU.out] at hvp
        have F22v := Lib.hid (fun W (hf : Fr (fun x => x = eb) w W) => tagm_any (HM.out W hf).hp v (by omega) (by omega))
        have HT9 := Lib.hid ht
        clear hv1 hvv ht
        go_wp2_with fail
        refine (F22.out wr HS.out.fr).mono ?_
        rintro e w2 ⟨rfl, hb2⟩
        have HS2 := Lib.hid (HS.out.below hb2)
        clear HS c0 c1 c3 hb2
        have c0 := (HM.out w2 HS2.out.fr).k0
        have c1 := (HM.out w2 HS2.out.fr).k1
        rw [← HU.out] at c1
        have c3 := HS2.out.e.cell? HV.out
        go_wp2_with fail
        refine (F22.out w2 HS2.out.fr).mono ?_
        rintro e w3 ⟨rfl, hb2⟩
        have HS3 := Lib.hid (HS2.out.below hb2)
        clear HS2 c0 c1 c3 hb2 F22
        have c0 := (HM.out w3 HS3.out.fr).k0
        have c1 := (HM.out w3 HS3.out.fr).k1
        rw [← HU.out] at c1
        have c3 := HS3.out.e.cell? HV.out
        go_wp2_with fail
        refine (F22v.out w3 HS3.out.fr).mono ?_
        rintro e w4 ⟨rfl, hb2⟩
        have HS := Lib.hid (HS3.out.below hb2)
        clear HS3 c0 c1 c3 hb2 F22v
        by_cases htv : (hdo os v).t = 5
        · have qw : (((hdo os v).t : Int) == 5) = true := by rw [htv]; rfl
          have HFN : Hid (endO os a = a ∧ EI os E) := by
            have := HW.out.ring HCL.out HOK.out HA.out (by rw [HLL.out, HU.out]) HEE.out (by rw [HAN.out, ← HE.out]; exact htv)
            rw [← HQE.out] at this; exact this
          clear HEX HV HE htv
          go_wp2_with fail
          go_ret
          exact ⟨by rw [HFN.out.1]; rfl, HM.out _ HS.out.fr, ⟨_, HS.out.e, by rw [HEL.out, HU.out], HFN.out.2⟩, HS.out.fr⟩
        · have qw : (((hdo os v).t : Int) == 5) = false := by
            have : ¬ ((hdo os v).t : Int) = 5 := by omega
            simpa using this
          have HFI : Hid (endO os a = v ∧ EI os (setAll E (fun _ => v) R)) := by
            have := HEX.out (by rw [← HE.out]; exact htv)
            rw [← HE.out] at this; exact this
          clear HEX HV HE htv
          go_wp2_with fail
          go_loopw [72] (fun iv wr => FiI R E v eb (.slice ao k cap) w iv wr) (fun iv _ => k - (intOf iv).toNat)
          case atStart => exact ⟨0, Nat.zero_le _, rfl, HS.out⟩
          case round =>
            clear HS
            obtain ⟨j, hj, rfl, hst⟩ := hrel
            rw [HRL.out] at hj
            have HS := Lib.hid hst
            clear hst
            by_cases hjk : j < k
            · have q1 : decide ((j : Int) < (k : Int)) = true := decide_eq_true (by omega)
              have hjl : j < R.length := by rw [HRL.out]; exact hjk
              obtain ⟨y, hy⟩ : ∃ y : Nat, R[j] = y := HRB.out j hjl
              have hyU := HRB2.out j hjl
              rw [hy] at hyU
              have hown := HS.out.own
              rw [HRL.out] at hown
              obtain ⟨g, cg, e1, hg1, hg2, -, hgc⟩ := own_at hown (by omega)
              have c9 := hgc j hjl
              rw [hy] at c9
              injection e1 with e1 _ _
              subst e1
              have c1 := (HM.out _ HS.out.fr).k1
              rw [← HU.out] at c1
              obtain ⟨z, hz⟩ : ∃ z, (setAll E (fun _ => v) (R.take j))[y]? = some z := ⟨_, List.getElem?_eq_getElem (by rw [setAll_len, HEL.out]; omega)⟩
              have c3 := HS.out.e.cell? hz
              have f3 := HS.out.e.frz y
              have HREL : Hid (FiI R E v eb (.slice (some ⟨g, 0, none⟩) k cap) w (.int .i64 ((j : Int) + 1)) (wr.setCell ⟨eb, y, none⟩ (.int .i64 v))) := by
                refine ⟨j + 1, by rw [HRL.out]; omega, by go_num, ?_⟩
                have h9 := HS.out.put y v
                rw [List.take_succ_eq_append_getElem hjl, setAll_snoc, hy, Int.toNat_natCast]
                exact h9
              clear hown hgc hz hy hjl
              go_wp2_with fail
              go_roundw
              case rel => exact HREL.out
              case measure => simp [intOf]; omega
            · obtain rfl : j = k := by omega
              have q1 : decide ((j : Int) < (j : Int)) = false := decide_eq_false (by omega)
              have HS2 : Hid (StE w eb (.slice ao j cap) R (setAll E (fun _ => v) R) wr) := by
                have := HS.out; rw [← HRL.out, List.take_length, HRL.out] at this; exact this
              go_wp2_with fail
              go_ret
              exact ⟨by rw [HFI.out.1]; rfl, HM.out _ HS2.out.fr, ⟨_, HS2.out.e, by rw [setAll_len, HEL.out, HU.out], HFI.out.2⟩, HS2.out.fr⟩
    · have qt : (((hdo os an).t : Int) == 5) = false := by
        have : ¬ ((hdo os an).t : Int) = 5 := by omega
        simpa using this
      have HFI : Hid (endO os a = an ∧ EI os (setAll E (fun _ => an) R)) := by
        obtain ⟨q, hq⟩ := HVD.out
        have e := endO_self hq (by rw [← hdo_tag hq]; exact ht)
        have := HEX.out (by rw [e]; exact ht)
        rw [e] at this; exact this
      clear HEX HV
      go_wp2_with fail
      refine (F22.out wr HS.out.fr).mono ?_
      rintro e w2 ⟨rfl, hb2⟩
      have HS2 := Lib.hid (HS.out.below hb2)
      clear HS c0 c1 c3 hb2
      have c0 := (HM.out w2 HS2.out.fr).k0
      go_wp2_with fail
      refine (F22.out w2 HS2.out.fr).mono ?_
      rintro e w3 ⟨rfl, hb2⟩
      have HS3 := Lib.hid (HS2.out.below hb2)
      clear HS2 c0 hb2
      have c0 := (HM.out w3 HS3.out.fr).k0
      go_wp2_with fail
      refine (F22.out w3 HS3.out.fr).mono ?_
      rintro e w4 ⟨rfl, hb2⟩
      have HS := Lib.hid (HS3.out.below hb2)
      clear HS3 c0 hb2
      go_wp2_with fail
      go_loopw [72] (fun iv wr => FiI R E an eb (.slice ao k cap) w iv wr) (fun iv _ => k - (intOf iv).toNat)
      case atStart => exact ⟨0, Nat.zero_le _, rfl, HS.out⟩
      case round =>
        clear HS
        obtain ⟨j, hj, rfl, hst⟩ := hrel
        rw [HRL.out] at hj
        have HS := Lib.hid hst
        clear hst
        by_cases hjk : j < k
        · have q1 : decide ((j : Int) < (k : Int)) = true := decide_eq_true (by omega)
          have hjl : j < R.length := by rw [HRL.out]; exact hjk
          obtain ⟨y, hy⟩ : ∃ y : Nat, R[j] = y := HRB.out j hjl
          have hyU := HRB2.out j hjl
          rw [hy] at hyU
          have hown := HS.out.own
          rw [HRL.out] at hown
          obtain ⟨g, cg, e1, hg1, hg2, -, hgc⟩ := own_at hown (by omega)
          have c9 := hgc j hjl
          rw [hy] at c9
          injection e1 with e1 _ _
          subst e1
          have c1 := (HM.out _ HS.out.fr).k1
          rw [← HU.out] at c1
          obtain ⟨z, hz⟩ : ∃ z, (setAll E (fun _ => an) (R.take j))[y]? = some z := ⟨_, List.getElem?_eq_getElem (by rw [setAll_len, HEL.out]; omega)⟩
          have c3 := HS.out.e.cell? hz
          have f3 := HS.out.e.frz y
          have HREL : Hid (FiI R E an eb (.slice (some ⟨g, 0, none⟩) k cap) w (.int .i64 ((j : Int) + 1)) (wr.setCell ⟨eb, y, none⟩ (.int .i64 an))) := by
            refine ⟨j + 1, by rw [HRL.out]; omega, by go_num, ?_⟩
            have h9 := HS.out.put y an
            rw [List.take_succ_eq_append_getElem hjl, setAll_snoc, hy, Int.toNat_natCast]
            exact h9
          clear hown hgc hz hy hjl
          go_wp2_with fail
          go_roundw
          case rel => exact HREL.out
          case measure => simp [intOf]; omega
        · obtain rfl : j = k := by omega
          have q1 : decide ((j : Int) < (j : Int)) = false := decide_eq_false (by omega)
          have HS2 : Hid (StE w eb (.slice ao j cap) R (setAll E (fun _ => an) R) wr) := by
            have := HS.out; rw [← HRL.out, List.take_length, HRL.out] at this; exact this
          go_wp2_with fail
          go_ret
          exact ⟨by rw [HFI.out.1]; rfl, HM.out _ HS2.out.fr, ⟨_, HS2.out.e, by rw [setAll_len, HEL.out, HU.out], HFI.out.2⟩, HS2.out.fr⟩
end Go.Proofs.Ytkekekdkfjjifaa
namespace Go.Proofs.Ytkekekdkfjjifaa
open Go Go.RowKit
set_option linter.unusedVariables false
set_option linter.unusedSimpArgs false
def Memo (w : World) (C : Nat → Nat) (c b : Nat) (G : Option Nat) (os : List Ob) (m eb pb : Nat) (pk : List (Option Nat)) : Prop :=
  MemB w C c b G os m eb pb pk ∧ ∃ es, IRw w eb es ∧ es.length = total os ∧ EI os es
theorem Memo.fr {F : Nat → Prop} {w w' : World} {C : Nat → Nat} {c b : Nat} {G : Option Nat} {os : List Ob} {m eb pb : Nat} {pk : List (Option Nat)} (h : Memo w C c b G os m eb pb pk) (hf : Fr F w w') (hF : ∀ k, F k → C k ≠ 1 ∧ C k ≠ 2 ∧ C k ≠ 3 ∧ C k ≠ 4 ∧ C k ≠ 6) : Memo w' C c b G os m eb pb pk := by
  obtain ⟨es, h1, h2⟩ := h.2
  exact ⟨h.1.fr hf (fun k hk => ⟨(hF k hk).1, (hF k hk).2.2.1, (hF k hk).2.2.2.1, (hF k hk).2.2.2.2⟩), es, h1.fr' hf (fun e => (hF _ e).2.1 h.1.ce), h2⟩
theorem Memo.below {w w' : World} {C : Nat → Nat} {c b : Nat} {G : Option Nat} {os : List Ob} {m eb pb : Nat} {pk : List (Option Nat)} (h : Memo w C c b G os m eb pb pk) (hb : Below w.heap.size w w') : Memo w' C c b G os m eb pb pk :=
  h.fr (F := fun _ => False) (Fr.of_below hb) (fun _ e => e.elim)
/-- Other colours, of blocks that are not there yet. -/
theorem MemB.recolor {w : World} {C C' : Nat → Nat} {c b : Nat} {G : Option Nat} {os : List Ob} {m eb pb : Nat} {pk : List (Option Nat)} (h : MemB w C c b G os m eb pb pk) (heb : eb < w.heap.size) (hC : ∀ k, k < w.heap.size → C k ≠ 0 → C' k = C k) (hC2 : ∀ k, w.heap.size ≤ k → C' k = 0) : MemB w C' c b G os m eb pb pk where
  hp := h.hp
  cb := by rw [hC _ h.hp.1.lt (by rw [h.cb]; decide)]; exact h.cb
  cg := fun k hk => by rw [hC _ (h.hp.1.glt k hk).1 (by rw [h.cg k hk]; decide)]; exact h.cg k hk
  cc := by rw [hC _ (World.block_lt_of_cell? w _ h.k0) (by rw [h.cc]; decide)]; exact h.cc
  ce := by rw [hC _ heb (by rw [h.ce]; decide)]; exact h.ce
  cp := by rw [hC _ h.p.lt (by rw [h.cp]; decide)]; exact h.cp
  cq := fun i q hq => by
    obtain ⟨l, h1, _⟩ := h.q i q hq
    rw [hC _ h1.lt (by rw [h.cq i q hq]; decide)]; exact h.cq i q hq
  inj := h.inj
  len := h.len
  p := h.p
  q := h.q
  k0 := h.k0
  k1 := h.k1
  k2 := h.k2
  fresh := hC2
/-- What a call on the way may have turned. -/
structure Mst (C : Nat → Nat) (pk : List (Option Nat)) (w : World) (C' : Nat → Nat) (pk' : List (Option Nat)) (w' : World) : Prop where
  fr : Fr (fun k => C k = 2 ∨ C k = 3 ∨ C k = 4) w w'
  col : ∀ k, k < w.heap.size → C' k = C k
  ext : ∀ (i q : Nat), pk[i]? = some (some q) → pk'[i]? = some (some q)
theorem Mst.refl (C : Nat → Nat) (pk : List (Option Nat)) (w : World) : Mst C pk w C pk w := ⟨Fr.refl _ _, fun _ _ => rfl, fun _ _ h => h⟩
theorem Mst.trans {C C' C9 : Nat → Nat} {pk pk' pk9 : List (Option Nat)} {w w' w9 : World} (h : Mst C pk w C' pk' w') (k : Mst C' pk' w' C9 pk9 w9) : Mst C pk w C9 pk9 w9 :=
  ⟨h.fr.trans k.fr (fun x hx e => by rw [h.col x hx] at e; exact e), fun x hx => by rw [k.col x (Nat.lt_of_lt_of_le hx h.fr.size), h.col x hx], fun i q e => k.ext i q (h.ext i q e)⟩
theorem Mst.below {C C' : Nat → Nat} {pk pk' : List (Option Nat)} {w w' w9 : World} (h : Mst C pk w C' pk' w') (hb : Below w'.heap.size w' w9) : Mst C pk w C' pk' w9 :=
  ⟨h.fr.trans (F' := fun _ => False) (Fr.of_below hb) (fun _ _ e => e.elim), h.col, h.ext⟩
def RetM (x : Int) (C : Nat → Nat) (c b : Nat) (G : Option Nat) (os : List Ob) (m eb pb : Nat) (pk : List (Option Nat)) (w : World) (e : Ending) (w' : World) : Prop :=
  e = .returned (.int .i64 x) ∧ ∃ C' pk', Memo w' C' c b G os m eb pb pk' ∧ Mst C pk w C' pk' w'
theorem RetEnd.memo {x : Int} {C : Nat → Nat} {c b : Nat} {G : Option Nat} {os : List Ob} {m eb pb : Nat} {pk : List (Option Nat)} {w w' : World} {e : Ending} (h : RetEnd x C c b G os m eb pb pk w e w') : e = .returned (.int .i64 x) ∧ Memo w' C c b G os m eb pb pk ∧ Mst C pk w C pk w' :=
  ⟨h.1, ⟨h.2.1, h.2.2.1⟩, ⟨h.2.2.2.os, h.2.2.2.tape, h.2.2.2.output, h.2.2.2.size, fun k hk hn => h.2.2.2.block k hk (fun e => hn (.inl (by rw [e]; exact h.2.1.ce)))⟩, fun _ _ => rfl, fun _ _ h => h⟩
/-- A new row for what one picks. -/
theorem Memo.newpick {w : World} {C : Nat → Nat} {c b : Nat} {G : Option Nat} {os : List Ob} {m eb pb : Nat} {pk : List (Option Nat)} (h : Memo w C c b G os m eb pb pk) {a : Nat} (hn : pk[a]? = some none) {q : Nat} (hq : IRw w q (List.replicate 21 (-1))) (hC : C q = 0) :
    Memo (w.setCell ⟨pb, a, none⟩ (.slice (some ⟨q, 0, none⟩) 21 21)) (fun k => if k = q then 4 else C k) c b G os m eb pb (pk.set a (some q)) := by
  obtain ⟨h1, es, e1, e2⟩ := h
  have hal : a < pk.length := (List.getElem?_eq_some_iff.1 hn).1
  have hf : Fr (fun k => k = pb) w (w.setCell ⟨pb, a, none⟩ (.slice (some ⟨q, 0, none⟩) 21 21)) := Fr.setCell (F := fun k => k = pb) (p := ⟨pb, a, none⟩) (Fr.refl _ _) rfl _
  have hr := h1.recolor (C' := fun k => if k = q then 4 else C k) e1.lt (fun k hk h0 => by
    show (if k = q then 4 else C k) = C k
    rw [if_neg (fun e => h0 (by rw [e]; exact hC))]) (fun k hk => by
    show (if k = q then 4 else C k) = 0
    rw [if_neg (fun e => by have := hq.lt; omega)]; exact h1.fresh k hk)
  have hqp : q ≠ pb := fun e => by rw [e, h1.cp] at hC; cases hC
  have hget : ∀ (i q' : Nat), (pk.set a (some q))[i]? = some (some q') → (i = a ∧ q' = q) ∨ (i ≠ a ∧ pk[i]? = some (some q')) := by
    intro i q' hi
    rw [List.getElem?_set] at hi
    by_cases e : a = i
    · subst e; rw [if_pos rfl, if_pos hal] at hi; injection hi with hi; injection hi with hi; exact .inl ⟨rfl, hi.symm⟩
    · rw [if_neg e] at hi; exact .inr ⟨fun e2 => e e2.symm, hi⟩
  have hqn : ∀ (i : Nat), pk[i]? = some (some q) → False := fun i hi => by have := h1.cq i q hi; omega
  refine ⟨⟨hr.hp.fr hf (fun e => by have := h1.cb; rw [e, h1.cp] at this; cases this) (fun k hk e => by have := h1.cg k hk; rw [e, h1.cp] at this; cases this), hr.cb, hr.cg, hr.cc, hr.ce, hr.cp, ?_, ?_, by rw [List.length_set]; exact h1.len, h1.p.put a (some q), ?_, cell_fr h1.k0 hf (fun e => by have := h1.cc; rw [e, h1.cp] at this; cases this), cell_fr h1.k1 hf (fun e => by have := h1.cc; rw [e, h1.cp] at this; cases this), cell_fr h1.k2 hf (fun e => by have := h1.cc; rw [e, h1.cp] at this; cases this), fun k hk => hr.fresh k (by simpa [World.setCell] using hk)⟩, es, e1.fr' hf (fun e => by have := h1.ce; rw [e, h1.cp] at this; cases this), e2⟩
  · intro i q' hi
    rcases hget i q' hi with ⟨_, rfl⟩ | ⟨_, h9⟩
    · show (if q' = q' then 4 else C q') = 4; rw [if_pos rfl]
    · exact hr.cq i q' h9
  · intro i j q' hi hj
    rcases hget i q' hi with ⟨rfl, rfl⟩ | ⟨_, h9⟩
    · rcases hget j q' hj with ⟨rfl, _⟩ | ⟨_, h9⟩
      · rfl
      · exact (hqn j h9).elim
    · rcases hget j q' hj with ⟨rfl, rfl⟩ | ⟨_, h8⟩
      · exact (hqn i h9).elim
      · exact h1.inj i j q' h9 h8
  · intro i q' hi
    rcases hget i q' hi with ⟨rfl, rfl⟩ | ⟨_, h9⟩
    · refine ⟨_, hq.fr' hf hqp, by simp, fun d v hv => .inl ?_⟩
      rw [List.getElem?_replicate] at hv
      split at hv
      · injection hv with hv; exact hv.symm
      · cases hv
    · obtain ⟨l, k1, k2⟩ := h1.q i q' h9
      exact ⟨l, k1.fr' hf (fun e => by have := h1.cq i q' h9; rw [e, h1.cp] at this; cases this), k2⟩
/-- One more is known. -/
theorem Memo.setpick {w : World} {C : Nat → Nat} {c b : Nat} {G : Option Nat} {os : List Ob} {m eb pb : Nat} {pk : List (Option Nat)} (h : Memo w C c b G os m eb pb pk) {a q : Nat} (hn : pk[a]? = some (some q)) (d : Nat) {x : Int} (hx : x = shortO os d a) :
    Memo (w.setCell ⟨q, d, none⟩ (.int .i64 x)) C c b G os m eb pb pk := by
  obtain ⟨h1, es, e1, e2⟩ := h
  have h4 := h1.cq a q hn
  have hf : Fr (fun k => k = q) w (w.setCell ⟨q, d, none⟩ (.int .i64 x)) := Fr.setCell (F := fun k => k = q) (p := ⟨q, d, none⟩) (Fr.refl _ _) rfl _
  refine ⟨⟨h1.hp.fr hf (fun e => by have := h1.cb; rw [e, h4] at this; cases this) (fun k hk e => by have := h1.cg k hk; rw [e, h4] at this; cases this), h1.cb, h1.cg, h1.cc, h1.ce, h1.cp, h1.cq, h1.inj, h1.len, (hf.block _ h1.p.lt (fun e => by have := h1.cp; rw [e, h4] at this; cases this)).trans h1.p, ?_, cell_fr h1.k0 hf (fun e => by have := h1.cc; rw [e, h4] at this; cases this), cell_fr h1.k1 hf (fun e => by have := h1.cc; rw [e, h4] at this; cases this), cell_fr h1.k2 hf (fun e => by have := h1.cc; rw [e, h4] at this; cases this), fun k hk => h1.fresh k (by simpa [World.setCell] using hk)⟩, es, e1.fr' hf (fun e => by have := h1.ce; rw [e, h4] at this; cases this), e2⟩
  intro i q' hi
  obtain ⟨l, k1, k2, k3⟩ := h1.q i q' hi
  by_cases e : q' = q
  · subst e
    obtain rfl := h1.inj i a q' hi hn
    refine ⟨l.set d x, k1.put d x, by rw [List.length_set]; exact k2, fun d' v hv => ?_⟩
    rw [List.getElem?_set] at hv
    by_cases e2 : d = d'
    · subst e2
      rw [if_pos rfl] at hv
      split at hv
      · injection hv with hv; exact .inr (by rw [← hv, hx])
      · cases hv
    · rw [if_neg e2] at hv; exact k3 d' v hv
  · exact ⟨l, k1.fr' hf (fun e2 => e e2), k2, k3⟩
theorem Mst.put {C C' : Nat → Nat} {pk pk' : List (Option Nat)} {w w' : World} (h : Mst C pk w C' pk' w') {p : Addr} (hp : C' p.block = 2 ∨ C' p.block = 3 ∨ C' p.block = 4) (u : Value) : Mst C pk w C' pk' (w'.setCell p u) :=
  h.trans ⟨Fr.setCell (Fr.refl _ _) hp _, fun _ _ => rfl, fun _ _ h => h⟩
theorem Mst.newpick {C : Nat → Nat} {pk : List (Option Nat)} {w : World} {a q : Nat} (hn : pk[a]? = some none) (hq : w.heap.size ≤ q) : Mst C pk w (fun k => if k = q then 4 else C k) (pk.set a (some q)) w :=
  ⟨Fr.refl _ _, fun k hk => by show (if k = q then 4 else C k) = C k; rw [if_neg (by omega)], fun i q' hi => by
    rw [List.getElem?_set, if_neg (fun e => by rw [e, hi] at hn; cases hn)]; exact hi⟩
end Go.Proofs.Ytkekekdkfjjifaa
