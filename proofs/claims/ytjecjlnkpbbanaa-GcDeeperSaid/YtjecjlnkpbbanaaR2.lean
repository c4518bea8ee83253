/- The document's Ptrs, Nums, Objects; may an object be so. -/
import Derived.Test.YtjecjlnkpbbanaaR1
namespace Go.Proofs.Ytjecjlnkpbbanaa
open Go Go.RowKit
set_option linter.unusedVariables false
set_option linter.unusedSimpArgs false
theorem own_srcA {w : World} {B : Nat} {v : Value} {n : Nat} {xs : List Int} (h : w.ownsRow B 3 1 v n (xs.map (Value.int .i64))) : SrcA w 1 v n (xs.map (Value.int .i64)) := by
  rcases h.2 with ⟨rfl, h0⟩ | ⟨g, cap, cur, rfl, hb, hh, hn, hm, hs, ht⟩
  · subst h0
    have := h.1
    refine .inl ⟨0, rfl, rfl, List.eq_nil_of_length_eq_zero (by simpa using this)⟩
  · exact .inr ⟨_, cap, rfl, h.1, h.cells (g := g) rfl, fun u hu => by
      obtain ⟨x, _, rfl⟩ := List.mem_map.1 hu
      rfl⟩
theorem none_made (w : World) : (w.alloc (.cells #[] 3)).ownsRow w.heap.size 3 1 (.slice (some ⟨w.heap.size, 0, none⟩) 0 0) 0 [] :=
  ⟨rfl, .inr ⟨_, 0, #[], rfl, Nat.le_refl _, alloc_at w _, Nat.le_refl _, Nat.zero_le _, rfl, rfl⟩⟩
set_option maxHeartbeats 8000000 in
set_option maxRecDepth 100000 in
theorem rptrs_r {w : World} {x : Nat} {C : Nat → Nat} {qs : List Nat} {os : List Ob} {m : Nat} (h : Rh w x C qs os m) (a : Int) : Calls Try.prog 41 #[.pointer (some ⟨x, 0, none⟩), .int .i64 a] w (RetI (ptrsOf os a) w) := by
  have F := Lib.hid (find_r h a)
  have hk := h.oks
  rcases h.at a with ⟨-, h2, h3⟩ | ⟨i, q, o, -, -, -, -, -, h2, h3, h4⟩
  · have e : ptrsOf os a = [] := by unfold ptrsOf; rw [h3]
    rw [e]
    rw [h2] at F
    clear h h2 h3 e hk
    go_enter Try.func41, Try.ntmps41
    go_wp2_with fail
    refine F.out.mono ?_
    rintro e w1 ⟨rfl, rfl⟩
    clear F
    go_wp2_with fail
    go_ret
    exact ⟨_, rfl, World.ownsRow_nil _ _ _ _, Below.refl _ _⟩
  · have e : ptrsOf os a = o.ptrs := by unfold ptrsOf; rw [h3]
    rw [e]
    rw [h2] at F
    have hb : o.ptrs.length ≤ 60 := by
      have h5 := hk o (ob_mem h3)
      have := h5.p
      have := h5.n
      simp [Ob.ptrs]; omega
    obtain ⟨pa, pc, na, nc, c0, c1, c2, c3, o1, o2⟩ := h4.cells
    have hq : q < w.heap.size := World.block_lt_of_cell? w _ c0
    generalize o.ptrs = xs at c2 o1 hb
    generalize o.nums = ys at c3 o2
    have hA : Below w.heap.size w (w.alloc (.cells #[] 3)) := (Below.refl _ _).alloc (Nat.le_refl _) _
    have HS := Lib.hid (own_srcA (own_below o1 hA))
    have HM := Lib.hid (none_made w)
    have HA := Lib.hid hA
    have hsz : w.heap.size ≤ (w.alloc (.cells #[] 3)).heap.size := hA.size
    clear h h2 h3 e hk h4 o1 o2 hA
    go_enter Try.func41, Try.ntmps41
    go_wp2_with fail
    refine F.out.mono ?_
    rintro e w1 ⟨rfl, rfl⟩
    clear F
    go_wp2_with (refine wpList_wantedR (by rfl) fun K hK => ?_; refine wp_appI (Operand.tmp 11) (Operand.tmp 15) rfl w.heap.size (.slice (some ⟨w.heap.size, 0, none⟩) 0 0) 0 [] rfl HM.out (.slice pa xs.length pc) rfl xs.length _ HS.out (by omega) hsz ?_; intro v' w9 hown9 hg9 hv9; have HO9 := Lib.hid hown9; have HB9 := Lib.hid (HA.out.grown hg9 hsz (fun k hk => Nat.le_of_eq (Option.some.inj hk))); clear hown9 hg9 hv9 HM HS; refine hK _ _ ?_; clear hK K)
    go_ret
    have h9 := HO9.out
    rw [Nat.zero_add, List.nil_append] at h9
    exact ⟨_, rfl, h9, HB9.out⟩
set_option maxHeartbeats 8000000 in
set_option maxRecDepth 100000 in
theorem rnums_r {w : World} {x : Nat} {C : Nat → Nat} {qs : List Nat} {os : List Ob} {m : Nat} (h : Rh w x C qs os m) (a : Int) : Calls Try.prog 42 #[.pointer (some ⟨x, 0, none⟩), .int .i64 a] w (RetI (numsOf os a) w) := by
  have F := Lib.hid (find_r h a)
  have hk := h.oks
  rcases h.at a with ⟨-, h2, h3⟩ | ⟨i, q, o, -, -, -, -, -, h2, h3, h4⟩
  · have e : numsOf os a = [] := by unfold numsOf; rw [h3]
    rw [e]
    rw [h2] at F
    clear h h2 h3 e hk
    go_enter Try.func42, Try.ntmps42
    go_wp2_with fail
    refine F.out.mono ?_
    rintro e w1 ⟨rfl, rfl⟩
    clear F
    go_wp2_with fail
    go_ret
    exact ⟨_, rfl, World.ownsRow_nil _ _ _ _, Below.refl _ _⟩
  · have e : numsOf os a = o.nums := by unfold numsOf; rw [h3]
    rw [e]
    rw [h2] at F
    have hb : o.nums.length ≤ 60 := by
      have h5 := hk o (ob_mem h3)
      have := h5.p
      have := h5.n
      simp [Ob.nums]; omega
    obtain ⟨pa, pc, na, nc, c0, c1, c2, c3, o1, o2⟩ := h4.cells
    have hq : q < w.heap.size := World.block_lt_of_cell? w _ c0
    generalize o.nums = xs at c3 o2 hb
    generalize o.ptrs = ys at c2 o1
    have hA : Below w.heap.size w (w.alloc (.cells #[] 3)) := (Below.refl _ _).alloc (Nat.le_refl _) _
    have HS := Lib.hid (own_srcA (own_below o2 hA))
    have HM := Lib.hid (none_made w)
    have HA := Lib.hid hA
    have hsz : w.heap.size ≤ (w.alloc (.cells #[] 3)).heap.size := hA.size
    clear h h2 h3 e hk h4 o1 o2 hA
    go_enter Try.func42, Try.ntmps42
    go_wp2_with fail
    refine F.out.mono ?_
    rintro e w1 ⟨rfl, rfl⟩
    clear F
    go_wp2_with (refine wpList_wantedR (by rfl) fun K hK => ?_; refine wp_appI (Operand.tmp 11) (Operand.tmp 15) rfl w.heap.size (.slice (some ⟨w.heap.size, 0, none⟩) 0 0) 0 [] rfl HM.out (.slice na xs.length nc) rfl xs.length _ HS.out (by omega) hsz ?_; intro v' w9 hown9 hg9 hv9; have HO9 := Lib.hid hown9; have HB9 := Lib.hid (HA.out.grown hg9 hsz (fun k hk => Nat.le_of_eq (Option.some.inj hk))); clear hown9 hg9 hv9 HM HS; refine hK _ _ ?_; clear hK K)
    go_ret
    have h9 := HO9.out
    rw [Nat.zero_add, List.nil_append] at h9
    exact ⟨_, rfl, h9, HB9.out⟩
def RoInv (os : List Ob) (w : World) (v iv : Value) (wr : World) : Prop :=
  ∃ k : Nat, k ≤ os.length ∧ iv = .int .i64 (k : Int) ∧ wr.ownsRow w.heap.size 3 1 v k (((adrs os).take k).map (Value.int .i64)) ∧ Below w.heap.size w wr
set_option maxHeartbeats 8000000 in
set_option maxRecDepth 100000 in
theorem robjects_r {w : World} {x : Nat} {C : Nat → Nat} {qs : List Nat} {os : List Ob} {m : Nat} (h : Rh w x C qs os m) : Calls Try.prog 32 #[.pointer (some ⟨x, 0, none⟩)] w (RetI (adrs os) w) := by
  have HH := Lib.hid h
  have hx := h.lt
  have hlen := h.len
  have hol := total_len os
  have hm := h.most
  have hrm := h.room
  clear h
  obtain ⟨n, hn⟩ : ∃ n, n = os.length := ⟨_, rfl⟩
  have hn9 : n ≤ 1000000 := by omega
  rw [← hn] at hlen
  have HN := Lib.hid hn
  clear hn hol hm hrm
  have H0 : Hid (RoInv os w (.slice none 0 0) (.int .i64 0) w) := ⟨0, Nat.zero_le _, rfl, World.ownsRow_nil _ _ _ _, Below.refl _ _⟩
  go_enter Try.func32, Try.ntmps32
  go_wp2_with fail
  go_loopw [3, 4] (fun v iv wr => RoInv os w v iv wr) (fun _ iv _ => n - (intOf iv).toNat)
  case atStart => exact H0.out
  case round =>
    clear H0
    obtain ⟨k, hk, rfl, hown, hbel⟩ := hrel
    rw [← HN.out] at hk
    have hsz := hbel.size
    have HO := Lib.hid hown
    have HB := Lib.hid hbel
    have HR := Lib.hid (HH.out.below hbel)
    obtain ⟨ao, cap, -, -, c2, hcap, -, -, hr⟩ := HR.out.cells
    rw [← HN.out] at c2 hcap
    clear hown hbel
    by_cases hkn : k < n
    · have hk9 : k + 1 ≤ 1000000000 := by omega
      have q1 : decide ((k : Int) < (n : Int)) = true := decide_eq_true (by omega)
      have hko : k < os.length := by rw [← HN.out]; exact hkn
      have hkq : k < qs.length := by omega
      obtain ⟨g, rfl, cg⟩ := hr k hkq
      obtain ⟨_, _, _, _, d0, -, -, -, -, -⟩ := (HR.out.obs k hko hkq).cells
      generalize qs[k] = q at cg d0
      obtain ⟨a, ha⟩ : ∃ a, a = adr os k := ⟨_, rfl⟩
      rw [← ha] at d0
      have HST : Hid (∀ v' w9, w9.ownsRow w.heap.size 3 1 v' (k + 1) ((((adrs os).take k).map (Value.int .i64)) ++ [.int .i64 (a : Nat)]) → Below w.heap.size w w9 → RoInv os w v' (.int .i64 ((k : Int) + 1)) w9) := by
        intro v' w9 h1 h2
        refine ⟨k + 1, by rw [← HN.out]; omega, by go_num, ?_, h2⟩
        have hka : k < (adrs os).length := by rw [adrs_len]; exact hko
        rw [ivs_take hka, adrs_get hka, ← ha]
        exact h1
      have HSR := Lib.hid (fun (W : World) => srcA_one (d := .int .i64 (a : Nat)) (T := 3) (alloc_at W (.cells #[.int .i64 (a : Nat)] 3)) rfl 1)
      have hsz2 : w.heap.size ≤ (wr.alloc (.cells #[.int .i64 (a : Nat)] 3)).heap.size := by simp; omega
      have HO2 := Lib.hid (HO.out.alloc (.cells #[.int .i64 (a : Nat)] 3))
      have HB2 := Lib.hid (HB.out.alloc hsz (.cells #[.int .i64 (a : Nat)] 3))
      have HVL : Hid (∀ y, u3.ownBlock = some y → w.heap.size ≤ y) := fun y hy => (HO.out.lt y hy).1
      clear ha hr HO
      go_wp2_with (refine wpList_wantedR (by rfl) fun K hK => ?_; refine wp_appI (Operand.tmp 14) (Operand.tmp 25) rfl w.heap.size u3 k _ rfl HO2.out (.slice (some ⟨wr.heap.size, 0, none⟩) 1 1) rfl 1 _ (HSR.out wr) hk9 hsz2 ?_; intro v' w9 hown9 hg9 hv9; have HB9 := Lib.hid (HB2.out.grown hg9 hsz2 (fun y hy => HVL.out y hy)); have HM := Lib.hid (HST.out v' w9 hown9 HB9.out); clear hown9 hg9 hv9 HST HO2; refine hK _ _ ?_; clear hK K)
      go_roundw
      case rel => exact HM.out
      case measure => simp [intOf]; omega
    · obtain rfl : k = n := by omega
      have q1 : decide ((k : Int) < (k : Int)) = false := decide_eq_false (by omega)
      have HE : Hid (wr.ownsRow w.heap.size 3 1 u3 (adrs os).length ((adrs os).map (Value.int .i64))) := by
        have := HO.out
        rw [List.take_of_length_le (by rw [adrs_len, HN.out]; omega), HN.out, ← adrs_len] at this
        exact this
      clear HO hr
      go_wp2_with fail
      go_ret
      exact ⟨_, rfl, HE.out, HB.out⟩
end Go.Proofs.Ytjecjlnkpbbanaa
