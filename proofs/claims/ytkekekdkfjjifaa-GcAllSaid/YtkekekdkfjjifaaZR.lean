/- The document's heap in memory; the look for an object; Tag, Used, Words. -/
import Derived.Test.YtkekekdkfjjifaaZD
namespace Go.Proofs.Ytkekekdkfjjifaa
open Go Go.RowKit
set_option linter.unusedVariables false
set_option linter.unusedSimpArgs false
def optr (q : Nat) : Value := .pointer (some ⟨q, 0, none⟩)
/-- The object number i lies at q. C: whose each block is. -/
def ObAt (w : World) (C : Nat → Nat) (i q : Nat) (o : Ob) (a : Nat) : Prop :=
  C q = 3 * i + 3 ∧ ∃ pv nv, w.heap[q]? = some (.cells #[.int .i64 a, .int .i64 o.tag, pv, nv] 70 (0, 0)) ∧ w.ownsRow 0 3 1 pv o.ptrs.length (o.ptrs.map (Value.int .i64)) ∧ (∀ k, pv.ownBlock = some k → C k = 3 * i + 4) ∧
    w.ownsRow 0 3 1 nv o.nums.length (o.nums.map (Value.int .i64)) ∧ (∀ k, nv.ownBlock = some k → C k = 3 * i + 5)
/-- The document's heap at x is these objects. -/
structure Rh (w : World) (x : Nat) (C : Nat → Nat) (qs : List Nat) (os : List Ob) (m : Nat) : Prop where
  head : ∃ lv, w.heap[x]? = some (.cells #[.int .i64 m, .int .i64 (total os : Nat), lv] 67 (0, 0)) ∧ w.ownsRow 0 68 1 lv os.length (qs.map optr) ∧ (∀ k, lv.ownBlock = some k → C k = 2)
  cx : C x = 1
  len : qs.length = os.length
  obs : ∀ i (h : i < os.length) (h' : i < qs.length), ObAt w C i qs[i] os[i] (adr os i)
  oks : Oks os
  closed : Closed os
  most : m ≤ 1000000
  room : total os ≤ m
  fresh : ∀ k, w.heap.size ≤ k → C k = 0
theorem ObAt.fr {F : Nat → Prop} {w w' : World} {C : Nat → Nat} {i q : Nat} {o : Ob} {a : Nat} (h : ObAt w C i q o a) (hf : Fr F w w') (hF : ∀ k, F k → C k ≠ 3 * i + 3 ∧ C k ≠ 3 * i + 4 ∧ C k ≠ 3 * i + 5) : ObAt w' C i q o a := by
  obtain ⟨h0, pv, nv, h1, h2, h3, h4, h5⟩ := h
  exact ⟨h0, pv, nv, (hf.block q (Array.getElem?_eq_some_iff.1 h1).1 (fun e => (hF q e).1 h0)).trans h1, own_fr h2 hf (fun k hk e => (hF k e).2.1 (h3 k hk)), h3, own_fr h4 hf (fun k hk e => (hF k e).2.2 (h5 k hk)), h5⟩
theorem Rh.fr {F : Nat → Prop} {w w' : World} {x : Nat} {C : Nat → Nat} {qs : List Nat} {os : List Ob} {m : Nat} (h : Rh w x C qs os m) (hf : Fr F w w') (hF : ∀ k, F k → C k = 0) : Rh w' x C qs os m := by
  refine ⟨?_, h.cx, h.len, fun i hi hi' => (h.obs i hi hi').fr hf (fun k hk => by have := hF k hk; omega), h.oks, h.closed, h.most, h.room, fun k hk => h.fresh k (by have := hf.size; omega)⟩
  obtain ⟨lv, h1, h2, h3⟩ := h.head
  exact ⟨lv, (hf.block x (Array.getElem?_eq_some_iff.1 h1).1 (fun e => by have := hF x e; have := h.cx; omega)).trans h1, own_fr h2 hf (fun k hk e => by have := hF k e; have := h3 k hk; omega), h3⟩
theorem Rh.below {w w' : World} {x : Nat} {C : Nat → Nat} {qs : List Nat} {os : List Ob} {m : Nat} (h : Rh w x C qs os m) (hb : Below w.heap.size w w') : Rh w' x C qs os m := h.fr (F := fun _ => False) (Fr.of_below hb) (fun _ h => h.elim)
theorem Rh.lt {w : World} {x : Nat} {C : Nat → Nat} {qs : List Nat} {os : List Ob} {m : Nat} (h : Rh w x C qs os m) : x < w.heap.size := by
  obtain ⟨lv, h1, _⟩ := h.head
  exact (Array.getElem?_eq_some_iff.1 h1).1
/-- The heap's cells; those of its row. -/
theorem Rh.cells {w : World} {x : Nat} {C : Nat → Nat} {qs : List Nat} {os : List Ob} {m : Nat} (h : Rh w x C qs os m) : ∃ ao cap, w.cell? ⟨x, 0, none⟩ = some (.int .i64 m) ∧ w.cell? ⟨x, 1, none⟩ = some (.int .i64 (total os : Nat)) ∧ w.cell? ⟨x, 2, none⟩ = some (.slice ao os.length cap) ∧ os.length ≤ cap ∧
    w.frozen? ⟨x, 1, none⟩ = false ∧ w.frozen? ⟨x, 2, none⟩ = false ∧
    ∀ i (hi : i < qs.length), ∃ g, ao = some ⟨g, 0, none⟩ ∧ w.cell? ⟨g, i, none⟩ = some (.pointer (some ⟨qs[i], 0, none⟩)) := by
  obtain ⟨lv, h1, h2, h3⟩ := h.head
  have c2 : w.cell? ⟨x, 2, none⟩ = some lv := by rw [cell_of_row _ _ _ _ _ _ h1]; rfl
  have c0 : w.cell? ⟨x, 0, none⟩ = some (.int .i64 m) := by rw [cell_of_row _ _ _ _ _ _ h1]; rfl
  have c1 : w.cell? ⟨x, 1, none⟩ = some (.int .i64 (total os : Nat)) := by rw [cell_of_row _ _ _ _ _ _ h1]; rfl
  have f1 := frozen_of_row w x 1 _ _ h1
  have f2 := frozen_of_row w x 2 _ _ h1
  rcases h2.2 with ⟨rfl, hz⟩ | ⟨g, cap, cur, rfl, _, hh, hn, hcm, hcs, ht⟩
  · refine ⟨none, 0, c0, c1, by rw [hz]; exact c2, by omega, f1, f2, fun i hi => by have := h.len; omega⟩
  · refine ⟨_, cap, c0, c1, c2, hn, f1, f2, fun i hi => ⟨g, rfl, ?_⟩⟩
    rw [cell_of_row _ _ _ _ _ _ hh, ← Array.getElem?_toList]
    have h4 : (cur.toList.take (os.length * 1))[i]? = some (optr qs[i]) := by rw [ht, List.getElem?_map, List.getElem?_eq_getElem hi]; rfl
    rw [List.getElem?_take] at h4
    split at h4
    · exact h4
    · cases h4
/-- An object's cells. -/
theorem ObAt.cells {w : World} {C : Nat → Nat} {i q : Nat} {o : Ob} {a : Nat} (h : ObAt w C i q o a) : ∃ pa pc na nc, w.cell? ⟨q, 0, none⟩ = some (.int .i64 a) ∧ w.cell? ⟨q, 1, none⟩ = some (.int .i64 o.tag) ∧ w.cell? ⟨q, 2, none⟩ = some (.slice pa o.ptrs.length pc) ∧ w.cell? ⟨q, 3, none⟩ = some (.slice na o.nums.length nc) ∧
    w.ownsRow 0 3 1 (.slice pa o.ptrs.length pc) o.ptrs.length (o.ptrs.map (Value.int .i64)) ∧ w.ownsRow 0 3 1 (.slice na o.nums.length nc) o.nums.length (o.nums.map (Value.int .i64)) := by
  obtain ⟨h0, pv, nv, h1, h2, h3, h4, h5⟩ := h
  obtain ⟨pa, pc, rfl⟩ := own_sform h2
  obtain ⟨na, nc, rfl⟩ := own_sform h4
  exact ⟨pa, pc, na, nc, by rw [cell_of_row _ _ _ _ _ _ h1]; rfl, by rw [cell_of_row _ _ _ _ _ _ h1]; rfl, by rw [cell_of_row _ _ _ _ _ _ h1]; rfl, by rw [cell_of_row _ _ _ _ _ _ h1]; rfl, h2, h4⟩
theorem adr_inj {os : List Ob} {i j : Nat} (hi : i < os.length) (hj : j < os.length) (h : adr os i = adr os j) : i = j := by
  rcases Nat.lt_trichotomy i j with h1 | h1 | h1
  · have := adr_lt h1 (Nat.le_of_lt hj); omega
  · exact h1
  · have := adr_lt h1 (Nat.le_of_lt hi); omega
/-- What the look answers. -/
def fptr (qs : List Nat) (os : List Ob) (a : Int) : Value := match loc os a with | some i => .pointer ((qs[i]?).map fun q => ⟨q, 0, none⟩) | none => .pointer none
def FdInv (os : List Ob) (a : Int) (iv : Value) : Prop := ∃ j : Nat, j ≤ os.length ∧ iv = .int .i64 (j : Int) ∧ ∀ i, i < j → (adr os i : Int) ≠ a
set_option maxHeartbeats 8000000 in
set_option maxRecDepth 100000 in
theorem find_r {w : World} {x : Nat} {C : Nat → Nat} {qs : List Nat} {os : List Ob} {m : Nat} (h : Rh w x C qs os m) (a : Int) : Calls Try.prog 67 #[.pointer (some ⟨x, 0, none⟩), .int .i64 a] w fun e w' => e = .returned (fptr qs os a) ∧ w = w' := by
  obtain ⟨ao, cap, -, -, c2, hcap, -, -, hr⟩ := h.cells
  have HH := Lib.hid h
  have hlen := h.len
  have hol := total_len os
  have hm := h.most
  have hrm := h.room
  clear h
  obtain ⟨n, hn⟩ : ∃ n, n = os.length := ⟨_, rfl⟩
  rw [← hn] at c2 hcap hlen hol
  have HN := Lib.hid hn
  clear hn
  have H0 : Hid (FdInv os a (.int .i64 0)) := ⟨0, Nat.zero_le _, rfl, fun i hi => by omega⟩
  go_enter Try.func67, Try.ntmps67
  go_wp2_with fail
  go_loop [5] (fun iv => FdInv os a iv) (fun iv => n - (intOf iv).toNat)
  case atStart => exact H0.out
  case round =>
    clear H0
    obtain ⟨j, hj, rfl, hne⟩ := hrel
    rw [← HN.out] at hj
    have HNE := Lib.hid hne
    clear hne
    by_cases hjn : j < n
    · have q1 : decide ((j : Int) < (n : Int)) = true := decide_eq_true (by omega)
      have hjo : j < os.length := by rw [← HN.out]; exact hjn
      have hjq : j < qs.length := by omega
      obtain ⟨g, rfl, cg⟩ := hr j hjq
      obtain ⟨_, _, _, _, d0, -, -, -, -, -⟩ := (HH.out.obs j hjo hjq).cells
      have HQ : Hid (qs[j]? = some qs[j]) := List.getElem?_eq_getElem hjq
      generalize qs[j] = q at cg d0 HQ
      obtain ⟨aj, haj⟩ : ∃ aj, aj = adr os j := ⟨_, rfl⟩
      rw [← haj] at d0
      by_cases hit : (aj : Int) = a
      · have q2 : ((aj : Int) == a) = true := by simpa using hit
        have HR : Hid (fptr qs os a = .pointer (some ⟨q, 0, none⟩)) := by
          show _ = _
          unfold fptr
          rw [loc_iff.2 ⟨hjo, by rw [← hit, haj]⟩]
          simp only [HQ.out]; rfl
        clear hit haj hr
        go_wp2_with fail
        go_ret
        exact ⟨by rw [HR.out]; rfl, rfl⟩
      · have q2 : ((aj : Int) == a) = false := by simpa using hit
        have HREL : Hid (FdInv os a (.int .i64 ((j : Int) + 1))) := ⟨j + 1, by omega, by go_num, fun i hi => by
          by_cases e : i = j
          · rw [e, ← haj]; exact hit
          · exact HNE.out i (by omega)⟩
        clear hit haj hr
        go_wp2_with fail
        go_round
        case rel => exact HREL.out
        case measure => simp [intOf]; omega
    · obtain rfl : j = n := by omega
      have q1 : decide ((j : Int) < (j : Int)) = false := decide_eq_false (by omega)
      have HR : Hid (fptr qs os a = .pointer none) := by
        show _ = _
        unfold fptr
        cases h1 : loc os a with
        | none => rfl
        | some i =>
          obtain ⟨h2, h3⟩ := loc_some h1
          exact absurd h3.symm (HNE.out i (by rw [HN.out]; exact h2))
      clear hr
      go_wp2_with fail
      go_ret
      exact ⟨by rw [HR.out]; rfl, rfl⟩
theorem rused_r {w : World} {x : Nat} {C : Nat → Nat} {qs : List Nat} {os : List Ob} {m : Nat} (h : Rh w x C qs os m) : Calls Try.prog 40 #[.pointer (some ⟨x, 0, none⟩)] w fun e w' => e = .returned (.int .i64 (total os : Nat)) ∧ w = w' := by
  obtain ⟨ao, cap, c0, c1, c2, -⟩ := h.cells
  clear h
  go_enter Try.func40, Try.ntmps40
  go_wp2
  go_ret
  exact ⟨rfl, rfl⟩
theorem rwords_r {w : World} {x : Nat} {C : Nat → Nat} {qs : List Nat} {os : List Ob} {m : Nat} (h : Rh w x C qs os m) : Calls Try.prog 38 #[.pointer (some ⟨x, 0, none⟩)] w fun e w' => e = .returned (.int .i64 m) ∧ w = w' := by
  obtain ⟨ao, cap, c0, c1, c2, -⟩ := h.cells
  clear h
  go_enter Try.func38, Try.ntmps38
  go_wp2
  go_ret
  exact ⟨rfl, rfl⟩
/-- What is at an address, in memory. -/
theorem Rh.at {w : World} {x : Nat} {C : Nat → Nat} {qs : List Nat} {os : List Ob} {m : Nat} (h : Rh w x C qs os m) (a : Int) : (loc os a = none ∧ fptr qs os a = .pointer none ∧ ob os a = none) ∨
    ∃ i q o, loc os a = some i ∧ i < os.length ∧ os[i]? = some o ∧ qs[i]? = some q ∧ a = adr os i ∧ fptr qs os a = .pointer (some ⟨q, 0, none⟩) ∧ ob os a = some o ∧ ObAt w C i q o (adr os i) := by
  cases h1 : loc os a with
  | none => exact .inl ⟨rfl, by unfold fptr; rw [h1], ob_none.2 h1⟩
  | some i =>
    obtain ⟨h2, h3⟩ := loc_some h1
    have h4 : i < qs.length := by rw [h.len]; exact h2
    exact .inr ⟨i, qs[i], os[i], rfl, h2, List.getElem?_eq_getElem h2, List.getElem?_eq_getElem h4, h3, by unfold fptr; rw [h1]; simp only [List.getElem?_eq_getElem h4]; rfl, ob_loc h1, h.obs i h2 h4⟩
theorem rtag_r {w : World} {x : Nat} {C : Nat → Nat} {qs : List Nat} {os : List Ob} {m : Nat} (h : Rh w x C qs os m) (a : Int) : Calls Try.prog 37 #[.pointer (some ⟨x, 0, none⟩), .int .i64 a] w (RetV (.int .i64 ((hdo os a).t : Nat)) w) := by
  have F := Lib.hid (find_r h a)
  rcases h.at a with ⟨-, h2, h3⟩ | ⟨i, q, o, -, -, -, -, -, h2, h3, h4⟩
  · have e : (hdo os a).t = 0 := by unfold hdo; rw [h3]
    rw [e]
    rw [h2] at F
    clear h h2 h3 e
    go_enter Try.func37, Try.ntmps37
    go_wp2_with fail
    refine F.out.mono ?_
    rintro e w1 ⟨rfl, rfl⟩
    clear F
    go_wp2_with fail
    go_ret
    exact ⟨rfl, Below.refl _ _⟩
  · have e : (hdo os a).t = o.tag := by unfold hdo; rw [h3]; rfl
    rw [e]
    rw [h2] at F
    obtain ⟨pa, pc, na, nc, -, c1, -⟩ := h4.cells
    clear h h2 h3 e h4
    go_enter Try.func37, Try.ntmps37
    go_wp2_with fail
    refine F.out.mono ?_
    rintro e w1 ⟨rfl, rfl⟩
    clear F
    go_wp2_with fail
    go_ret
    exact ⟨rfl, Below.refl _ _⟩
end Go.Proofs.Ytkekekdkfjjifaa
namespace Go.Proofs.Ytkekekdkfjjifaa
open Go Go.RowKit
set_option linter.unusedVariables false
set_option linter.unusedSimpArgs false
theorem own_srcA {w : World} {B : Nat} {v : Value} {n : Nat} {xs : List Int} (h : w.ownsRow B 3 1 v n (xs.map (Value.int .i64))) : SrcA w 1 v n (xs.map (Value.int .i64)) := by
  rcases h.2 with ⟨rfl, h0⟩ | ⟨g, cap, cur, rfl, hb, hh, hn, hm, hs, ht⟩
  · subst h0
    have := h.1
    refine .inl ⟨0, rfl, rfl, List.eq_nil_of_length_eq_zero (by simpa using this)⟩
  · exact .inr ⟨_, cap, rfl, h.1, h.cells (g := g) rfl, fun u hu => by
      obtain ⟨x, _, rfl⟩ := List.mem_map.1 hu
      rfl⟩
theorem none_made (w : World) : (w.alloc (.cells #[] 3)).ownsRow w.heap.size 3 1 (.slice (some ⟨w.heap.size, 0, none⟩) 0 0) 0 [] :=
  ⟨rfl, .inr ⟨_, 0, #[], rfl, Nat.le_refl _, alloc_at w _, Nat.le_refl _, Nat.zero_le _, rfl, rfl⟩⟩
set_option maxHeartbeats 8000000 in
set_option maxRecDepth 100000 in
theorem rptrs_r {w : World} {x : Nat} {C : Nat → Nat} {qs : List Nat} {os : List Ob} {m : Nat} (h : Rh w x C qs os m) (a : Int) : Calls Try.prog 41 #[.pointer (some ⟨x, 0, none⟩), .int .i64 a] w (RetI (ptrsOf os a) w) := by
  have F := Lib.hid (find_r h a)
  have hk := h.oks
  rcases h.at a with ⟨-, h2, h3⟩ | ⟨i, q, o, -, -, -, -, -, h2, h3, h4⟩
  · have e : ptrsOf os a = [] := by unfold ptrsOf; rw [h3]
    rw [e]
    rw [h2] at F
    clear h h2 h3 e hk
    go_enter Try.func41, Try.ntmps41
    go_wp2_with fail
    refine F.out.mono ?_
    rintro e w1 ⟨rfl, rfl⟩
    clear F
    go_wp2_with fail
    go_ret
    exact ⟨_, rfl, World.ownsRow_nil _ _ _ _, Below.refl _ _⟩
  · have e : ptrsOf os a = o.ptrs := by unfold ptrsOf; rw [h3]
    rw [e]
    rw [h2] at F
    have hb : o.ptrs.length ≤ 60 := by
      have h5 := hk o (ob_mem h3)
      have := h5.p
      have := h5.n
      simp [Ob.ptrs]; omega
    obtain ⟨pa, pc, na, nc, c0, c1, c2, c3, o1, o2⟩ := h4.cells
    have hq : q < w.heap.size := World.block_lt_of_cell? w _ c0
    generalize o.ptrs = xs at c2 o1 hb
    generalize o.nums = ys at c3 o2
    have hA : Below w.heap.size w (w.alloc (.cells #[] 3)) := (Below.refl _ _).alloc (Nat.le_refl _) _
    have HS := Lib.hid (own_srcA (own_below o1 hA))
    have HM := Lib.hid (none_made w)
    have HA := Lib.hid hA
    have hsz : w.heap.size ≤ (w.alloc (.cells #[] 3)).heap.size := hA.size
    clear h h2 h3 e hk h4 o1 o2 hA
    go_enter Try.func41, Try.ntmps41
    go_wp2_with fail
    refine F.out.mono ?_
    rintro e w1 ⟨rfl, rfl⟩
    clear F
    go_wp2_with (refine wpList_wantedR (by rfl) fun K hK => ?_; refine wp_appI (Operand.tmp 11) (Operand.tmp 15) rfl w.heap.size (.slice (some ⟨w.heap.size, 0, none⟩) 0 0) 0 [] rfl HM.out (.slice pa xs.length pc) rfl xs.length _ HS.out (by omega) hsz ?_; intro v' w9 hown9 hg9 hv9; have HO9 := Lib.hid hown9; have HB9 := Lib.hid (HA.out.grown hg9 hsz (fun k hk => Nat.le_of_eq (Option.some.inj hk))); clear hown9 hg9 hv9 HM HS; refine hK _ _ ?_; clear hK K)
    go_ret
    have h9 := HO9.out
    rw [Nat.zero_add, List.nil_append] at h9
    exact ⟨_, rfl, h9, HB9.out⟩
set_option maxHeartbeats 8000000 in
set_option maxRecDepth 100000 in
theorem rnums_r {w : World} {x : Nat} {C : Nat → Nat} {qs : List Nat} {os : List Ob} {m : Nat} (h : Rh w x C qs os m) (a : Int) : Calls Try.prog 42 #[.pointer (some ⟨x, 0, none⟩), .int .i64 a] w (RetI (numsOf os a) w) := by
  have F := Lib.hid (find_r h a)
  have hk := h.oks
  rcases h.at a with ⟨-, h2, h3⟩ | ⟨i, q, o, -, -, -, -, -, h2, h3, h4⟩
  · have e : numsOf os a = [] := by unfold numsOf; rw [h3]
    rw [e]
    rw [h2] at F
    clear h h2 h3 e hk
    go_enter Try.func42, Try.ntmps42
    go_wp2_with fail
    refine F.out.mono ?_
    rintro e w1 ⟨rfl, rfl⟩
    clear F
    go_wp2_with fail
    go_ret
    exact ⟨_, rfl, World.ownsRow_nil _ _ _ _, Below.refl _ _⟩
  · have e : numsOf os a = o.nums := by unfold numsOf; rw [h3]
    rw [e]
    rw [h2] at F
    have hb : o.nums.length ≤ 60 := by
      have h5 := hk o (ob_mem h3)
      have := h5.p
      have := h5.n
      simp [Ob.nums]; omega
    obtain ⟨pa, pc, na, nc, c0, c1, c2, c3, o1, o2⟩ := h4.cells
    have hq : q < w.heap.size := World.block_lt_of_cell? w _ c0
    generalize o.nums = xs at c3 o2 hb
    generalize o.ptrs = ys at c2 o1
    have hA : Below w.heap.size w (w.alloc (.cells #[] 3)) := (Below.refl _ _).alloc (Nat.le_refl _) _
    have HS := Lib.hid (own_srcA (own_below o2 hA))
    have HM := Lib.hid (none_made w)
    have HA := Lib.hid hA
    have hsz : w.heap.size ≤ (w.alloc (.cells #[] 3)).heap.size := hA.size
    clear h h2 h3 e hk h4 o1 o2 hA
    go_enter Try.func42, Try.ntmps42
    go_wp2_with fail
    refine F.out.mono ?_
    rintro e w1 ⟨rfl, rfl⟩
    clear F
    go_wp2_with (refine wpList_wantedR (by rfl) fun K hK => ?_; refine wp_appI (Operand.tmp 11) (Operand.tmp 15) rfl w.heap.size (.slice (some ⟨w.heap.size, 0, none⟩) 0 0) 0 [] rfl HM.out (.slice na xs.length nc) rfl xs.length _ HS.out (by omega) hsz ?_; intro v' w9 hown9 hg9 hv9; have HO9 := Lib.hid hown9; have HB9 := Lib.hid (HA.out.grown hg9 hsz (fun k hk => Nat.le_of_eq (Option.some.inj hk))); clear hown9 hg9 hv9 HM HS; refine hK _ _ ?_; clear hK K)
    go_ret
    have h9 := HO9.out
    rw [Nat.zero_add, List.nil_append] at h9
    exact ⟨_, rfl, h9, HB9.out⟩
def RoInv (os : List Ob) (w : World) (v iv : Value) (wr : World) : Prop :=
  ∃ k : Nat, k ≤ os.length ∧ iv = .int .i64 (k : Int) ∧ wr.ownsRow w.heap.size 3 1 v k (((adrs os).take k).map (Value.int .i64)) ∧ Below w.heap.size w wr
set_option maxHeartbeats 8000000 in
set_option maxRecDepth 100000 in
theorem robjects_r {w : World} {x : Nat} {C : Nat → Nat} {qs : List Nat} {os : List Ob} {m : Nat} (h : Rh w x C qs os m) : Calls Try.prog 32 #[.pointer (some ⟨x, 0, none⟩)] w (RetI (adrs os) w) := by
  have HH := Lib.hid h
  have hx := h.lt
  have hlen := h.len
  have hol := total_len os
  have hm := h.most
  have hrm := h.room
  clear h
  obtain ⟨n, hn⟩ : ∃ n, n = os.length := ⟨_, rfl⟩
  have hn9 : n ≤ 1000000 := by omega
  rw [← hn] at hlen
  have HN := Lib.hid hn
  clear hn hol hm hrm
  have H0 : Hid (RoInv os w (.slice none 0 0) (.int .i64 0) w) := ⟨0, Nat.zero_le _, rfl, World.ownsRow_nil _ _ _ _, Below.refl _ _⟩
  go_enter Try.func32, Try.ntmps32
  go_wp2_with fail
  go_loopw [3, 4] (fun v iv wr => RoInv os w v iv wr) (fun _ iv _ => n - (intOf iv).toNat)
  case atStart => exact H0.out
  case round =>
    clear H0
    obtain ⟨k, hk, rfl, hown, hbel⟩ := hrel
    rw [← HN.out] at hk
    have hsz := hbel.size
    have HO := Lib.hid hown
    have HB := Lib.hid hbel
    have HR := Lib.hid (HH.out.below hbel)
    obtain ⟨ao, cap, -, -, c2, hcap, -, -, hr⟩ := HR.out.cells
    rw [← HN.out] at c2 hcap
    clear hown hbel
    by_cases hkn : k < n
    · have hk9 : k + 1 ≤ 1000000000 := by omega
      have q1 : decide ((k : Int) < (n : Int)) = true := decide_eq_true (by omega)
      have hko : k < os.length := by rw [← HN.out]; exact hkn
      have hkq : k < qs.length := by omega
      obtain ⟨g, rfl, cg⟩ := hr k hkq
      obtain ⟨_, _, _, _, d0, -, -, -, -, -⟩ := (HR.out.obs k hko hkq).cells
      generalize qs[k] = q at cg d0
      obtain ⟨a, ha⟩ : ∃ a, a = adr os k := ⟨_, rfl⟩
      rw [← ha] at d0
      have HST : Hid (∀ v' w9, w9.ownsRow w.heap.size 3 1 v' (k + 1) ((((adrs os).take k).map (Value.int .i64)) ++ [.int .i64 (a : Nat)]) → Below w.heap.size w w9 → RoInv os w v' (.int .i64 ((k : Int) + 1)) w9) := by
        intro v' w9 h1 h2
        refine ⟨k + 1, by rw [← HN.out]; omega, by go_num, ?_, h2⟩
        have hka : k < (adrs os).length := by rw [adrs_len]; exact hko
        rw [ivs_take hka, adrs_get hka, ← ha]
        exact h1
      have HSR := Lib.hid (fun (W : World) => srcA_one (d := .int .i64 (a : Nat)) (T := 3) (alloc_at W (.cells #[.int .i64 (a : Nat)] 3)) rfl 1)
      have hsz2 : w.heap.size ≤ (wr.alloc (.cells #[.int .i64 (a : Nat)] 3)).heap.size := by simp; omega
      have HO2 := Lib.hid (HO.out.alloc (.cells #[.int .i64 (a : Nat)] 3))
      have HB2 := Lib.hid (HB.out.alloc hsz (.cells #[.int .i64 (a : Nat)] 3))
      have HVL : Hid (∀ y, u3.ownBlock = some y → w.heap.size ≤ y) := fun y hy => (HO.out.lt y hy).1
      clear ha hr HO
      go_wp2_with (refine wpList_wantedR (by rfl) fun K hK => ?_; refine wp_appI (Operand.tmp 14) (Operand.tmp 25) rfl w.heap.size u3 k _ rfl HO2.out (.slice (some ⟨wr.heap.size, 0, none⟩) 1 1) rfl 1 _ (HSR.out wr) hk9 hsz2 ?_; intro v' w9 hown9 hg9 hv9; have HB9 := Lib.hid (HB2.out.grown hg9 hsz2 (fun y hy => HVL.out y hy)); have HM := Lib.hid (HST.out v' w9 hown9 HB9.out); clear hown9 hg9 hv9 HST HO2; refine hK _ _ ?_; clear hK K)
      go_roundw
      case rel => exact HM.out
      case measure => simp [intOf]; omega
    · obtain rfl : k = n := by omega
      have q1 : decide ((k : Int) < (k : Int)) = false := decide_eq_false (by omega)
      have HE : Hid (wr.ownsRow w.heap.size 3 1 u3 (adrs os).length ((adrs os).map (Value.int .i64))) := by
        have := HO.out
        rw [List.take_of_length_le (by rw [adrs_len, HN.out]; omega), HN.out, ← adrs_len] at this
        exact this
      clear HO hr
      go_wp2_with fail
      go_ret
      exact ⟨_, rfl, HE.out, HB.out⟩
end Go.Proofs.Ytkekekdkfjjifaa
namespace Go.Proofs.Ytkekekdkfjjifaa
open Go Go.RowKit
set_option linter.unusedVariables false
set_option linter.unusedSimpArgs false
set_option maxHeartbeats 8000000 in
set_option maxRecDepth 100000 in
theorem shape_any (t : Int) (ps ns : List Int) (pv nv : Value) (w : World) (hp : IsS w pv ps) (hn : IsS w nv ns) (hpl : ps.length ≤ 1000000) (hnl : ns.length ≤ 1000000) :
    Calls Try.prog 72 #[.int .i64 t, pv, nv] w fun e w' => e = .returned (.bool (fitF t ps ns)) ∧ w = w' := by
  obtain ⟨pa, pc, rfl, hpc, _⟩ := hp
  obtain ⟨na, nc, rfl, hnc, hnr⟩ := hn
  obtain ⟨p, hpd⟩ : ∃ p, p = ps.length := ⟨_, rfl⟩
  obtain ⟨n, hnd⟩ : ∃ n, n = ns.length := ⟨_, rfl⟩
  have HF : Hid (fitF t ps ns = (decide (p ≤ 60) && decide (n ≤ 60) && (if t = 2 then decide (p = 2) && decide (n = 0)
     else if t = 5 then decide (p = 1) && decide (n = 0)
     else if t = 6 then decide (p = 1) && decide (n = 1) && (decide (ns.headD 9 = 0) || decide (ns.headD 9 = 1))
     else decide (1 ≤ t) && decide (t ≤ 7)))) := by subst hpd hnd; rfl
  by_cases h3 : t = 2
  · subst h3
    have HG : Hid (fitF 2 ps ns = (decide (p = 2) && decide (n = 0))) := by
      show _ = _
      rw [HF.out]
      by_cases a1 : p = 2
      · by_cases a2 : n = 0
        · subst a1 a2; rfl
        · have e : decide (n = 0) = false := decide_eq_false a2
          simp [e]
      · have e : decide (p = 2) = false := decide_eq_false a1
        simp [e]
    rw [HG.out, ← hpd, ← hnd]
    clear HF HG hnr hpd hnd
    by_cases hp2 : p = 2
    · subst hp2
      by_cases hn0 : n = 0
      · subst hn0
        go_enter Try.func72, Try.ntmps72
        go_wp2
        go_ret
        exact ⟨rfl, rfl⟩
      · have q3 : ((n : Int) == 0) = false := by simp; omega
        have e : decide (n = 0) = false := by simp; omega
        rw [e]
        go_enter Try.func72, Try.ntmps72
        go_wp2
        go_ret
        exact ⟨rfl, rfl⟩
    · have q3 : ((p : Int) == 2) = false := by simp; omega
      have e : decide (p = 2) = false := by simp; omega
      rw [e]
      go_enter Try.func72, Try.ntmps72
      go_wp2
      go_ret
      exact ⟨rfl, rfl⟩
  have z2 : (t == 2) = false := by simpa using h3
  by_cases h4 : t = 5
  · subst h4
    have HG : Hid (fitF 5 ps ns = (decide (p = 1) && decide (n = 0))) := by
      show _ = _
      rw [HF.out]
      by_cases a1 : p = 1
      · by_cases a2 : n = 0
        · subst a1 a2; rfl
        · have e : decide (n = 0) = false := decide_eq_false a2
          simp [e]
      · have e : decide (p = 1) = false := decide_eq_false a1
        simp [e]
    rw [HG.out, ← hpd, ← hnd]
    clear HF HG hnr hpd hnd
    by_cases hp2 : p = 1
    · subst hp2
      by_cases hn0 : n = 0
      · subst hn0
        go_enter Try.func72, Try.ntmps72
        go_wp2
        go_ret
        exact ⟨rfl, rfl⟩
      · have q3 : ((n : Int) == 0) = false := by simp; omega
        have e : decide (n = 0) = false := by simp; omega
        rw [e]
        go_enter Try.func72, Try.ntmps72
        go_wp2
        go_ret
        exact ⟨rfl, rfl⟩
    · have q3 : ((p : Int) == 1) = false := by simp; omega
      have e : decide (p = 1) = false := by simp; omega
      rw [e]
      go_enter Try.func72, Try.ntmps72
      go_wp2
      go_ret
      exact ⟨rfl, rfl⟩
  have z5 : (t == 5) = false := by simpa using h4
  by_cases h5 : t = 6
  · subst h5
    have HG : Hid (fitF 6 ps ns = (decide (p = 1) && decide (n = 1) && (decide (ns.headD 9 = 0) || decide (ns.headD 9 = 1)))) := by
      show _ = _
      rw [HF.out]
      by_cases a1 : p = 1
      · by_cases a2 : n = 1
        · rw [a1, a2]; rfl
        · have e : decide (n = 1) = false := decide_eq_false a2
          simp [e]
      · have e : decide (p = 1) = false := decide_eq_false a1
        simp [e]
    rw [HG.out]
    by_cases hp2 : p = 1
    · by_cases hn0 : n = 1
      · rcases hnr with ⟨_, e⟩ | ⟨g, o, rfl, hc⟩
        · rw [e] at hnd; simp at hnd; omega
        · have c0 := hc 0 (by omega)
          obtain ⟨x, hx⟩ : ∃ x, x = ns[0]'(by omega) := ⟨_, rfl⟩
          have hh : ns.headD 9 = x := by
            rw [hx]
            cases ns with
            | nil => simp at hnd; omega
            | cons y l => rfl
          rw [← hx, Nat.add_zero] at c0
          rw [hh, ← hpd, ← hnd]
          subst hp2 hn0
          clear HF HG hc hpd hnd hx hh
          by_cases hx0 : x = 0
          · subst hx0
            go_enter Try.func72, Try.ntmps72
            go_wp2
            go_ret
            exact ⟨rfl, rfl⟩
          · have q3 : (x == 0) = false := by simpa using hx0
            by_cases hx1 : x = 1
            · subst hx1
              go_enter Try.func72, Try.ntmps72
              go_wp2
              go_ret
              exact ⟨rfl, rfl⟩
            · have q4 : (x == 1) = false := by simpa using hx1
              have e : decide (x = 0) = false := by simpa using hx0
              have e2 : decide (x = 1) = false := by simpa using hx1
              rw [e, e2]
              go_enter Try.func72, Try.ntmps72
              go_wp2
              go_ret
              exact ⟨rfl, rfl⟩
      · have q3 : ((n : Int) == 1) = false := by simp; omega
        have e : decide (n = 1) = false := by simp; omega
        rw [e, ← hpd, ← hnd]
        subst hp2
        clear HF HG hnr hpd hnd
        go_enter Try.func72, Try.ntmps72
        go_wp2
        go_ret
        exact ⟨rfl, rfl⟩
    · have q3 : ((p : Int) == 1) = false := by simp; omega
      have e : decide (p = 1) = false := by simp; omega
      rw [e, ← hpd, ← hnd]
      clear HF HG hnr hpd hnd
      go_enter Try.func72, Try.ntmps72
      go_wp2
      go_ret
      exact ⟨by simp, rfl⟩
  have z6 : (t == 6) = false := by simpa using h5
  have HG : Hid (fitF t ps ns = (decide (1 ≤ t) && decide (t ≤ 7) && decide (p ≤ 60) && decide (n ≤ 60))) := by
    show _ = _
    rw [HF.out, if_neg h3, if_neg h4, if_neg h5]
    cases decide (1 ≤ t) <;> cases decide (t ≤ 7) <;> cases decide (p ≤ 60) <;> cases decide (n ≤ 60) <;> rfl
  rw [HG.out, ← hpd, ← hnd]
  clear HF HG hnr hpd hnd h3 h4 h5
  by_cases h6 : 1 ≤ t
  · have e1 : decide (1 ≤ t) = true := decide_eq_true h6
    by_cases h7 : t ≤ 7
    · have e2 : decide (t ≤ 7) = true := decide_eq_true h7
      by_cases h8 : p ≤ 60
      · have e3 : decide (p ≤ 60) = true := decide_eq_true h8
        have e3' : decide ((p : Int) ≤ 60) = true := decide_eq_true (by omega)
        by_cases h9 : n ≤ 60
        · have e4 : decide (n ≤ 60) = true := decide_eq_true h9
          have e4' : decide ((n : Int) ≤ 60) = true := decide_eq_true (by omega)
          rw [e1, e2, e3, e4]
          go_enter Try.func72, Try.ntmps72
          go_wp2
          go_ret
          exact ⟨rfl, rfl⟩
        · have e4 : decide (n ≤ 60) = false := decide_eq_false h9
          have e4' : decide ((n : Int) ≤ 60) = false := decide_eq_false (by omega)
          rw [e1, e2, e3, e4]
          go_enter Try.func72, Try.ntmps72
          go_wp2
          go_ret
          exact ⟨rfl, rfl⟩
      · have e3 : decide (p ≤ 60) = false := decide_eq_false h8
        have e3' : decide ((p : Int) ≤ 60) = false := decide_eq_false (by omega)
        rw [e1, e2, e3]
        go_enter Try.func72, Try.ntmps72
        go_wp2
        go_ret
        exact ⟨rfl, rfl⟩
    · have e2 : decide (t ≤ 7) = false := decide_eq_false h7
      rw [e1, e2]
      go_enter Try.func72, Try.ntmps72
      go_wp2
      go_ret
      exact ⟨rfl, rfl⟩
  · have e1 : decide (1 ≤ t) = false := decide_eq_false h6
    rw [e1]
    go_enter Try.func72, Try.ntmps72
    go_wp2
    go_ret
    exact ⟨rfl, rfl⟩
/-- What a call that turns the document's heap leaves. -/
def RetR (v : Value) (x : Nat) (C : Nat → Nat) (os' : List Ob) (m : Nat) (w : World) (e : Ending) (w' : World) : Prop :=
  e = .returned v ∧ ∃ C' qs', Rh w' x C' qs' os' m ∧ Fr (fun k => C k ≠ 0) w w' ∧ (∀ k, C' k ≠ 0 → C k ≠ 0 ∨ w.heap.size ≤ k)
end Go.Proofs.Ytkekekdkfjjifaa
namespace Go.Proofs.Ytkekekdkfjjifaa
open Go Go.RowKit
set_option linter.unusedVariables false
set_option linter.unusedSimpArgs false
/-- One object turned. -/
theorem Rh.put {w w' : World} {x : Nat} {C C' : Nat → Nat} {qs : List Nat} {os : List Ob} {m : Nat} (h : Rh w x C qs os m) {i q : Nat} (hi : i < os.length) (hq : qs[i]? = some q) {o : Ob} (e : o.body.length = os[i].body.length) (ho : o.Ok) (hp : ∀ p ∈ o.ptrs, p ∈ os[i].ptrs ∨ (ob os p).isSome = true)
    {F : Nat → Prop} (hf : Fr F w w') (hF : ∀ k, F k → C k = 3 * i + 3 ∨ C k = 3 * i + 4) (hC : ∀ k, k < w.heap.size → C' k = C k) (hC2 : ∀ k, w'.heap.size ≤ k → C' k = 0) (hob : ObAt w' C' i q o (adr os i)) : Rh w' x C' qs (os.set i o) m := by
  have keepC : ∀ {v : Value} {n : Nat} {xs : List Value} {e : TypeId}, w.ownsRow 0 e 1 v n xs → ∀ k, v.ownBlock = some k → C' k = C k := fun h k hk => hC k (h.lt k hk).2
  refine ⟨?_, by rw [hC x h.lt]; exact h.cx, by rw [List.length_set]; exact h.len, ?_, oks_set h.oks ho, closed_set h.closed hi e hp, h.most, by rw [total_set hi e]; exact h.room, hC2⟩
  · obtain ⟨lv, h1, h2, h3⟩ := h.head
    refine ⟨lv, ?_, ?_, fun k hk => by rw [keepC h2 k hk]; exact h3 k hk⟩
    · rw [total_set hi e]
      exact (hf.block x h.lt (fun e => by have := hF x e; have := h.cx; omega)).trans h1
    · rw [List.length_set]
      exact own_fr h2 hf (fun k hk e => by have := hF k e; have := h3 k hk; omega)
  · intro j hj hj'
    rw [List.length_set] at hj
    rw [adr_set hi e j hj]
    by_cases hij : i = j
    · subst hij
      rw [List.getElem_set_self]
      have : qs[i] = q := by rw [List.getElem?_eq_getElem hj'] at hq; injection hq
      rw [this]
      exact hob
    · rw [List.getElem_set_ne hij]
      have h9 := (h.obs j hj hj').fr hf (fun k hk => by have := hF k hk; omega)
      obtain ⟨_, pv0, nv0, g1, g2, g3, g4, g5⟩ := h.obs j hj hj'
      obtain ⟨f0, pv, nv, f1, f2, f3, f4, f5⟩ := h9
      have hlt := (Array.getElem?_eq_some_iff.1 g1).1
      have e1 : w'.heap[qs[j]]? = w.heap[qs[j]]? := hf.block _ hlt (fun e => by have := hF _ e; omega)
      rw [e1, g1] at f1
      injection f1 with f1
      injection f1 with f1
      simp at f1
      obtain ⟨rfl, rfl⟩ := f1
      exact ⟨by rw [hC _ hlt]; exact f0, pv0, nv0, e1.trans g1, f2, fun k hk => by rw [keepC g2 k hk]; exact f3 k hk, f4, fun k hk => by rw [keepC g4 k hk]; exact f5 k hk⟩
set_option maxHeartbeats 8000000 in
set_option maxRecDepth 100000 in
theorem rset_no {w : World} {x : Nat} {C : Nat → Nat} {qs : List Nat} {os : List Ob} {m : Nat} (h : Rh w x C qs os m) (a i to : Int)
    (hno : i < 0 ∨ ((hdo os a).p : Int) ≤ i ∨ (ob os to).isSome = false) : Calls Try.prog 60 #[.pointer (some ⟨x, 0, none⟩), .int .i64 a, .int .i64 i, .int .i64 to] w (RetV (.bool false) w) := by
  have F := Lib.hid (find_r h a)
  have F2 := Lib.hid (find_r h to)
  rcases h.at a with ⟨-, h2, h3⟩ | ⟨k, q, o, -, -, -, -, -, h2, h3, h4⟩
  · rw [h2] at F
    clear h h2 h3 hno
    go_enter Try.func60, Try.ntmps60
    go_wp2_with fail
    refine F.out.mono ?_
    rintro e w1 ⟨rfl, rfl⟩
    clear F
    go_wp2_with fail
    go_ret
    exact ⟨rfl, Below.refl _ _⟩
  · rw [h2] at F
    have hpl : (hdo os a).p = o.ptrs.length := by
      have h5 := h.oks o (ob_mem h3)
      have := h5.pn
      unfold hdo; rw [h3]; simp [Ob.head, Ob.ptrs]; omega
    rw [hpl] at hno
    obtain ⟨pa, pc, na, nc, c0, c1, c2, c3, -, -⟩ := h4.cells
    rcases h.at to with ⟨-, g2, g3⟩ | ⟨k', q', o', -, -, -, -, -, g2, g3, -⟩
    · rw [g2] at F2
      clear h h2 h3 h4 g2 g3 hno hpl
      go_enter Try.func60, Try.ntmps60
      go_wp2_with fail
      refine F.out.mono ?_
      rintro e w1 ⟨rfl, rfl⟩
      clear F
      go_wp2_with fail
      refine F2.out.mono ?_
      rintro e w1 ⟨rfl, rfl⟩
      clear F2
      go_wp2_with fail
      go_ret
      exact ⟨rfl, Below.refl _ _⟩
    · rw [g2] at F2
      have hno2 : i < 0 ∨ (o.ptrs.length : Int) ≤ i := by
        rcases hno with h | h | h
        · exact .inl h
        · exact .inr h
        · rw [g3] at h; cases h
      generalize o.ptrs.length = p at c2 hno2
      clear h h2 h3 h4 g2 g3 hno hpl
      by_cases hi : i < 0
      · have q1 : decide (i < 0) = true := decide_eq_true hi
        clear hno2
        go_enter Try.func60, Try.ntmps60
        go_wp2_with fail
        refine F.out.mono ?_
        rintro e w1 ⟨rfl, rfl⟩
        clear F
        go_wp2_with fail
        refine F2.out.mono ?_
        rintro e w1 ⟨rfl, rfl⟩
        clear F2
        go_wp2_with fail
        go_ret
        exact ⟨rfl, Below.refl _ _⟩
      · have q1 : decide (i < 0) = false := decide_eq_false hi
        have q2 : decide ((p : Int) ≤ i) = true := decide_eq_true (by omega)
        clear hno2
        go_enter Try.func60, Try.ntmps60
        go_wp2_with fail
        refine F.out.mono ?_
        rintro e w1 ⟨rfl, rfl⟩
        clear F
        go_wp2_with fail
        refine F2.out.mono ?_
        rintro e w1 ⟨rfl, rfl⟩
        clear F2
        go_wp2_with fail
        go_ret
        exact ⟨rfl, Below.refl _ _⟩
set_option maxHeartbeats 8000000 in
set_option maxRecDepth 100000 in
theorem rset_yes {w : World} {x : Nat} {C : Nat → Nat} {qs : List Nat} {os : List Ob} {m : Nat} (h : Rh w x C qs os m) (a i to : Int)
    (k : Nat) (hk : loc os a = some k) (h0 : 0 ≤ i) (hip : i < ((hdo os a).p : Int)) (hto : (ob os to).isSome = true) : Calls Try.prog 60 #[.pointer (some ⟨x, 0, none⟩), .int .i64 a, .int .i64 i, .int .i64 to] w (RetR (.bool true) x C (upd os k (fun o => setO o i.toNat to)) m w) := by
  have F := Lib.hid (find_r h a)
  have F2 := Lib.hid (find_r h to)
  rcases h.at a with ⟨h2, -, -⟩ | ⟨k', q, o, e1, hkl, e2, e3, -, h2, h3, h4⟩
  · rw [h2] at hk; cases hk
  rw [hk] at e1
  injection e1 with e1
  subst e1
  rcases h.at to with ⟨-, -, g3⟩ | ⟨kt, qt, ot, -, -, -, -, -, g2, -, -⟩
  · rw [g3] at hto; cases hto
  rw [h2] at F
  rw [g2] at F2
  have hpl : (hdo os a).p = o.ptrs.length := by
    have h5 := h.oks o (ob_mem h3)
    have := h5.pn
    unfold hdo; rw [h3]; simp [Ob.head, Ob.ptrs]; omega
  rw [hpl] at hip
  have e4 : os[k] = o := by rw [List.getElem?_eq_getElem hkl] at e2; injection e2
  obtain ⟨pa, pc, na, nc, c0, c1, c2, c3, -, -⟩ := h4.cells
  obtain ⟨f0, pv, nv, f1, f2, f3, f4, f5⟩ := h4
  obtain ⟨j, rfl⟩ : ∃ j : Nat, i = j := ⟨i.toNat, by omega⟩
  have hj : j < o.ptrs.length := by omega
  have epv : pv = .slice pa o.ptrs.length pc := by
    rw [cell_of_row _ _ _ _ _ _ f1] at c2; simpa using c2
  subst epv
  rcases f2.2 with ⟨e9, h9⟩ | ⟨g, cap, cur, e9, _, hh, _⟩
  · omega
  injection e9 with e9 _ e10
  subst e9 e10
  have hgC : C g = 3 * k + 4 := f3 g rfl
  have hset := own_set f2 (g := g) rfl j (by rw [List.length_map]; exact hj) (.int .i64 to)
  have FIN : Hid (Rh (w.setCell ⟨g, j, none⟩ (.int .i64 to)) x C qs (upd os k (fun o => setO o ((j : Nat) : Int).toNat to)) m ∧ Fr (fun y => C y ≠ 0) w (w.setCell ⟨g, j, none⟩ (.int .i64 to))) := by
    have hfr : Fr (fun y => y = g) w (w.setCell ⟨g, j, none⟩ (.int .i64 to)) := Fr.setCell (F := fun y => y = g) (p := ⟨g, j, none⟩) (Fr.refl _ _) rfl _
    refine ⟨?_, (Fr.refl _ _).setCell (p := ⟨g, j, none⟩) (by show C g ≠ 0; omega) _⟩
    rw [upd_eq hkl, e4, Int.toNat_natCast]
    refine h.put hkl e3 (by rw [e4]; simp [setO]) (setO_ok (h.oks _ (ob_mem h3)) j to (by have h9 := hj; unfold Ob.ptrs at h9; rw [List.length_take] at h9; omega)) (fun p hp => ?_) hfr (fun y hy => by rw [hy]; exact .inr hgC) (fun _ _ => rfl) (fun y hy => h.fresh y (by simpa [World.setCell] using hy)) ?_
    · rw [setO_ptrs] at hp
      rcases List.mem_or_eq_of_mem_set hp with h | rfl
      · rw [e4]; exact .inl h
      · exact .inr hto
    · have hqg : q ≠ g := fun e => by rw [e] at f0; omega
      refine ⟨f0, _, nv, ?_, ?_, f3, ?_, f5⟩
      · have : (setO o j to).tag = o.tag := rfl
        rw [this]
        rw [Below.heap_setCell _ _ _ _ hqg]; exact f1
      · rw [setO_ptrs, List.length_set, List.map_set]; exact hset
      · have hn : (setO o j to).nums = o.nums := by
          have hjn : j < o.np := by
            have := (h.oks o (ob_mem h3)).pn
            rw [Ob.ptrs, List.length_take] at hj; omega
          unfold setO Ob.nums
          simp only
          rw [List.drop_set_of_lt hjn]
        rw [hn]
        exact own_fr f4 hfr (fun y hy e => by have := f5 y hy; rw [e] at this; omega)
  have cz := Hid.out (show Hid (w.cell? ⟨g, j, none⟩ = some (.int .i64 (o.ptrs[j]))) from by
    have hh2 := f2.cells (g := g) rfl j (.int .i64 o.ptrs[j]) (by rw [List.getElem?_map, List.getElem?_eq_getElem hj]; rfl)
    have e : (⟨g, 0, none⟩ : Addr).add j = ⟨g, j, none⟩ := by unfold Addr.add; split <;> simp_all
    rw [e] at hh2; exact hh2)
  have fz := frozen_of_row w g j _ _ hh
  generalize o.ptrs[j] = z at cz
  have q1 : decide ((j : Int) < 0) = false := decide_eq_false (by omega)
  generalize o.ptrs.length = p at c2 hj
  have q2 : decide ((p : Int) ≤ (j : Int)) = false := decide_eq_false (by omega)
  clear f0 f1 f2 f3 f4 f5 hset hh hpl e4 e2 e3 h2 h3 g2 h hip hto hk c0 c1 c3 hgC
  go_enter Try.func60, Try.ntmps60
  go_wp2_with fail
  refine F.out.mono ?_
  rintro e w1 ⟨rfl, rfl⟩
  clear F
  go_wp2_with fail
  refine F2.out.mono ?_
  rintro e w1 ⟨rfl, rfl⟩
  clear F2
  go_wp2_with fail
  go_ret
  exact ⟨rfl, C, qs, FIN.out.1, FIN.out.2, fun y hy => .inl hy⟩
end Go.Proofs.Ytkekekdkfjjifaa
namespace Go.Proofs.Ytkekekdkfjjifaa
open Go Go.RowKit
set_option linter.unusedVariables false
set_option linter.unusedSimpArgs false
set_option maxHeartbeats 8000000 in
set_option maxRecDepth 100000 in
theorem rover_no {w : World} {x : Nat} {C : Nat → Nat} {qs : List Nat} {os : List Ob} {m : Nat} (h : Rh w x C qs os m) (a to : Int)
    (hno : a = to ∨ (ob os a).isSome = false ∨ (ob os to).isSome = false) : Calls Try.prog 62 #[.pointer (some ⟨x, 0, none⟩), .int .i64 a, .int .i64 to] w (RetV (.bool false) w) := by
  have F := Lib.hid (find_r h a)
  have F2 := Lib.hid (find_r h to)
  rcases h.at a with ⟨-, h2, h3⟩ | ⟨k, q, o, -, -, -, -, -, h2, h3, -⟩
  · rw [h2] at F
    clear h h2 h3 hno
    go_enter Try.func62, Try.ntmps62
    go_wp2_with fail
    refine F.out.mono ?_
    rintro e w1 ⟨rfl, rfl⟩
    clear F
    go_wp2_with fail
    go_ret
    exact ⟨rfl, Below.refl _ _⟩
  · rw [h2] at F
    rcases h.at to with ⟨-, g2, g3⟩ | ⟨k', q', o', -, -, -, -, -, g2, g3, -⟩
    · rw [g2] at F2
      clear h h2 h3 g2 g3 hno
      go_enter Try.func62, Try.ntmps62
      go_wp2_with fail
      refine F.out.mono ?_
      rintro e w1 ⟨rfl, rfl⟩
      clear F
      go_wp2_with fail
      refine F2.out.mono ?_
      rintro e w1 ⟨rfl, rfl⟩
      clear F2
      go_wp2_with fail
      go_ret
      exact ⟨rfl, Below.refl _ _⟩
    · rw [g2] at F2
      have q1 : (a == to) = true := by
        rcases hno with h | h | h
        · simpa using h
        · rw [h3] at h; cases h
        · rw [g3] at h; cases h
      clear h h2 h3 g2 g3 hno
      go_enter Try.func62, Try.ntmps62
      go_wp2_with fail
      refine F.out.mono ?_
      rintro e w1 ⟨rfl, rfl⟩
      clear F
      go_wp2_with fail
      refine F2.out.mono ?_
      rintro e w1 ⟨rfl, rfl⟩
      clear F2
      go_wp2_with fail
      go_ret
      exact ⟨rfl, Below.refl _ _⟩
set_option maxHeartbeats 8000000 in
set_option maxRecDepth 100000 in
theorem rover_yes {w : World} {x : Nat} {C : Nat → Nat} {qs : List Nat} {os : List Ob} {m : Nat} (h : Rh w x C qs os m) (a to : Int)
    (k : Nat) (hk : loc os a = some k) (hne : a ≠ to) (hto : (ob os to).isSome = true) : Calls Try.prog 62 #[.pointer (some ⟨x, 0, none⟩), .int .i64 a, .int .i64 to] w (RetR (.bool true) x C (upd os k (fun o => overO o to)) m w) := by
  have F := Lib.hid (find_r h a)
  have F2 := Lib.hid (find_r h to)
  rcases h.at a with ⟨h2, -, -⟩ | ⟨k', q, o, e1, hkl, e2, e3, -, h2, h3, h4⟩
  · rw [h2] at hk; cases hk
  rw [hk] at e1
  injection e1 with e1
  subst e1
  rcases h.at to with ⟨-, -, g3⟩ | ⟨kt, qt, ot, -, -, -, -, -, g2, -, -⟩
  · rw [g3] at hto; cases hto
  rw [h2] at F
  rw [g2] at F2
  have e4 : os[k] = o := by rw [List.getElem?_eq_getElem hkl] at e2; injection e2
  have hok := h.oks o (ob_mem h3)
  obtain ⟨pa, pc, na, nc, c0, c1, c2, c3, -, -⟩ := h4.cells
  obtain ⟨f0, pv, nv, f1, f2, f3, f4, f5⟩ := h4
  have hq : q < w.heap.size := (Array.getElem?_eq_some_iff.1 f1).1
  have hqs : q ≠ w.heap.size := by omega
  have q1 : (a == to) = false := by simpa using hne
  have hx0 : w.heap[q]? = some (.cells #[.int .i64 (adr os k : Nat), .int .i64 o.tag, pv, nv] 70 (0, 0)) := f1
  have FIN : Hid (∀ W, W.os = w.os → W.tape = w.tape → W.output = w.output → W.heap.size = w.heap.size + 1 → W.heap[q]? = some (.cells #[.int .i64 (adr os k : Nat), .int .i64 5, .slice (some ⟨w.heap.size, 0, none⟩) 1 1, .slice none 0 0] 70 (0, 0)) → W.heap[w.heap.size]? = some (.cells #[.int .i64 to] 3 (0, 0)) → (∀ y, y < w.heap.size → y ≠ q → W.heap[y]? = w.heap[y]?) →
      RetR (.bool true) x C (upd os k (fun o => overO o to)) m w (.returned (.bool true)) W) := by
    intro W w1 w2 w3 w4 w5 w6 w7
    refine ⟨rfl, fun y => if y = w.heap.size then 3 * k + 4 else C y, qs, ?_, ⟨w1, w2, w3, by omega, fun y hy hn => w7 y hy (fun e => hn (by rw [e]; omega))⟩, fun y hy => ?_⟩
    · rw [upd_eq hkl, e4]
      refine h.put (C' := fun y => if y = w.heap.size then 3 * k + 4 else C y) (F := fun y => y = q) hkl e3 (by rw [e4]; simp [overO]) (overO_ok hok to) (fun p hp => ?_) ⟨w1, w2, w3, by omega, fun y hy hn => w7 y hy hn⟩ (fun y hy => by rw [hy]; exact .inl f0) (fun y hy => if_neg (by omega)) (fun y hy => by show (if y = w.heap.size then _ else _) = 0; rw [if_neg (by omega)]; exact h.fresh y (by omega)) ?_
      · rw [overO_ptrs _ _ hok.b1] at hp
        simp at hp
        subst hp
        exact .inr hto
      · refine ⟨by show (if q = w.heap.size then _ else _) = _; rw [if_neg hqs]; exact f0, _, _, w5, ?_, fun y hy => ?_, ?_, fun y hy => by simp [Value.ownBlock] at hy⟩
        · rw [overO_ptrs _ _ hok.b1]
          exact ⟨rfl, .inr ⟨_, 1, _, rfl, Nat.zero_le _, w6, Nat.le_refl _, by unfold maxLen; omega, rfl, rfl⟩⟩
        · have : w.heap.size = y := Option.some.inj hy
          show (if y = w.heap.size then _ else _) = _
          rw [if_pos this.symm]
        · have hn0 : (overO o to).nums = [] := by simp [overO, Ob.nums]
          rw [hn0]
          exact World.ownsRow_nil _ _ _ _
    · by_cases e : y = w.heap.size
      · exact .inr (by omega)
      · simp only [if_neg e] at hy; exact .inl hy
  obtain ⟨t0, ht0⟩ : ∃ t0 : Int, t0 = o.tag := ⟨_, rfl⟩
  obtain ⟨a0, ha0⟩ : ∃ a0 : Int, a0 = (adr os k : Nat) := ⟨_, rfl⟩
  rw [← ha0] at c0 hx0 FIN
  rw [← ht0] at c1 hx0
  have c2' : w.cell? ⟨q, 2, none⟩ = some pv := by rw [cell_of_row _ _ _ _ _ _ f1]; rfl
  have c3' : w.cell? ⟨q, 3, none⟩ = some nv := by rw [cell_of_row _ _ _ _ _ _ f1]; rfl
  have z1 := frozen_of_row w q 1 _ _ f1
  have z2 := frozen_of_row w q 2 _ _ f1
  have z3 := frozen_of_row w q 3 _ _ f1
  obtain ⟨pa', pn', pc', rfl⟩ : ∃ a n c, pv = .slice a n c := by obtain ⟨a, c, h⟩ := own_sform f2; exact ⟨a, _, c, h⟩
  obtain ⟨na', nn', nc', rfl⟩ : ∃ a n c, nv = .slice a n c := by obtain ⟨a, c, h⟩ := own_sform f4; exact ⟨a, _, c, h⟩
  have HX0 := Lib.hid hx0
  clear f0 f1 f2 f3 f4 f5 e4 e2 e3 h2 h3 g2 h hto hk hok c2 c3 ht0 ha0 hne hx0
  go_enter Try.func62, Try.ntmps62
  go_wp2_with fail
  refine F.out.mono ?_
  rintro e w1 ⟨rfl, rfl⟩
  clear F
  go_wp2_with fail
  refine F2.out.mono ?_
  rintro e w1 ⟨rfl, rfl⟩
  clear F2
  go_wp2_with fail
  go_ret
  have s1 := heap_setCell_same w q 1 _ 70 (.int .i64 5) HX0.out
  have s2 := heap_setCell_same _ q 2 _ 70 (.slice (some ⟨w.heap.size, 0, none⟩) 1 1) s1
  have s3 := heap_setCell_same _ q 3 _ 70 (.slice none 0 0) s2
  have hz : (((w.setCell ⟨q, 1, none⟩ (.int .i64 5)).setCell ⟨q, 2, none⟩ (.slice (some ⟨w.heap.size, 0, none⟩) 1 1)).setCell ⟨q, 3, none⟩ (.slice none 0 0)).heap.size = w.heap.size := by simp [World.setCell]
  refine FIN.out _ rfl rfl rfl ?_ ((Below.heap_alloc _ _ _ (by rw [hz]; exact hq)).trans s3) ?_ ?_
  · have := hz; simp [World.setCell]
  · have := alloc_at (((w.setCell ⟨q, 1, none⟩ (.int .i64 5)).setCell ⟨q, 2, none⟩ (.slice (some ⟨w.heap.size, 0, none⟩) 1 1)).setCell ⟨q, 3, none⟩ (.slice none 0 0)) (.cells #[.int .i64 to] 3)
    rw [hz] at this; exact this
  · intro y hy hyq
    rw [Below.heap_alloc _ _ _ (by rw [hz]; exact hy), Below.heap_setCell _ _ _ _ (by show y ≠ q; omega), Below.heap_setCell _ _ _ _ (by show y ≠ q; omega), Below.heap_setCell _ _ _ _ (by show y ≠ q; omega)]
end Go.Proofs.Ytkekekdkfjjifaa
