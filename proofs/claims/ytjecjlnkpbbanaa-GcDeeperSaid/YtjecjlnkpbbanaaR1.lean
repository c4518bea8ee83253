/- The document's heap in memory; the look for an object; Tag, Used, Words. -/
import Derived.Test.YtjecjlnkpbbanaaL2m
import Derived.Test.YtjecjlnkpbbanaaL4
namespace Go.Proofs.Ytjecjlnkpbbanaa
open Go Go.RowKit
set_option linter.unusedVariables false
set_option linter.unusedSimpArgs false
def optr (q : Nat) : Value := .pointer (some ⟨q, 0, none⟩)
/-- The object number i lies at q. C: whose each block is. -/
def ObAt (w : World) (C : Nat → Nat) (i q : Nat) (o : Ob) (a : Nat) : Prop :=
  C q = 3 * i + 3 ∧ ∃ pv nv, w.heap[q]? = some (.cells #[.int .i64 a, .int .i64 o.tag, pv, nv] 70 (0, 0)) ∧ w.ownsRow 0 3 1 pv o.ptrs.length (o.ptrs.map (Value.int .i64)) ∧ (∀ k, pv.ownBlock = some k → C k = 3 * i + 4) ∧
    w.ownsRow 0 3 1 nv o.nums.length (o.nums.map (Value.int .i64)) ∧ (∀ k, nv.ownBlock = some k → C k = 3 * i + 5)
/-- The document's heap at x is these objects. -/
structure Rh (w : World) (x : Nat) (C : Nat → Nat) (qs : List Nat) (os : List Ob) (m : Nat) : Prop where
  head : ∃ lv, w.heap[x]? = some (.cells #[.int .i64 m, .int .i64 (total os : Nat), lv] 67 (0, 0)) ∧ w.ownsRow 0 68 1 lv os.length (qs.map optr) ∧ (∀ k, lv.ownBlock = some k → C k = 2)
  cx : C x = 1
  len : qs.length = os.length
  obs : ∀ i (h : i < os.length) (h' : i < qs.length), ObAt w C i qs[i] os[i] (adr os i)
  oks : Oks os
  closed : Closed os
  most : m ≤ 1000000
  room : total os ≤ m
  fresh : ∀ k, w.heap.size ≤ k → C k = 0
theorem ObAt.fr {F : Nat → Prop} {w w' : World} {C : Nat → Nat} {i q : Nat} {o : Ob} {a : Nat} (h : ObAt w C i q o a) (hf : Fr F w w') (hF : ∀ k, F k → C k ≠ 3 * i + 3 ∧ C k ≠ 3 * i + 4 ∧ C k ≠ 3 * i + 5) : ObAt w' C i q o a := by
  obtain ⟨h0, pv, nv, h1, h2, h3, h4, h5⟩ := h
  exact ⟨h0, pv, nv, (hf.block q (Array.getElem?_eq_some_iff.1 h1).1 (fun e => (hF q e).1 h0)).trans h1, own_fr h2 hf (fun k hk e => (hF k e).2.1 (h3 k hk)), h3, own_fr h4 hf (fun k hk e => (hF k e).2.2 (h5 k hk)), h5⟩
theorem Rh.fr {F : Nat → Prop} {w w' : World} {x : Nat} {C : Nat → Nat} {qs : List Nat} {os : List Ob} {m : Nat} (h : Rh w x C qs os m) (hf : Fr F w w') (hF : ∀ k, F k → C k = 0) : Rh w' x C qs os m := by
  refine ⟨?_, h.cx, h.len, fun i hi hi' => (h.obs i hi hi').fr hf (fun k hk => by have := hF k hk; omega), h.oks, h.closed, h.most, h.room, fun k hk => h.fresh k (by have := hf.size; omega)⟩
  obtain ⟨lv, h1, h2, h3⟩ := h.head
  exact ⟨lv, (hf.block x (Array.getElem?_eq_some_iff.1 h1).1 (fun e => by have := hF x e; have := h.cx; omega)).trans h1, own_fr h2 hf (fun k hk e => by have := hF k e; have := h3 k hk; omega), h3⟩
theorem Rh.below {w w' : World} {x : Nat} {C : Nat → Nat} {qs : List Nat} {os : List Ob} {m : Nat} (h : Rh w x C qs os m) (hb : Below w.heap.size w w') : Rh w' x C qs os m := h.fr (F := fun _ => False) (Fr.of_below hb) (fun _ h => h.elim)
theorem Rh.lt {w : World} {x : Nat} {C : Nat → Nat} {qs : List Nat} {os : List Ob} {m : Nat} (h : Rh w x C qs os m) : x < w.heap.size := by
  obtain ⟨lv, h1, _⟩ := h.head
  exact (Array.getElem?_eq_some_iff.1 h1).1
/-- The heap's cells; those of its row. -/
theorem Rh.cells {w : World} {x : Nat} {C : Nat → Nat} {qs : List Nat} {os : List Ob} {m : Nat} (h : Rh w x C qs os m) : ∃ ao cap, w.cell? ⟨x, 0, none⟩ = some (.int .i64 m) ∧ w.cell? ⟨x, 1, none⟩ = some (.int .i64 (total os : Nat)) ∧ w.cell? ⟨x, 2, none⟩ = some (.slice ao os.length cap) ∧ os.length ≤ cap ∧
    w.frozen? ⟨x, 1, none⟩ = false ∧ w.frozen? ⟨x, 2, none⟩ = false ∧
    ∀ i (hi : i < qs.length), ∃ g, ao = some ⟨g, 0, none⟩ ∧ w.cell? ⟨g, i, none⟩ = some (.pointer (some ⟨qs[i], 0, none⟩)) := by
  obtain ⟨lv, h1, h2, h3⟩ := h.head
  have c2 : w.cell? ⟨x, 2, none⟩ = some lv := by rw [cell_of_row _ _ _ _ _ _ h1]; rfl
  have c0 : w.cell? ⟨x, 0, none⟩ = some (.int .i64 m) := by rw [cell_of_row _ _ _ _ _ _ h1]; rfl
  have c1 : w.cell? ⟨x, 1, none⟩ = some (.int .i64 (total os : Nat)) := by rw [cell_of_row _ _ _ _ _ _ h1]; rfl
  have f1 := frozen_of_row w x 1 _ _ h1
  have f2 := frozen_of_row w x 2 _ _ h1
  rcases h2.2 with ⟨rfl, hz⟩ | ⟨g, cap, cur, rfl, _, hh, hn, hcm, hcs, ht⟩
  · refine ⟨none, 0, c0, c1, by rw [hz]; exact c2, by omega, f1, f2, fun i hi => by have := h.len; omega⟩
  · refine ⟨_, cap, c0, c1, c2, hn, f1, f2, fun i hi => ⟨g, rfl, ?_⟩⟩
    rw [cell_of_row _ _ _ _ _ _ hh, ← Array.getElem?_toList]
    have h4 : (cur.toList.take (os.length * 1))[i]? = some (optr qs[i]) := by rw [ht, List.getElem?_map, List.getElem?_eq_getElem hi]; rfl
    rw [List.getElem?_take] at h4
    split at h4
    · exact h4
    · cases h4
/-- An object's cells. -/
theorem ObAt.cells {w : World} {C : Nat → Nat} {i q : Nat} {o : Ob} {a : Nat} (h : ObAt w C i q o a) : ∃ pa pc na nc, w.cell? ⟨q, 0, none⟩ = some (.int .i64 a) ∧ w.cell? ⟨q, 1, none⟩ = some (.int .i64 o.tag) ∧ w.cell? ⟨q, 2, none⟩ = some (.slice pa o.ptrs.length pc) ∧ w.cell? ⟨q, 3, none⟩ = some (.slice na o.nums.length nc) ∧
    w.ownsRow 0 3 1 (.slice pa o.ptrs.length pc) o.ptrs.length (o.ptrs.map (Value.int .i64)) ∧ w.ownsRow 0 3 1 (.slice na o.nums.length nc) o.nums.length (o.nums.map (Value.int .i64)) := by
  obtain ⟨h0, pv, nv, h1, h2, h3, h4, h5⟩ := h
  obtain ⟨pa, pc, rfl⟩ := own_sform h2
  obtain ⟨na, nc, rfl⟩ := own_sform h4
  exact ⟨pa, pc, na, nc, by rw [cell_of_row _ _ _ _ _ _ h1]; rfl, by rw [cell_of_row _ _ _ _ _ _ h1]; rfl, by rw [cell_of_row _ _ _ _ _ _ h1]; rfl, by rw [cell_of_row _ _ _ _ _ _ h1]; rfl, h2, h4⟩
theorem adr_inj {os : List Ob} {i j : Nat} (hi : i < os.length) (hj : j < os.length) (h : adr os i = adr os j) : i = j := by
  rcases Nat.lt_trichotomy i j with h1 | h1 | h1
  · have := adr_lt h1 (Nat.le_of_lt hj); omega
  · exact h1
  · have := adr_lt h1 (Nat.le_of_lt hi); omega
/-- What the look answers. -/
def fptr (qs : List Nat) (os : List Ob) (a : Int) : Value := match loc os a with | some i => .pointer ((qs[i]?).map fun q => ⟨q, 0, none⟩) | none => .pointer none
def FdInv (os : List Ob) (a : Int) (iv : Value) : Prop := ∃ j : Nat, j ≤ os.length ∧ iv = .int .i64 (j : Int) ∧ ∀ i, i < j → (adr os i : Int) ≠ a
set_option maxHeartbeats 8000000 in
set_option maxRecDepth 100000 in
theorem find_r {w : World} {x : Nat} {C : Nat → Nat} {qs : List Nat} {os : List Ob} {m : Nat} (h : Rh w x C qs os m) (a : Int) : Calls Try.prog 67 #[.pointer (some ⟨x, 0, none⟩), .int .i64 a] w fun e w' => e = .returned (fptr qs os a) ∧ w = w' := by
  obtain ⟨ao, cap, -, -, c2, hcap, -, -, hr⟩ := h.cells
  have HH := Lib.hid h
  have hlen := h.len
  have hol := total_len os
  have hm := h.most
  have hrm := h.room
  clear h
  obtain ⟨n, hn⟩ : ∃ n, n = os.length := ⟨_, rfl⟩
  rw [← hn] at c2 hcap hlen hol
  have HN := Lib.hid hn
  clear hn
  have H0 : Hid (FdInv os a (.int .i64 0)) := ⟨0, Nat.zero_le _, rfl, fun i hi => by omega⟩
  go_enter Try.func67, Try.ntmps67
  go_wp2_with fail
  go_loop [5] (fun iv => FdInv os a iv) (fun iv => n - (intOf iv).toNat)
  case atStart => exact H0.out
  case round =>
    clear H0
    obtain ⟨j, hj, rfl, hne⟩ := hrel
    rw [← HN.out] at hj
    have HNE := Lib.hid hne
    clear hne
    by_cases hjn : j < n
    · have q1 : decide ((j : Int) < (n : Int)) = true := decide_eq_true (by omega)
      have hjo : j < os.length := by rw [← HN.out]; exact hjn
      have hjq : j < qs.length := by omega
      obtain ⟨g, rfl, cg⟩ := hr j hjq
      obtain ⟨_, _, _, _, d0, -, -, -, -, -⟩ := (HH.out.obs j hjo hjq).cells
      have HQ : Hid (qs[j]? = some qs[j]) := List.getElem?_eq_getElem hjq
      generalize qs[j] = q at cg d0 HQ
      obtain ⟨aj, haj⟩ : ∃ aj, aj = adr os j := ⟨_, rfl⟩
      rw [← haj] at d0
      by_cases hit : (aj : Int) = a
      · have q2 : ((aj : Int) == a) = true := by simpa using hit
        have HR : Hid (fptr qs os a = .pointer (some ⟨q, 0, none⟩)) := by
          show _ = _
          unfold fptr
          rw [loc_iff.2 ⟨hjo, by rw [← hit, haj]⟩]
          simp only [HQ.out]; rfl
        clear hit haj hr
        go_wp2_with fail
        go_ret
        exact ⟨by rw [HR.out]; rfl, rfl⟩
      · have q2 : ((aj : Int) == a) = false := by simpa using hit
        have HREL : Hid (FdInv os a (.int .i64 ((j : Int) + 1))) := ⟨j + 1, by omega, by go_num, fun i hi => by
          by_cases e : i = j
          · rw [e, ← haj]; exact hit
          · exact HNE.out i (by omega)⟩
        clear hit haj hr
        go_wp2_with fail
        go_round
        case rel => exact HREL.out
        case measure => simp [intOf]; omega
    · obtain rfl : j = n := by omega
      have q1 : decide ((j : Int) < (j : Int)) = false := decide_eq_false (by omega)
      have HR : Hid (fptr qs os a = .pointer none) := by
        show _ = _
        unfold fptr
        cases h1 : loc os a with
        | none => rfl
        | some i =>
          obtain ⟨h2, h3⟩ := loc_some h1
          exact absurd h3.symm (HNE.out i (by rw [HN.out]; exact h2))
      clear hr
      go_wp2_with fail
      go_ret
      exact ⟨by rw [HR.out]; rfl, rfl⟩
theorem rused_r {w : World} {x : Nat} {C : Nat → Nat} {qs : List Nat} {os : List Ob} {m : Nat} (h : Rh w x C qs os m) : Calls Try.prog 40 #[.pointer (some ⟨x, 0, none⟩)] w fun e w' => e = .returned (.int .i64 (total os : Nat)) ∧ w = w' := by
  obtain ⟨ao, cap, c0, c1, c2, -⟩ := h.cells
  clear h
  go_enter Try.func40, Try.ntmps40
  go_wp2
  go_ret
  exact ⟨rfl, rfl⟩
theorem rwords_r {w : World} {x : Nat} {C : Nat → Nat} {qs : List Nat} {os : List Ob} {m : Nat} (h : Rh w x C qs os m) : Calls Try.prog 38 #[.pointer (some ⟨x, 0, none⟩)] w fun e w' => e = .returned (.int .i64 m) ∧ w = w' := by
  obtain ⟨ao, cap, c0, c1, c2, -⟩ := h.cells
  clear h
  go_enter Try.func38, Try.ntmps38
  go_wp2
  go_ret
  exact ⟨rfl, rfl⟩
/-- What is at an address, in memory. -/
theorem Rh.at {w : World} {x : Nat} {C : Nat → Nat} {qs : List Nat} {os : List Ob} {m : Nat} (h : Rh w x C qs os m) (a : Int) : (loc os a = none ∧ fptr qs os a = .pointer none ∧ ob os a = none) ∨
    ∃ i q o, loc os a = some i ∧ i < os.length ∧ os[i]? = some o ∧ qs[i]? = some q ∧ a = adr os i ∧ fptr qs os a = .pointer (some ⟨q, 0, none⟩) ∧ ob os a = some o ∧ ObAt w C i q o (adr os i) := by
  cases h1 : loc os a with
  | none => exact .inl ⟨rfl, by unfold fptr; rw [h1], ob_none.2 h1⟩
  | some i =>
    obtain ⟨h2, h3⟩ := loc_some h1
    have h4 : i < qs.length := by rw [h.len]; exact h2
    exact .inr ⟨i, qs[i], os[i], rfl, h2, List.getElem?_eq_getElem h2, List.getElem?_eq_getElem h4, h3, by unfold fptr; rw [h1]; simp only [List.getElem?_eq_getElem h4]; rfl, ob_loc h1, h.obs i h2 h4⟩
theorem rtag_r {w : World} {x : Nat} {C : Nat → Nat} {qs : List Nat} {os : List Ob} {m : Nat} (h : Rh w x C qs os m) (a : Int) : Calls Try.prog 37 #[.pointer (some ⟨x, 0, none⟩), .int .i64 a] w (RetV (.int .i64 ((hdo os a).t : Nat)) w) := by
  have F := Lib.hid (find_r h a)
  rcases h.at a with ⟨-, h2, h3⟩ | ⟨i, q, o, -, -, -, -, -, h2, h3, h4⟩
  · have e : (hdo os a).t = 0 := by unfold hdo; rw [h3]
    rw [e]
    rw [h2] at F
    clear h h2 h3 e
    go_enter Try.func37, Try.ntmps37
    go_wp2_with fail
    refine F.out.mono ?_
    rintro e w1 ⟨rfl, rfl⟩
    clear F
    go_wp2_with fail
    go_ret
    exact ⟨rfl, Below.refl _ _⟩
  · have e : (hdo os a).t = o.tag := by unfold hdo; rw [h3]; rfl
    rw [e]
    rw [h2] at F
    obtain ⟨pa, pc, na, nc, -, c1, -⟩ := h4.cells
    clear h h2 h3 e h4
    go_enter Try.func37, Try.ntmps37
    go_wp2_with fail
    refine F.out.mono ?_
    rintro e w1 ⟨rfl, rfl⟩
    clear F
    go_wp2_with fail
    go_ret
    exact ⟨rfl, Below.refl _ _⟩
end Go.Proofs.Ytjecjlnkpbbanaa
