/- The law's helpers: are two rows of numbers the same; a heap that a law has made. -/
import Derived.Test.YtjecjlnkpbbanaaP13
import Derived.Test.YtjecjlnkpbbanaaP6
import Derived.Test.YtjecjlnkpbbanaaP7
import Derived.Test.YtjecjlnkpbbanaaP8
namespace Go.Proofs.Ytjecjlnkpbbanaa
open Go Go.RowKit
set_option linter.unusedVariables false
set_option linter.unusedSimpArgs false
theorem own_isS {w : World} {B : Nat} {v : Value} {n : Nat} {xs : List Int} (h : w.ownsRow B 3 1 v n (xs.map (Value.int .i64))) : IsS w v xs := by
  have hl : n = xs.length := by have := h.1; simpa using this.symm
  rcases h.2 with ⟨rfl, h0⟩ | ⟨g, cap, cur, rfl, hb, hh, hn, hm, hs, ht⟩
  · refine ⟨none, 0, by rw [← hl, h0], by omega, .inl ⟨rfl, List.eq_nil_of_length_eq_zero (by omega)⟩⟩
  · refine ⟨_, cap, by rw [← hl], by omega, .inr ⟨g, 0, rfl, fun i hi => ?_⟩⟩
    rw [Nat.zero_add, cell_of_row _ _ _ _ _ _ hh, ← Array.getElem?_toList]
    have h1 : (cur.toList.take (n * 1))[i]? = some (.int .i64 xs[i]) := by rw [ht, List.getElem?_map, List.getElem?_eq_getElem hi]; rfl
    rw [List.getElem?_take] at h1
    split at h1
    · exact h1
    · cases h1
theorem nil_isS (w : World) : IsS w (.slice none 0 0) [] := ⟨none, 0, rfl, Nat.le_refl _, .inl ⟨rfl, rfl⟩⟩
theorem block_isS {w : World} {g : Nat} {l : List Int} {T : TypeId} {fz : Nat × Nat} (h : w.heap[g]? = some (.cells (ivals l) T fz)) : IsS w (.slice (some ⟨g, 0, none⟩) l.length l.length) l :=
  ⟨_, _, rfl, Nat.le_refl _, .inr ⟨g, 0, rfl, fun i hi => by
    rw [cell_of_row _ _ _ _ _ _ h, Nat.zero_add]
    unfold ivals
    rw [List.getElem?_toArray, List.getElem?_map, List.getElem?_eq_getElem hi]; rfl⟩⟩
def EqInv (xs ys : List Int) (w : World) (iv : Value) (wr : World) : Prop := ∃ j : Nat, j ≤ xs.length ∧ iv = .int .i64 (j : Int) ∧ xs.take j = ys.take j ∧ Below w.heap.size w wr
set_option maxHeartbeats 8000000 in
set_option maxRecDepth 100000 in
theorem ints_any (w : World) (xv yv : Value) (xs ys : List Int) (hx : IsS w xv xs) (hy : IsS w yv ys) (hl : xs.length ≤ 1000000) (hl2 : ys.length ≤ 1000000) : Calls Try.prog 18 #[xv, yv] w (RetV (.bool (decide (xs = ys))) w) := by
  have HX := Lib.hid hx
  have HY := Lib.hid hy
  obtain ⟨xa, xc, rfl, hxc, _⟩ := hx
  obtain ⟨ya, yc, rfl, hyc, _⟩ := hy
  by_cases hlen : xs.length = ys.length
  · obtain ⟨n, hn⟩ : ∃ n, n = xs.length := ⟨_, rfl⟩
    have hn2 : n = ys.length := by omega
    have HN := Lib.hid hn
    have HN2 := Lib.hid hn2
    rw [← hn] at hl hxc ⊢
    rw [← hn2] at hl2 hyc ⊢
    clear hlen hn hn2
    have H0 : Hid (EqInv xs ys w (.int .i64 0) w) := ⟨0, Nat.zero_le _, rfl, by simp, Below.refl _ _⟩
    go_enter Try.func18, Try.ntmps18
    go_wp2_with fail
    go_loopw [5] (fun iv wr => EqInv xs ys w iv wr) (fun iv _ => n - (intOf iv).toNat)
    case atStart => exact H0.out
    case round =>
      clear H0
      obtain ⟨j, hj, rfl, ht, hbel⟩ := hrel
      rw [← HN.out] at hj
      have HT := Lib.hid ht
      have HB := Lib.hid hbel
      clear ht hbel
      by_cases hjn : j < n
      · have q1 : decide ((j : Int) < (n : Int)) = true := decide_eq_true (by omega)
        have hjx : j < xs.length := by rw [← HN.out]; exact hjn
        have hjy : j < ys.length := by rw [← HN2.out]; exact hjn
        obtain ⟨xa', xc', e1, _, hr⟩ := HX.out.below HB.out
        obtain ⟨ya', yc', f1, _, hs⟩ := HY.out.below HB.out
        injection e1 with e1 e2 e3
        injection f1 with f1 f2 f3
        rcases hr with ⟨_, e⟩ | ⟨g, o, e4, hc⟩
        · have := HN.out; rw [e] at this; simp at this; omega
        rcases hs with ⟨_, e⟩ | ⟨g', o', f4, hd⟩
        · have := HN2.out; rw [e] at this; simp at this; omega
        rw [← e1] at e4
        rw [← f1] at f4
        subst e4 f4
        have c0 := hc j hjx
        have d0 := hd j hjy
        have hg1 : g < wr.heap.size := World.block_lt_of_cell? wr _ c0
        have hg2 : g' < wr.heap.size := World.block_lt_of_cell? wr _ d0
        have HNX : Hid (xs[j] = ys[j] → xs.take (j + 1) = ys.take (j + 1)) := fun e => by rw [List.take_succ_eq_append_getElem hjx, List.take_succ_eq_append_getElem hjy, HT.out, e]
        have HNE : Hid (xs[j] ≠ ys[j] → xs ≠ ys) := fun e h => by subst h; exact e rfl
        generalize xs[j] = x at c0 HNX HNE
        generalize ys[j] = y at d0 HNX HNE
        have HC : Hid (∀ w', Below wr.heap.size wr w' → w'.cell? ⟨g, o + j, none⟩ = some (.int .i64 x) ∧ w'.cell? ⟨g', o' + j, none⟩ = some (.int .i64 y)) := fun w' hw' => ⟨(hw'.cell (p := ⟨g, o + j, none⟩) hg1).trans c0, (hw'.cell (p := ⟨g', o' + j, none⟩) hg2).trans d0⟩
        clear e1 e2 e3 f1 f2 f3 hc hd c0 d0
        go_upto_region 6 with fail
        refine wp_region_noPanic ?_
        refine wp_region_held_drew (S := Below wr.heap.size wr) (by kernel_rfl) ((Below.refl _ _).drew) (fun hHeld => ?_)
        generalize wr.drew = X at hHeld ⊢
        have HBX := Lib.hid (HB.out.trans (hHeld.mono HB.out.size))
        refine wpAnyH_take (i := 0) (v := ?v0) rfl (by kernel_rfl) (by kernel_rfl) (by kernel_rfl) (fun _ _ _ h => h) (Or.inl ⟨rfl, fun w' hw' => ?h0⟩) hHeld ?r0
        case h0 =>
          go_simp
          try with_reducible rfl
        simp only [List.getElem_toArray, List.getElem_cons_succ, List.getElem_cons_zero, Act.put, List.setIfInBounds_toArray, List.set_cons_zero, List.set_cons_succ]
        refine wpAnyH_take (i := 1) (v := ?v1) rfl (by kernel_rfl) (by kernel_rfl) (by kernel_rfl) (fun _ _ _ h => h) (Or.inl ⟨rfl, fun w' hw' => ?h1⟩) hHeld ?r1
        case h1 =>
          go_simp
          try with_reducible rfl
        simp only [List.getElem_toArray, List.getElem_cons_succ, List.getElem_cons_zero, Act.put, List.setIfInBounds_toArray, List.set_cons_zero, List.set_cons_succ]
        refine wpAnyH_take (i := 2) (v := ?v2) rfl (by kernel_rfl) (by kernel_rfl) (by kernel_rfl) (fun _ _ _ h => h) (Or.inl ⟨rfl, fun w' hw' => ?h2⟩) hHeld ?r2
        case h2 =>
          go_simp
          try with_reducible rfl
        simp only [List.getElem_toArray, List.getElem_cons_succ, List.getElem_cons_zero, Act.put, List.setIfInBounds_toArray, List.set_cons_zero, List.set_cons_succ]
        refine wpAnyH_take (i := 3) (v := ?v3) rfl (by kernel_rfl) (by kernel_rfl) (by kernel_rfl) (fun _ _ _ h => h) (Or.inl ⟨rfl, fun w' hw' => ?h3⟩) hHeld ?r3
        case h3 =>
          (obtain ⟨d0, _⟩ := HC.out w' hw'; go_simp)
          try with_reducible rfl
        simp only [List.getElem_toArray, List.getElem_cons_succ, List.getElem_cons_zero, Act.put, List.setIfInBounds_toArray, List.set_cons_zero, List.set_cons_succ]
        refine wpAnyH_take (i := 4) (v := ?v4) rfl (by kernel_rfl) (by kernel_rfl) (by kernel_rfl) (fun _ _ _ h => h) (Or.inl ⟨rfl, fun w' hw' => ?h4⟩) hHeld ?r4
        case h4 =>
          go_simp
          try with_reducible rfl
        simp only [List.getElem_toArray, List.getElem_cons_succ, List.getElem_cons_zero, Act.put, List.setIfInBounds_toArray, List.set_cons_zero, List.set_cons_succ]
        refine wpAnyH_take (i := 5) (v := ?v5) rfl (by kernel_rfl) (by kernel_rfl) (by kernel_rfl) (fun _ _ _ h => h) (Or.inl ⟨rfl, fun w' hw' => ?h5⟩) hHeld ?r5
        case h5 =>
          go_simp
          try with_reducible rfl
        simp only [List.getElem_toArray, List.getElem_cons_succ, List.getElem_cons_zero, Act.put, List.setIfInBounds_toArray, List.set_cons_zero, List.set_cons_succ]
        refine wpAnyH_take (i := 6) (v := ?v6) rfl (by kernel_rfl) (by kernel_rfl) (by kernel_rfl) (fun _ _ _ h => h) (Or.inl ⟨rfl, fun w' hw' => ?h6⟩) hHeld ?r6
        case h6 =>
          go_simp
          try with_reducible rfl
        simp only [List.getElem_toArray, List.getElem_cons_succ, List.getElem_cons_zero, Act.put, List.setIfInBounds_toArray, List.set_cons_zero, List.set_cons_succ]
        refine wpAnyH_take (i := 7) (v := ?v7) rfl (by kernel_rfl) (by kernel_rfl) (by kernel_rfl) (fun _ _ _ h => h) (Or.inl ⟨rfl, fun w' hw' => ?h7⟩) hHeld ?r7
        case h7 =>
          (obtain ⟨_, d0⟩ := HC.out w' hw'; go_simp)
          try with_reducible rfl
        simp only [List.getElem_toArray, List.getElem_cons_succ, List.getElem_cons_zero, Act.put, List.setIfInBounds_toArray, List.set_cons_zero, List.set_cons_succ]
        refine wpAnyH_take (i := 8) (v := ?v8) rfl (by kernel_rfl) (by kernel_rfl) (by kernel_rfl) (fun _ _ _ h => h) (Or.inl ⟨rfl, fun w' hw' => ?h8⟩) hHeld ?r8
        case h8 =>
          go_simp
          try with_reducible rfl
        simp only [List.getElem_toArray, List.getElem_cons_succ, List.getElem_cons_zero, Act.put, List.setIfInBounds_toArray, List.set_cons_zero, List.set_cons_succ]
        refine wpAnyH_done (by kernel_rfl) ?_ _
        refine NoPanic.normal ?_
        clear hHeld
        by_cases hxy : x = y
        · have q3 : (x != y) = false := by simpa using hxy
          have HR := Lib.hid (HNX.out hxy)
          clear hxy
          go_wp2_with fail
          go_roundw
          case rel => exact ⟨j + 1, by rw [← HN.out]; omega, by go_num, HR.out, HBX.out⟩
          case measure => simp [intOf]; omega
        · have q3 : (x != y) = true := by simpa using hxy
          have HR : Hid (decide (xs = ys) = false) := decide_eq_false (HNE.out hxy)
          clear hxy
          go_wp2_with fail
          go_ret
          exact ⟨by rw [HR.out]; rfl, HBX.out⟩
      · have hjn2 : j = n := by omega
        subst hjn2
        have q1 : decide ((j : Int) < (j : Int)) = false := decide_eq_false (by omega)
        have HR : Hid (decide (xs = ys) = true) := by
          have h := HT.out
          rw [HN.out, List.take_length, ← HN.out, HN2.out, List.take_length] at h
          exact decide_eq_true h
        go_wp2_with fail
        go_ret
        exact ⟨by rw [HR.out]; rfl, HB.out⟩
  · have q0 : ((xs.length : Int) != (ys.length : Int)) = true := by simp; omega
    have HR : Hid (decide (xs = ys) = false) := decide_eq_false (fun e => hlen (by rw [e]))
    rw [HR.out]
    clear hlen
    go_enter Try.func18, Try.ntmps18
    go_wp2_with fail
    go_ret
    exact ⟨rfl, Below.refl _ _⟩
/-- A heap that was made behind the world B. -/
structure HL (B w : World) (b : Nat) (G : Option Nat) (os : List Ob) (m : Nat) : Prop where
  hp : HpO w b G os m
  bel : Below B.heap.size B w
  hb : B.heap.size ≤ b
  hg : ∀ k, G = some k → B.heap.size ≤ k
theorem HL.below {B w w' : World} {b : Nat} {G : Option Nat} {os : List Ob} {m : Nat} (h : HL B w b G os m) (hb : Below w.heap.size w w') : HL B w' b G os m := ⟨h.hp.below hb, h.bel.trans (hb.mono h.bel.size), h.hb, h.hg⟩
theorem HL.turn {B w w' : World} {b : Nat} {G : Option Nat} {os os' : List Ob} {m : Nat} {e : Ending} {v : Value} (h : HL B w b G os m) (hr : RetHp v b G os' m w e w') : e = .returned v ∧ ∃ G', HL B w' b G' os' m := by
  obtain ⟨he, G', h1, h2, h3⟩ := hr
  have hs := h.bel.size
  refine ⟨he, G', h1, h.bel.trans (h2.below (fun x hx h4 => ?_) hs), h.hb, fun k hk => ?_⟩
  · rcases h4 with h4 | h4
    · have := h.hb; omega
    · have := h.hg x h4; omega
  · rcases h3 k hk with h4 | h4
    · exact h.hg k h4
    · omega
theorem HL.new {B w : World} (hb : Below B.heap.size B w) (m : Nat) (hm : m ≤ 1000000) : HL B (w.alloc (.cells #[.slice none 0 0, .int .i64 m] 75)) w.heap.size none [] m :=
  ⟨⟨⟨_, alloc_at _ _, rfl, World.ownsRow_nil _ _ _ _, by simp [wds], by simp [wds]⟩, by intro o h; simp at h, by intro o h; simp at h, hm, Nat.zero_le _⟩, hb.alloc hb.size _, hb.size, fun k hk => by cases hk⟩
theorem apart_nil (b : Nat) (G : Option Nat) : Apart (.slice none 0 0) b G := fun ao n c g o e hn e2 => by injection e with e3 e4 e5; omega
theorem apart_lt {v : Value} {b : Nat} {G : Option Nat} {g0 n c : Nat} (hv : v = .slice (some ⟨g0, 0, none⟩) n c) (h1 : g0 ≠ b) (h2 : G ≠ some g0) : Apart v b G := fun ao n' c' g o e hn e2 => by
  rw [hv] at e
  injection e with e3 e4 e5
  rw [e2] at e3
  injection e3 with e3
  injection e3 with e6 e7
  subst e6
  exact ⟨h1, h2⟩
end Go.Proofs.Ytjecjlnkpbbanaa
