/- Alloc. -/
import Derived.Test.YtkekekdkfjjifaaP12
import Derived.Test.YtkekekdkfjjifaaZB
namespace Go.Proofs.Ytkekekdkfjjifaa
open Go Go.RowKit
set_option linter.unusedVariables false
set_option linter.unusedSimpArgs false
def sizeF (ps ns : List Int) : Nat := max 2 (1 + ps.length + ns.length)
def allocF (os : List Ob) (m : Nat) (t : Int) (ps ns : List Int) : Option (List Ob) :=
  if fitF t ps ns = true ∧ ps.any (bey os) = false ∧ total os + sizeF ps ns ≤ m then some (os ++ [newO t.toNat ps ns]) else none
theorem fitF_spec {t : Int} {ps ns : List Int} (h : fitF t ps ns = true) : ∃ tn : Nat, t = tn ∧ 1 ≤ tn ∧ tn ≤ 7 ∧ ps.length ≤ 60 ∧ ns.length ≤ 60 ∧ Shp tn ps ns := by
  unfold fitF at h
  simp only [Bool.and_eq_true, decide_eq_true_eq] at h
  obtain ⟨⟨h1, h2⟩, h3⟩ := h
  have : 1 ≤ t ∧ t ≤ 7 ∧ (t = 5 → ps.length = 1) ∧ (t = 2 → ps.length = 2) ∧ (t = 6 → ps.length = 1 ∧ (ns = [0] ∨ ns = [1])) ∧ (t = 5 ∨ t = 2 → ns = []) := by
    split at h3
    · rename_i e
      simp only [Bool.and_eq_true, decide_eq_true_eq] at h3
      exact ⟨by omega, by omega, by omega, fun _ => h3.1, by omega, fun _ => List.eq_nil_of_length_eq_zero h3.2⟩
    · split at h3
      · rename_i e
        simp only [Bool.and_eq_true, decide_eq_true_eq] at h3
        exact ⟨by omega, by omega, fun _ => h3.1, by omega, by omega, fun _ => List.eq_nil_of_length_eq_zero h3.2⟩
      · split at h3
        · rename_i e
          simp only [Bool.and_eq_true, Bool.or_eq_true, decide_eq_true_eq] at h3
          refine ⟨by omega, by omega, by omega, by omega, fun _ => ⟨h3.1.1, ?_⟩, by omega⟩
          obtain ⟨⟨_, h4⟩, h5⟩ := h3
          match ns, h4, h5 with
          | [x], _, .inl h => exact .inl (by rw [show x = 0 from h])
          | [x], _, .inr h => exact .inr (by rw [show x = 1 from h])
        · rename_i e1 e2 e3
          simp only [Bool.and_eq_true, decide_eq_true_eq] at h3
          exact ⟨h3.1, h3.2, fun e => absurd e e2, fun e => absurd e e1, fun e => absurd e e3, fun e => by rcases e with e | e; exact absurd e e2; exact absurd e e1⟩
  exact ⟨t.toNat, by omega, by omega, by omega, h1, h2, fun e => this.2.2.1 (by omega), fun e => this.2.2.2.1 (by omega), fun e => this.2.2.2.2.1 (by omega), fun e => this.2.2.2.2.2 (by omega)⟩
def pair2 (a : Int) (b : Bool) : Value := .tuple #[.int .i64 a, .bool b]
set_option maxHeartbeats 16000000 in
set_option maxRecDepth 100000 in
theorem alloc_unfit {w : World} {b : Nat} {G : Option Nat} {os : List Ob} {m : Nat} (h : HpO w b G os m) (t : Int) (ps ns : List Int) (pv nv : Value) (hp : IsS w pv ps) (hn : IsS w nv ns) (hpl : ps.length ≤ 1000000) (hnl : ns.length ≤ 1000000) (hpr : ∀ p ∈ ps, -9223372036854775808 ≤ p ∧ p ≤ 9223372036854775807)
    (hno : fitF t ps ns = false ∨ ps.any (bey os) = true) : Calls Try.prog 28 #[.pointer (some ⟨b, 0, none⟩), .int .i64 t, pv, nv] w (RetV (pair2 0 false) w) := by
  have F44 := Lib.hid (fits_any t ps ns pv nv w hp hn hpl hnl)
  have F45 := Lib.hid (containsFunc_o h pv ps hp hpl hpr)
  have hbl := h.1.lt
  obtain ⟨pa, pc, rfl, hpc, _⟩ := hp
  obtain ⟨na, nc, rfl, hnc, _⟩ := hn
  clear h hpr
  cases hf : fitF t ps ns with
  | false =>
    rw [hf] at F44
    clear hno hf
    go_enter Try.func28, Try.ntmps28
    go_wp2_with fail
    refine F44.out.mono ?_
    rintro e w1 ⟨rfl, rfl⟩
    clear F44
    go_wp2_with fail
    go_ret2
    exact ⟨rfl, Below.refl _ _⟩
  | true =>
    rw [hf] at F44
    have hb : ps.any (bey os) = true := by rcases hno with h | h; rw [hf] at h; cases h; exact h
    rw [hb] at F45
    clear hno hf hb
    go_enter Try.func28, Try.ntmps28
    go_wp2_with fail
    refine F44.out.mono ?_
    rintro e w1 ⟨rfl, rfl⟩
    clear F44
    go_wp2_with fail
    refine F45.out.mono ?_
    rintro e w1 ⟨rfl, hb1⟩
    have HB1 := Lib.hid hb1
    clear F45 hb1
    go_wp2_with fail
    go_ret2
    exact ⟨rfl, HB1.out⟩
set_option maxHeartbeats 16000000 in
set_option maxRecDepth 100000 in
theorem alloc_full {w : World} {b : Nat} {G : Option Nat} {os : List Ob} {m : Nat} (h : HpO w b G os m) (tn : Nat) (ps ns : List Int) (pv nv : Value) (hp : IsS w pv ps) (hn : IsS w nv ns) (hpr : ∀ p ∈ ps, -9223372036854775808 ≤ p ∧ p ≤ 9223372036854775807)
    (hfit : fitF tn ps ns = true) (hbey : ps.any (bey os) = false) (hroom : ¬ total os + sizeF ps ns ≤ m) : Calls Try.prog 28 #[.pointer (some ⟨b, 0, none⟩), .int .i64 tn, pv, nv] w (RetV (pair2 0 false) w) := by
  obtain ⟨tn', e0, ht1, ht2, hpl, hnl, h5⟩ := fitF_spec hfit
  obtain rfl : tn' = tn := by omega
  have F44 := Lib.hid (fits_any tn' ps ns pv nv w hp hn (by omega) (by omega))
  have F45 := Lib.hid (containsFunc_o h pv ps hp (by omega) hpr)
  rw [hfit] at F44
  rw [hbey] at F45
  have hbl := h.1.lt
  have HH := Lib.hid h
  have hm := h.2.2.2
  have hsz : sizeF ps ns = (newO tn' ps ns).size := by rw [newO_size]; rfl
  have hszb : (newO tn' ps ns).size ≤ 121 := by rw [newO_size]; omega
  have F47 := Lib.hid (fun W => headOf_any tn' ps.length ns.length (by omega) (by omega) (by omega) W)
  rw [show max 2 (1 + ps.length + ns.length) = (newO tn' ps ns).size by rw [newO_size]] at F47
  rw [hsz] at hroom
  have F48 := Lib.hid (fun W (hb : Below w.heap.size w W) => end_any (h.below hb).1)
  rw [wds_length] at F48
  have HMC : Hid (∀ W, Below w.heap.size w W → W.cell? ⟨b, 1, none⟩ = some (.int .i64 m)) := fun W hb => by obtain ⟨_, _, _, h1, _⟩ := (h.below hb).1.cell; exact h1
  obtain ⟨pa, pc, rfl, hpc, _⟩ := hp
  obtain ⟨na, nc, rfl, hnc, _⟩ := hn
  generalize os ++ [newO tn' ps ns] = os2 at ⊢
  obtain ⟨sz, hszd⟩ : ∃ sz, sz = (newO tn' ps ns).size := ⟨_, rfl⟩
  rw [← hszd] at hszb hroom F47 
  have F49 := Lib.hid (fun W => size_any tn' ps.length ns.length sz (by omega) W)
  clear hszd hsz h hpr hfit hbey e0 h5 
  obtain ⟨p, hpd⟩ : ∃ p, p = ps.length := ⟨_, rfl⟩
  obtain ⟨n, hnd⟩ : ∃ n, n = ns.length := ⟨_, rfl⟩
  rw [← hpd] at hpc hpl F44 F45 F47 F49  ⊢
  rw [← hnd] at hnc hnl F44 F47 F49  ⊢
  clear hpd hnd
  obtain ⟨N, hN⟩ : ∃ N, N = total os := ⟨_, rfl⟩
  rw [← hN] at hroom hm F48 
  clear hN
  go_enter Try.func28, Try.ntmps28
  go_wp2_with fail
  refine F44.out.mono ?_
  rintro e w1 ⟨rfl, rfl⟩
  clear F44
  go_wp2_with fail
  refine F45.out.mono ?_
  rintro e w1 ⟨rfl, hb1⟩
  have HB1 := Lib.hid hb1
  clear F45 hb1
  go_wp2_with fail
  refine (F47.out _).mono ?_
  rintro e w2 ⟨rfl, hb2⟩
  have HB2 := Lib.hid (HB1.out.trans (hb2.mono HB1.out.size))
  clear F47 hb2 HB1
  go_upto_region 4 with fail
  have hs2 : w.heap.size ≤ w2.heap.size := HB2.out.size
  have hx : (w2.alloc (.cells #[.int .u8 tn', .int .u8 p, .int .u8 n, .int .u8 sz] 77)).heap[w2.heap.size]? = some (.cells #[.int .u8 tn', .int .u8 p, .int .u8 n, .int .u8 sz] 77 (0, 0)) := alloc_at _ _
  have hbY : Below w.heap.size w (w2.alloc (.cells #[.int .u8 tn', .int .u8 p, .int .u8 n, .int .u8 sz] 77)) := HB2.out.alloc hs2 _
  have hsY : (w2.alloc (.cells #[.int .u8 tn', .int .u8 p, .int .u8 n, .int .u8 sz] 77)).heap.size = w2.heap.size + 1 := by simp
  generalize w2.alloc (.cells #[.int .u8 tn', .int .u8 p, .int .u8 n, .int .u8 sz] 77) = Y at hx hbY hsY ⊢
  have hgx : w2.heap.size < Y.heap.size := by omega
  clear hsY
  generalize w2.heap.size = gx at hx hgx hs2 ⊢
  have HX := Lib.hid hx
  have HBY := Lib.hid hbY
  have hwY : w.heap.size ≤ Y.heap.size := hbY.size
  have HC : Hid (∀ w', Below Y.heap.size Y w' → w'.cell? ⟨b, 1, none⟩ = some (.int .i64 m) ∧ w'.rangeAt gx 0 [.int .u8 tn', .int .u8 p, .int .u8 n, .int .u8 sz]) := fun w' hw' =>
    ⟨HMC.out w' (HBY.out.trans (hw'.mono hwY)), box_range (by rw [hw'.block _ hgx]; exact HX.out)⟩
  clear hx hbY HB2
  refine wp_region_noPanic ?_
  refine wp_region_held_drew (S := Below Y.heap.size Y) (by kernel_rfl) ((Below.refl _ _).drew) (fun hHeld => ?_)
  generalize Y.drew = X at hHeld ⊢
  have hb0 : Y.heap.size ≤ X.heap.size := hHeld.size
  refine wpAnyH_take (i := 0) (v := ?v0) rfl (by kernel_rfl) (by kernel_rfl) (by kernel_rfl) (fun _ _ _ h => h) (Or.inl ⟨rfl, fun w' hw' => ?h0⟩) hHeld ?r0
  case h0 =>
    go_simp
    try with_reducible rfl
  simp only [List.getElem_toArray, List.getElem_cons_succ, List.getElem_cons_zero, Act.put, List.setIfInBounds_toArray, List.set_cons_zero, List.set_cons_succ]
  refine wpAnyH_take (i := 1) (v := ?v1) rfl (by kernel_rfl) (by kernel_rfl) (by kernel_rfl) (fun _ _ _ h => h) (Or.inl ⟨rfl, fun w' hw' => ?h1⟩) hHeld ?r1
  case h1 =>
    go_simp
    try with_reducible rfl
  simp only [List.getElem_toArray, List.getElem_cons_succ, List.getElem_cons_zero, Act.put, List.setIfInBounds_toArray, List.set_cons_zero, List.set_cons_succ]
  refine wpAnyH_take (i := 2) (v := ?v2) rfl (by kernel_rfl) (by kernel_rfl) (by kernel_rfl) (fun _ _ _ h => h) (Or.inl ⟨rfl, fun w' hw' => ?h2⟩) hHeld ?r2
  case h2 =>
    go_simp
    try with_reducible rfl
  simp only [List.getElem_toArray, List.getElem_cons_succ, List.getElem_cons_zero, Act.put, List.setIfInBounds_toArray, List.set_cons_zero, List.set_cons_succ]
  refine wpAnyH_take (i := 4) rfl (by kernel_rfl) (by kernel_rfl) (by kernel_rfl) (fun _ _ _ h => h) (yieldsIf_load_mid (by rfl) _ _ rfl gx 0 rfl [.int .u8 tn', .int .u8 p, .int .u8 n, .int .u8 sz] _ (fun w' hw' => (HC.out w' hw').2) Try.underlying77 rfl info55) hHeld ?_
  simp only [List.getElem_toArray, List.getElem_cons_succ, List.getElem_cons_zero, Act.put, List.setIfInBounds_toArray, List.set_cons_zero, List.set_cons_succ]
  refine wpAnyH_take (i := 7) (v := ?v3) rfl (by kernel_rfl) (by kernel_rfl) (by kernel_rfl) (fun _ _ _ h => h) (Or.inl ⟨rfl, fun w' hw' => ?h3⟩) hHeld ?r3
  case h3 =>
    go_simp
    try with_reducible rfl
  simp only [List.getElem_toArray, List.getElem_cons_succ, List.getElem_cons_zero, Act.put, List.setIfInBounds_toArray, List.set_cons_zero, List.set_cons_succ]
  refine wpAnyH_take (i := 8) (v := ?v4) rfl (by kernel_rfl) (by kernel_rfl) (by kernel_rfl) (fun _ _ _ h => h) (Or.inl ⟨rfl, fun w' hw' => ?h4⟩) hHeld ?r4
  case h4 =>
    go_simp
    try with_reducible rfl
  simp only [List.getElem_toArray, List.getElem_cons_succ, List.getElem_cons_zero, Act.put, List.setIfInBounds_toArray, List.set_cons_zero, List.set_cons_succ]
  refine wpAnyH_take (i := 9) (v := ?v5) rfl (by kernel_rfl) (by kernel_rfl) (by kernel_rfl) (fun _ _ _ h => h) (Or.inl ⟨rfl, fun w' hw' => ?h5⟩) hHeld ?r5
  case h5 =>
    go_simp
    try with_reducible rfl
  simp only [List.getElem_toArray, List.getElem_cons_succ, List.getElem_cons_zero, Act.put, List.setIfInBounds_toArray, List.set_cons_zero, List.set_cons_succ]
  refine wpAnyH_take (i := 10) (v := ?v6) rfl (by kernel_rfl) (by kernel_rfl) (by kernel_rfl) (fun _ _ _ h => h) (Or.inl ⟨rfl, fun w' hw' => ?h6⟩) hHeld ?r6
  case h6 =>
    (obtain ⟨d0, _⟩ := HC.out w' hw'; go_simp)
    try with_reducible rfl
  simp only [List.getElem_toArray, List.getElem_cons_succ, List.getElem_cons_zero, Act.put, List.setIfInBounds_toArray, List.set_cons_zero, List.set_cons_succ]
  refine wpAnyH_ready (rs := [3]) (by kernel_rfl) (by simp) ?_
  refine (AllReadyH.cons rfl (fun K hK => ?_) AllReadyH.nil)
  go_simp
  refine (F48.out X (HBY.out.trans (hHeld.mono hwY))).mono ?_
  rintro e w5 ⟨rfl, rfl⟩
  refine hK.out _ _ hHeld (fun hHeld => ?_)
  clear hK K
  try simp only [List.getElem_toArray, List.getElem_cons_succ, List.getElem_cons_zero, Act.put, List.setIfInBounds_toArray, List.set_cons_zero, List.set_cons_succ]
  refine wpAnyH_ready (rs := [5]) (by kernel_rfl) (by simp) ?_
  refine (AllReadyH.cons rfl (fun K hK => ?_) AllReadyH.nil)
  go_simp
  refine (F49.out X).mono ?_
  rintro e w5 ⟨rfl, hw5⟩
  have hS5 : Below Y.heap.size Y w5 := hHeld.trans (hw5.mono hb0)
  have HS5 := Lib.hid hS5
  refine hK.out _ _ hS5 (fun hHeld => ?_)
  clear hw5 hS5
  clear hK K
  try simp only [List.getElem_toArray, List.getElem_cons_succ, List.getElem_cons_zero, Act.put, List.setIfInBounds_toArray, List.set_cons_zero, List.set_cons_succ]
  refine wpAnyH_take (i := 6) (v := Value.int .i64 ((N : Int) + (sz : Nat))) rfl (by kernel_rfl) (by kernel_rfl) (by kernel_rfl) (fun _ _ _ h => h) (Or.inl ⟨rfl, fun w' hw' => ?_⟩) hHeld ?_
  · (go_simp; try (rw [IntKind.wrap_i64]; omega))
  simp only [List.getElem_toArray, List.getElem_cons_succ, List.getElem_cons_zero, Act.put, List.setIfInBounds_toArray, List.set_cons_zero, List.set_cons_succ]
  refine wpAnyH_take (i := 11) (v := ?v8) rfl (by kernel_rfl) (by kernel_rfl) (by kernel_rfl) (fun _ _ _ h => h) (Or.inl ⟨rfl, fun w' hw' => ?h8⟩) hHeld ?r8
  case h8 =>
    go_simp
    try with_reducible rfl
  simp only [List.getElem_toArray, List.getElem_cons_succ, List.getElem_cons_zero, Act.put, List.setIfInBounds_toArray, List.set_cons_zero, List.set_cons_succ]
  refine wpAnyH_done (by kernel_rfl) ?_ _
  refine NoPanic.normal ?_
  clear hHeld
  have q9 : decide ((m : Int) < (N : Int) + (sz : Int)) = true := decide_eq_true (by omega)
  have HBF := Lib.hid (HBY.out.trans (HS5.out.mono hwY))
  go_wp2_with fail
  go_ret2
  exact ⟨rfl, HBF.out⟩
set_option maxHeartbeats 16000000 in
set_option maxRecDepth 100000 in
theorem alloc_yes {w : World} {b : Nat} {G : Option Nat} {os : List Ob} {m : Nat} (h : HpO w b G os m) (tn : Nat) (ps ns : List Int) (pv nv : Value) (hp : IsS w pv ps) (hn : IsS w nv ns) (ap : Apart pv b G) (an : Apart nv b G) (hpr : ∀ p ∈ ps, -9223372036854775808 ≤ p ∧ p ≤ 9223372036854775807)
    (hfit : fitF tn ps ns = true) (hbey : ps.any (bey os) = false) (hroom : total os + sizeF ps ns ≤ m) : Calls Try.prog 28 #[.pointer (some ⟨b, 0, none⟩), .int .i64 tn, pv, nv] w (RetHp (pair2 (total os) true) b G (os ++ [newO tn ps ns]) m w) := by
  obtain ⟨tn', e0, ht1, ht2, hpl, hnl, h5⟩ := fitF_spec hfit
  obtain rfl : tn' = tn := by omega
  have F44 := Lib.hid (fits_any tn' ps ns pv nv w hp hn (by omega) (by omega))
  have F45 := Lib.hid (containsFunc_o h pv ps hp (by omega) hpr)
  rw [hfit] at F44
  rw [hbey] at F45
  have hbl := h.1.lt
  have HH := Lib.hid h
  have hm := h.2.2.2
  have hsz : sizeF ps ns = (newO tn' ps ns).size := by rw [newO_size]; rfl
  have hszb : (newO tn' ps ns).size ≤ 121 := by rw [newO_size]; omega
  have F47 := Lib.hid (fun W => headOf_any tn' ps.length ns.length (by omega) (by omega) (by omega) W)
  rw [show max 2 (1 + ps.length + ns.length) = (newO tn' ps ns).size by rw [newO_size]] at F47
  rw [hsz] at hroom
  have HP := Lib.hid hp
  have HNS := Lib.hid hn
  have hv : ∀ p ∈ ps, bey os p = false := by
    intro p hp
    cases hb : bey os p with
    | false => rfl
    | true => rw [List.any_eq_true.2 ⟨p, hp, hb⟩] at hbey; cases hbey
  have F50 := Lib.hid (fun W (hb : Below w.heap.size w W) => put_o (h.below hb) tn' ps ns pv nv (hp.below hb) (hn.below hb) ap an ht1 ht2 hpl hnl h5 hv hroom)
  have F48 := Lib.hid (fun W (hb : Below w.heap.size w W) => end_any (h.below hb).1)
  rw [wds_length] at F48
  have HMC : Hid (∀ W, Below w.heap.size w W → W.cell? ⟨b, 1, none⟩ = some (.int .i64 m)) := fun W hb => by obtain ⟨_, _, _, h1, _⟩ := (h.below hb).1.cell; exact h1
  obtain ⟨pa, pc, rfl, hpc, _⟩ := hp
  obtain ⟨na, nc, rfl, hnc, _⟩ := hn
  generalize os ++ [newO tn' ps ns] = os2 at F50 ⊢
  obtain ⟨sz, hszd⟩ : ∃ sz, sz = (newO tn' ps ns).size := ⟨_, rfl⟩
  rw [← hszd] at hszb hroom F47 F50
  have F49 := Lib.hid (fun W => size_any tn' ps.length ns.length sz (by omega) W)
  clear hszd hsz h hpr hfit hbey e0 h5 hv ap an
  obtain ⟨p, hpd⟩ : ∃ p, p = ps.length := ⟨_, rfl⟩
  obtain ⟨n, hnd⟩ : ∃ n, n = ns.length := ⟨_, rfl⟩
  rw [← hpd] at hpc hpl F44 F45 F47 F49 F50 ⊢
  rw [← hnd] at hnc hnl F44 F47 F49 F50 ⊢
  clear hpd hnd
  obtain ⟨N, hN⟩ : ∃ N, N = total os := ⟨_, rfl⟩
  rw [← hN] at hroom hm F48 F50 ⊢
  clear hN
  go_enter Try.func28, Try.ntmps28
  go_wp2_with fail
  refine F44.out.mono ?_
  rintro e w1 ⟨rfl, rfl⟩
  clear F44
  go_wp2_with fail
  refine F45.out.mono ?_
  rintro e w1 ⟨rfl, hb1⟩
  have HB1 := Lib.hid hb1
  clear F45 hb1
  go_wp2_with fail
  refine (F47.out _).mono ?_
  rintro e w2 ⟨rfl, hb2⟩
  have HB2 := Lib.hid (HB1.out.trans (hb2.mono HB1.out.size))
  clear F47 hb2 HB1
  go_upto_region 4 with fail
  have hs2 : w.heap.size ≤ w2.heap.size := HB2.out.size
  have hx : (w2.alloc (.cells #[.int .u8 tn', .int .u8 p, .int .u8 n, .int .u8 sz] 77)).heap[w2.heap.size]? = some (.cells #[.int .u8 tn', .int .u8 p, .int .u8 n, .int .u8 sz] 77 (0, 0)) := alloc_at _ _
  have hbY : Below w.heap.size w (w2.alloc (.cells #[.int .u8 tn', .int .u8 p, .int .u8 n, .int .u8 sz] 77)) := HB2.out.alloc hs2 _
  have hsY : (w2.alloc (.cells #[.int .u8 tn', .int .u8 p, .int .u8 n, .int .u8 sz] 77)).heap.size = w2.heap.size + 1 := by simp
  generalize w2.alloc (.cells #[.int .u8 tn', .int .u8 p, .int .u8 n, .int .u8 sz] 77) = Y at hx hbY hsY ⊢
  have hgx : w2.heap.size < Y.heap.size := by omega
  clear hsY
  generalize w2.heap.size = gx at hx hgx hs2 ⊢
  have HX := Lib.hid hx
  have HBY := Lib.hid hbY
  have hwY : w.heap.size ≤ Y.heap.size := hbY.size
  have HC : Hid (∀ w', Below Y.heap.size Y w' → w'.cell? ⟨b, 1, none⟩ = some (.int .i64 m) ∧ w'.rangeAt gx 0 [.int .u8 tn', .int .u8 p, .int .u8 n, .int .u8 sz]) := fun w' hw' =>
    ⟨HMC.out w' (HBY.out.trans (hw'.mono hwY)), box_range (by rw [hw'.block _ hgx]; exact HX.out)⟩
  clear hx hbY HB2
  refine wp_region_noPanic ?_
  refine wp_region_held_drew (S := Below Y.heap.size Y) (by kernel_rfl) ((Below.refl _ _).drew) (fun hHeld => ?_)
  generalize Y.drew = X at hHeld ⊢
  have hb0 : Y.heap.size ≤ X.heap.size := hHeld.size
  refine wpAnyH_take (i := 0) (v := ?v9) rfl (by kernel_rfl) (by kernel_rfl) (by kernel_rfl) (fun _ _ _ h => h) (Or.inl ⟨rfl, fun w' hw' => ?h9⟩) hHeld ?r9
  case h9 =>
    go_simp
    try with_reducible rfl
  simp only [List.getElem_toArray, List.getElem_cons_succ, List.getElem_cons_zero, Act.put, List.setIfInBounds_toArray, List.set_cons_zero, List.set_cons_succ]
  refine wpAnyH_take (i := 1) (v := ?v10) rfl (by kernel_rfl) (by kernel_rfl) (by kernel_rfl) (fun _ _ _ h => h) (Or.inl ⟨rfl, fun w' hw' => ?h10⟩) hHeld ?r10
  case h10 =>
    go_simp
    try with_reducible rfl
  simp only [List.getElem_toArray, List.getElem_cons_succ, List.getElem_cons_zero, Act.put, List.setIfInBounds_toArray, List.set_cons_zero, List.set_cons_succ]
  refine wpAnyH_take (i := 2) (v := ?v11) rfl (by kernel_rfl) (by kernel_rfl) (by kernel_rfl) (fun _ _ _ h => h) (Or.inl ⟨rfl, fun w' hw' => ?h11⟩) hHeld ?r11
  case h11 =>
    go_simp
    try with_reducible rfl
  simp only [List.getElem_toArray, List.getElem_cons_succ, List.getElem_cons_zero, Act.put, List.setIfInBounds_toArray, List.set_cons_zero, List.set_cons_succ]
  refine wpAnyH_take (i := 4) rfl (by kernel_rfl) (by kernel_rfl) (by kernel_rfl) (fun _ _ _ h => h) (yieldsIf_load_mid (by rfl) _ _ rfl gx 0 rfl [.int .u8 tn', .int .u8 p, .int .u8 n, .int .u8 sz] _ (fun w' hw' => (HC.out w' hw').2) Try.underlying77 rfl info55) hHeld ?_
  simp only [List.getElem_toArray, List.getElem_cons_succ, List.getElem_cons_zero, Act.put, List.setIfInBounds_toArray, List.set_cons_zero, List.set_cons_succ]
  refine wpAnyH_take (i := 7) (v := ?v12) rfl (by kernel_rfl) (by kernel_rfl) (by kernel_rfl) (fun _ _ _ h => h) (Or.inl ⟨rfl, fun w' hw' => ?h12⟩) hHeld ?r12
  case h12 =>
    go_simp
    try with_reducible rfl
  simp only [List.getElem_toArray, List.getElem_cons_succ, List.getElem_cons_zero, Act.put, List.setIfInBounds_toArray, List.set_cons_zero, List.set_cons_succ]
  refine wpAnyH_take (i := 8) (v := ?v13) rfl (by kernel_rfl) (by kernel_rfl) (by kernel_rfl) (fun _ _ _ h => h) (Or.inl ⟨rfl, fun w' hw' => ?h13⟩) hHeld ?r13
  case h13 =>
    go_simp
    try with_reducible rfl
  simp only [List.getElem_toArray, List.getElem_cons_succ, List.getElem_cons_zero, Act.put, List.setIfInBounds_toArray, List.set_cons_zero, List.set_cons_succ]
  refine wpAnyH_take (i := 9) (v := ?v14) rfl (by kernel_rfl) (by kernel_rfl) (by kernel_rfl) (fun _ _ _ h => h) (Or.inl ⟨rfl, fun w' hw' => ?h14⟩) hHeld ?r14
  case h14 =>
    go_simp
    try with_reducible rfl
  simp only [List.getElem_toArray, List.getElem_cons_succ, List.getElem_cons_zero, Act.put, List.setIfInBounds_toArray, List.set_cons_zero, List.set_cons_succ]
  refine wpAnyH_take (i := 10) (v := ?v15) rfl (by kernel_rfl) (by kernel_rfl) (by kernel_rfl) (fun _ _ _ h => h) (Or.inl ⟨rfl, fun w' hw' => ?h15⟩) hHeld ?r15
  case h15 =>
    (obtain ⟨d0, _⟩ := HC.out w' hw'; go_simp)
    try with_reducible rfl
  simp only [List.getElem_toArray, List.getElem_cons_succ, List.getElem_cons_zero, Act.put, List.setIfInBounds_toArray, List.set_cons_zero, List.set_cons_succ]
  refine wpAnyH_ready (rs := [3]) (by kernel_rfl) (by simp) ?_
  refine (AllReadyH.cons rfl (fun K hK => ?_) AllReadyH.nil)
  go_simp
  refine (F48.out X (HBY.out.trans (hHeld.mono hwY))).mono ?_
  rintro e w5 ⟨rfl, rfl⟩
  refine hK.out _ _ hHeld (fun hHeld => ?_)
  clear hK K
  try simp only [List.getElem_toArray, List.getElem_cons_succ, List.getElem_cons_zero, Act.put, List.setIfInBounds_toArray, List.set_cons_zero, List.set_cons_succ]
  refine wpAnyH_ready (rs := [5]) (by kernel_rfl) (by simp) ?_
  refine (AllReadyH.cons rfl (fun K hK => ?_) AllReadyH.nil)
  go_simp
  refine (F49.out X).mono ?_
  rintro e w5 ⟨rfl, hw5⟩
  have hS5 : Below Y.heap.size Y w5 := hHeld.trans (hw5.mono hb0)
  have HS5 := Lib.hid hS5
  refine hK.out _ _ hS5 (fun hHeld => ?_)
  clear hw5 hS5
  clear hK K
  try simp only [List.getElem_toArray, List.getElem_cons_succ, List.getElem_cons_zero, Act.put, List.setIfInBounds_toArray, List.set_cons_zero, List.set_cons_succ]
  refine wpAnyH_take (i := 6) (v := Value.int .i64 ((N : Int) + (sz : Nat))) rfl (by kernel_rfl) (by kernel_rfl) (by kernel_rfl) (fun _ _ _ h => h) (Or.inl ⟨rfl, fun w' hw' => ?_⟩) hHeld ?_
  · (go_simp; try (rw [IntKind.wrap_i64]; omega))
  simp only [List.getElem_toArray, List.getElem_cons_succ, List.getElem_cons_zero, Act.put, List.setIfInBounds_toArray, List.set_cons_zero, List.set_cons_succ]
  refine wpAnyH_take (i := 11) (v := ?v17) rfl (by kernel_rfl) (by kernel_rfl) (by kernel_rfl) (fun _ _ _ h => h) (Or.inl ⟨rfl, fun w' hw' => ?h17⟩) hHeld ?r17
  case h17 =>
    go_simp
    try with_reducible rfl
  simp only [List.getElem_toArray, List.getElem_cons_succ, List.getElem_cons_zero, Act.put, List.setIfInBounds_toArray, List.set_cons_zero, List.set_cons_succ]
  refine wpAnyH_done (by kernel_rfl) ?_ _
  refine NoPanic.normal ?_
  clear hHeld
  have q9 : decide ((m : Int) < (N : Int) + (sz : Int)) = false := decide_eq_false (by omega)
  clear hb0
  go_upto_region 6 with fail
  have hY5 : Y.heap.size ≤ w5.heap.size := HS5.out.size
  refine wp_region_noPanic ?_
  refine wp_region_late (S := Below Y.heap.size Y) (fun i => i == 6) (by kernel_rfl) (HS5.out.drew) (fun hHeld => ?_)
  generalize w5.drew = X9 at hHeld ⊢
  have HZ := Lib.hid (HBY.out.trans (hHeld.mono hwY))
  refine wpAnyL_take (B := [1, 2, 6, 7, 8]) (i := 0) (v := ?v19) rfl (by kernel_rfl) (by kernel_rfl) (by kernel_rfl) (by kernel_rfl) (fun _ _ _ h => h) (Or.inl ⟨rfl, fun w' hw' => ?h19⟩) hHeld ?r19
  case h19 =>
    go_simp
    try with_reducible rfl
  simp only [List.getElem_toArray, List.getElem_cons_succ, List.getElem_cons_zero, Act.put, List.setIfInBounds_toArray, List.set_cons_zero, List.set_cons_succ]
  refine wpAnyL_take (B := [2, 6, 7, 8]) (i := 1) (v := ?v21) rfl (by kernel_rfl) (by kernel_rfl) (by kernel_rfl) (by kernel_rfl) (fun _ _ _ h => h) (Or.inl ⟨rfl, fun w' hw' => ?h21⟩) hHeld ?r21
  case h21 =>
    go_simp
    try with_reducible rfl
  simp only [List.getElem_toArray, List.getElem_cons_succ, List.getElem_cons_zero, Act.put, List.setIfInBounds_toArray, List.set_cons_zero, List.set_cons_succ]
  refine wpAnyL_take (B := [6, 7, 8]) (i := 2) (v := ?v23) rfl (by kernel_rfl) (by kernel_rfl) (by kernel_rfl) (by kernel_rfl) (fun _ _ _ h => h) (Or.inl ⟨rfl, fun w' hw' => ?h23⟩) hHeld ?r23
  case h23 =>
    go_simp
    try with_reducible rfl
  simp only [List.getElem_toArray, List.getElem_cons_succ, List.getElem_cons_zero, Act.put, List.setIfInBounds_toArray, List.set_cons_zero, List.set_cons_succ]
  refine wpAnyL_take (B := [6, 7, 8]) (i := 3) rfl (by kernel_rfl) (by kernel_rfl) (by kernel_rfl) (by kernel_rfl) (fun _ _ _ h => h) (yieldsIf_load_mid (by rfl) _ _ rfl gx 0 rfl [.int .u8 tn', .int .u8 p, .int .u8 n, .int .u8 sz] _ (fun w' hw' => (HC.out w' hw').2) Try.underlying77 rfl info55) hHeld ?_
  simp only [List.getElem_toArray, List.getElem_cons_succ, List.getElem_cons_zero, Act.put, List.setIfInBounds_toArray, List.set_cons_zero, List.set_cons_succ]
  refine wpAnyL_take (B := [6, 7, 8]) (i := 4) (v := ?v25) rfl (by kernel_rfl) (by kernel_rfl) (by kernel_rfl) (by kernel_rfl) (fun _ _ _ h => h) (Or.inl ⟨rfl, fun w' hw' => ?h25⟩) hHeld ?r25
  case h25 =>
    go_simp
    try with_reducible rfl
  simp only [List.getElem_toArray, List.getElem_cons_succ, List.getElem_cons_zero, Act.put, List.setIfInBounds_toArray, List.set_cons_zero, List.set_cons_succ]
  refine wpAnyL_take (B := [6, 7, 8]) (i := 5) (v := ?v27) rfl (by kernel_rfl) (by kernel_rfl) (by kernel_rfl) (by kernel_rfl) (fun _ _ _ h => h) (Or.inl ⟨rfl, fun w' hw' => ?h27⟩) hHeld ?r27
  case h27 =>
    go_simp
    try with_reducible rfl
  simp only [List.getElem_toArray, List.getElem_cons_succ, List.getElem_cons_zero, Act.put, List.setIfInBounds_toArray, List.set_cons_zero, List.set_cons_succ]
  refine wpAnyL_ready (rs := [6]) (by kernel_rfl) (by simp) ?_
  refine (AllL.last (S2 := fun _ => True) rfl rfl (fun K hK => ?_) AllL.nil)
  go_simp
  refine (F50.out X9 HZ.out).mono ?_
  rintro e w9 ⟨rfl, G9, ho9, hf9, hg9⟩
  have HO9 := Lib.hid ho9
  have HF9 := Lib.hid hf9
  have HG9 := Lib.hid hg9
  clear ho9 hf9 hg9
  refine hK.out _ _ trivial (fun hHeld => ?_)
  clear hK K
  try simp only [List.getElem_toArray, List.getElem_cons_succ, List.getElem_cons_zero, Act.put, List.setIfInBounds_toArray, List.set_cons_zero, List.set_cons_succ]
  refine wpAnyH_take (i := 7) (v := ?v28) rfl (by kernel_rfl) (by kernel_rfl) (by kernel_rfl) (fun _ _ _ h => h) (Or.inl ⟨rfl, fun w' hw' => ?h28⟩) hHeld ?r28
  case h28 =>
    go_simp
    try with_reducible rfl
  simp only [List.getElem_toArray, List.getElem_cons_succ, List.getElem_cons_zero, Act.put, List.setIfInBounds_toArray, List.set_cons_zero, List.set_cons_succ]
  refine wpAnyH_take (i := 8) (v := ?v29) rfl (by kernel_rfl) (by kernel_rfl) (by kernel_rfl) (fun _ _ _ h => h) (Or.inl ⟨rfl, fun w' hw' => ?h29⟩) hHeld ?r29
  case h29 =>
    go_simp
    try with_reducible rfl
  simp only [List.getElem_toArray, List.getElem_cons_succ, List.getElem_cons_zero, Act.put, List.setIfInBounds_toArray, List.set_cons_zero, List.set_cons_succ]
  refine wpAnyH_done (by kernel_rfl) ?_ _
  refine NoPanic.normal ?_
  clear hHeld
  go_wp2_with fail
  go_ret2
  have hb9 := HZ.out
  exact ⟨rfl, G9, HO9.out, (Fr.of_below hb9).trans HF9.out (fun _ _ h => h), fun k hk => by rcases HG9.out k hk with h | h; exact .inl h; exact .inr (by have := hb9.size; omega)⟩
end Go.Proofs.Ytkekekdkfjjifaa
namespace Go.Proofs.Ytkekekdkfjjifaa
open Go Go.RowKit
set_option linter.unusedVariables false
set_option linter.unusedSimpArgs false
theorem own_isS {w : World} {B : Nat} {v : Value} {n : Nat} {xs : List Int} (h : w.ownsRow B 3 1 v n (xs.map (Value.int .i64))) : IsS w v xs := by
  have hl : n = xs.length := by have := h.1; simpa using this.symm
  rcases h.2 with ⟨rfl, h0⟩ | ⟨g, cap, cur, rfl, hb, hh, hn, hm, hs, ht⟩
  · refine ⟨none, 0, by rw [← hl, h0], by omega, .inl ⟨rfl, List.eq_nil_of_length_eq_zero (by omega)⟩⟩
  · refine ⟨_, cap, by rw [← hl], by omega, .inr ⟨g, 0, rfl, fun i hi => ?_⟩⟩
    rw [Nat.zero_add, cell_of_row _ _ _ _ _ _ hh, ← Array.getElem?_toList]
    have h1 : (cur.toList.take (n * 1))[i]? = some (.int .i64 xs[i]) := by rw [ht, List.getElem?_map, List.getElem?_eq_getElem hi]; rfl
    rw [List.getElem?_take] at h1
    split at h1
    · exact h1
    · cases h1
theorem nil_isS (w : World) : IsS w (.slice none 0 0) [] := ⟨none, 0, rfl, Nat.le_refl _, .inl ⟨rfl, rfl⟩⟩
theorem block_isS {w : World} {g : Nat} {l : List Int} {T : TypeId} {fz : Nat × Nat} (h : w.heap[g]? = some (.cells (ivals l) T fz)) : IsS w (.slice (some ⟨g, 0, none⟩) l.length l.length) l :=
  ⟨_, _, rfl, Nat.le_refl _, .inr ⟨g, 0, rfl, fun i hi => by
    rw [cell_of_row _ _ _ _ _ _ h, Nat.zero_add]
    unfold ivals
    rw [List.getElem?_toArray, List.getElem?_map, List.getElem?_eq_getElem hi]; rfl⟩⟩
def EqInv (xs ys : List Int) (w : World) (iv : Value) (wr : World) : Prop := ∃ j : Nat, j ≤ xs.length ∧ iv = .int .i64 (j : Int) ∧ xs.take j = ys.take j ∧ Below w.heap.size w wr
set_option maxHeartbeats 8000000 in
set_option maxRecDepth 100000 in
theorem ints_any (w : World) (xv yv : Value) (xs ys : List Int) (hx : IsS w xv xs) (hy : IsS w yv ys) (hl : xs.length ≤ 1000000) (hl2 : ys.length ≤ 1000000) : Calls Try.prog 18 #[xv, yv] w (RetV (.bool (decide (xs = ys))) w) := by
  have HX := Lib.hid hx
  have HY := Lib.hid hy
  obtain ⟨xa, xc, rfl, hxc, _⟩ := hx
  obtain ⟨ya, yc, rfl, hyc, _⟩ := hy
  by_cases hlen : xs.length = ys.length
  · obtain ⟨n, hn⟩ : ∃ n, n = xs.length := ⟨_, rfl⟩
    have hn2 : n = ys.length := by omega
    have HN := Lib.hid hn
    have HN2 := Lib.hid hn2
    rw [← hn] at hl hxc ⊢
    rw [← hn2] at hl2 hyc ⊢
    clear hlen hn hn2
    have H0 : Hid (EqInv xs ys w (.int .i64 0) w) := ⟨0, Nat.zero_le _, rfl, by simp, Below.refl _ _⟩
    go_enter Try.func18, Try.ntmps18
    go_wp2_with fail
    go_loopw [5] (fun iv wr => EqInv xs ys w iv wr) (fun iv _ => n - (intOf iv).toNat)
    case atStart => exact H0.out
    case round =>
      clear H0
      obtain ⟨j, hj, rfl, ht, hbel⟩ := hrel
      rw [← HN.out] at hj
      have HT := Lib.hid ht
      have HB := Lib.hid hbel
      clear ht hbel
      by_cases hjn : j < n
      · have q1 : decide ((j : Int) < (n : Int)) = true := decide_eq_true (by omega)
        have hjx : j < xs.length := by rw [← HN.out]; exact hjn
        have hjy : j < ys.length := by rw [← HN2.out]; exact hjn
        obtain ⟨xa', xc', e1, _, hr⟩ := HX.out.below HB.out
        obtain ⟨ya', yc', f1, _, hs⟩ := HY.out.below HB.out
        injection e1 with e1 e2 e3
        injection f1 with f1 f2 f3
        rcases hr with ⟨_, e⟩ | ⟨g, o, e4, hc⟩
        · have := HN.out; rw [e] at this; simp at this; omega
        rcases hs with ⟨_, e⟩ | ⟨g', o', f4, hd⟩
        · have := HN2.out; rw [e] at this; simp at this; omega
        rw [← e1] at e4
        rw [← f1] at f4
        subst e4 f4
        have c0 := hc j hjx
        have d0 := hd j hjy
        have hg1 : g < wr.heap.size := World.block_lt_of_cell? wr _ c0
        have hg2 : g' < wr.heap.size := World.block_lt_of_cell? wr _ d0
        have HNX : Hid (xs[j] = ys[j] → xs.take (j + 1) = ys.take (j + 1)) := fun e => by rw [List.take_succ_eq_append_getElem hjx, List.take_succ_eq_append_getElem hjy, HT.out, e]
        have HNE : Hid (xs[j] ≠ ys[j] → xs ≠ ys) := fun e h => by subst h; exact e rfl
        generalize xs[j] = x at c0 HNX HNE
        generalize ys[j] = y at d0 HNX HNE
        have HC : Hid (∀ w', Below wr.heap.size wr w' → w'.cell? ⟨g, o + j, none⟩ = some (.int .i64 x) ∧ w'.cell? ⟨g', o' + j, none⟩ = some (.int .i64 y)) := fun w' hw' => ⟨(hw'.cell (p := ⟨g, o + j, none⟩) hg1).trans c0, (hw'.cell (p := ⟨g', o' + j, none⟩) hg2).trans d0⟩
        clear e1 e2 e3 f1 f2 f3 hc hd c0 d0
        go_upto_region 6 with fail
        refine wp_region_noPanic ?_
        refine wp_region_held_drew (S := Below wr.heap.size wr) (by kernel_rfl) ((Below.refl _ _).drew) (fun hHeld => ?_)
        generalize wr.drew = X at hHeld ⊢
        have HBX := Lib.hid (HB.out.trans (hHeld.mono HB.out.size))
        refine wpAnyH_take (i := 0) (v := ?v0) rfl (by kernel_rfl) (by kernel_rfl) (by kernel_rfl) (fun _ _ _ h => h) (Or.inl ⟨rfl, fun w' hw' => ?h0⟩) hHeld ?r0
        case h0 =>
          go_simp
          try with_reducible rfl
        simp only [List.getElem_toArray, List.getElem_cons_succ, List.getElem_cons_zero, Act.put, List.setIfInBounds_toArray, List.set_cons_zero, List.set_cons_succ]
        refine wpAnyH_take (i := 1) (v := ?v1) rfl (by kernel_rfl) (by kernel_rfl) (by kernel_rfl) (fun _ _ _ h => h) (Or.inl ⟨rfl, fun w' hw' => ?h1⟩) hHeld ?r1
        case h1 =>
          go_simp
          try with_reducible rfl
        simp only [List.getElem_toArray, List.getElem_cons_succ, List.getElem_cons_zero, Act.put, List.setIfInBounds_toArray, List.set_cons_zero, List.set_cons_succ]
        refine wpAnyH_take (i := 2) (v := ?v2) rfl (by kernel_rfl) (by kernel_rfl) (by kernel_rfl) (fun _ _ _ h => h) (Or.inl ⟨rfl, fun w' hw' => ?h2⟩) hHeld ?r2
        case h2 =>
          go_simp
          try with_reducible rfl
        simp only [List.getElem_toArray, List.getElem_cons_succ, List.getElem_cons_zero, Act.put, List.setIfInBounds_toArray, List.set_cons_zero, List.set_cons_succ]
        refine wpAnyH_take (i := 3) (v := ?v3) rfl (by kernel_rfl) (by kernel_rfl) (by kernel_rfl) (fun _ _ _ h => h) (Or.inl ⟨rfl, fun w' hw' => ?h3⟩) hHeld ?r3
        case h3 =>
          (obtain ⟨d0, _⟩ := HC.out w' hw'; go_simp)
          try with_reducible rfl
        simp only [List.getElem_toArray, List.getElem_cons_succ, List.getElem_cons_zero, Act.put, List.setIfInBounds_toArray, List.set_cons_zero, List.set_cons_succ]
        refine wpAnyH_take (i := 4) (v := ?v4) rfl (by kernel_rfl) (by kernel_rfl) (by kernel_rfl) (fun _ _ _ h => h) (Or.inl ⟨rfl, fun w' hw' => ?h4⟩) hHeld ?r4
        case h4 =>
          go_simp
          try with_reducible rfl
        simp only [List.getElem_toArray, List.getElem_cons_succ, List.getElem_cons_zero, Act.put, List.setIfInBounds_toArray, List.set_cons_zero, List.set_cons_succ]
        refine wpAnyH_take (i := 5) (v := ?v5) rfl (by kernel_rfl) (by kernel_rfl) (by kernel_rfl) (fun _ _ _ h => h) (Or.inl ⟨rfl, fun w' hw' => ?h5⟩) hHeld ?r5
        case h5 =>
          go_simp
          try with_reducible rfl
        simp only [List.getElem_toArray, List.getElem_cons_succ, List.getElem_cons_zero, Act.put, List.setIfInBounds_toArray, List.set_cons_zero, List.set_cons_succ]
        refine wpAnyH_take (i := 6) (v := ?v6) rfl (by kernel_rfl) (by kernel_rfl) (by kernel_rfl) (fun _ _ _ h => h) (Or.inl ⟨rfl, fun w' hw' => ?h6⟩) hHeld ?r6
        case h6 =>
          go_simp
          try with_reducible rfl
        simp only [List.getElem_toArray, List.getElem_cons_succ, List.getElem_cons_zero, Act.put, List.setIfInBounds_toArray, List.set_cons_zero, List.set_cons_succ]
        refine wpAnyH_take (i := 7) (v := ?v7) rfl (by kernel_rfl) (by kernel_rfl) (by kernel_rfl) (fun _ _ _ h => h) (Or.inl ⟨rfl, fun w' hw' => ?h7⟩) hHeld ?r7
        case h7 =>
          (obtain ⟨_, d0⟩ := HC.out w' hw'; go_simp)
          try with_reducible rfl
        simp only [List.getElem_toArray, List.getElem_cons_succ, List.getElem_cons_zero, Act.put, List.setIfInBounds_toArray, List.set_cons_zero, List.set_cons_succ]
        refine wpAnyH_take (i := 8) (v := ?v8) rfl (by kernel_rfl) (by kernel_rfl) (by kernel_rfl) (fun _ _ _ h => h) (Or.inl ⟨rfl, fun w' hw' => ?h8⟩) hHeld ?r8
        case h8 =>
          go_simp
          try with_reducible rfl
        simp only [List.getElem_toArray, List.getElem_cons_succ, List.getElem_cons_zero, Act.put, List.setIfInBounds_toArray, List.set_cons_zero, List.set_cons_succ]
        refine wpAnyH_done (by kernel_rfl) ?_ _
        refine NoPanic.normal ?_
        clear hHeld
        by_cases hxy : x = y
        · have q3 : (x != y) = false := by simpa using hxy
          have HR := Lib.hid (HNX.out hxy)
          clear hxy
          go_wp2_with fail
          go_roundw
          case rel => exact ⟨j + 1, by rw [← HN.out]; omega, by go_num, HR.out, HBX.out⟩
          case measure => simp [intOf]; omega
        · have q3 : (x != y) = true := by simpa using hxy
          have HR : Hid (decide (xs = ys) = false) := decide_eq_false (HNE.out hxy)
          clear hxy
          go_wp2_with fail
          go_ret
          exact ⟨by rw [HR.out]; rfl, HBX.out⟩
      · have hjn2 : j = n := by omega
        subst hjn2
        have q1 : decide ((j : Int) < (j : Int)) = false := decide_eq_false (by omega)
        have HR : Hid (decide (xs = ys) = true) := by
          have h := HT.out
          rw [HN.out, List.take_length, ← HN.out, HN2.out, List.take_length] at h
          exact decide_eq_true h
        go_wp2_with fail
        go_ret
        exact ⟨by rw [HR.out]; rfl, HB.out⟩
  · have q0 : ((xs.length : Int) != (ys.length : Int)) = true := by simp; omega
    have HR : Hid (decide (xs = ys) = false) := decide_eq_false (fun e => hlen (by rw [e]))
    rw [HR.out]
    clear hlen
    go_enter Try.func18, Try.ntmps18
    go_wp2_with fail
    go_ret
    exact ⟨rfl, Below.refl _ _⟩
/-- A heap that was made behind the world B. -/
structure HL (B w : World) (b : Nat) (G : Option Nat) (os : List Ob) (m : Nat) : Prop where
  hp : HpO w b G os m
  bel : Below B.heap.size B w
  hb : B.heap.size ≤ b
  hg : ∀ k, G = some k → B.heap.size ≤ k
theorem HL.below {B w w' : World} {b : Nat} {G : Option Nat} {os : List Ob} {m : Nat} (h : HL B w b G os m) (hb : Below w.heap.size w w') : HL B w' b G os m := ⟨h.hp.below hb, h.bel.trans (hb.mono h.bel.size), h.hb, h.hg⟩
theorem HL.turn {B w w' : World} {b : Nat} {G : Option Nat} {os os' : List Ob} {m : Nat} {e : Ending} {v : Value} (h : HL B w b G os m) (hr : RetHp v b G os' m w e w') : e = .returned v ∧ ∃ G', HL B w' b G' os' m := by
  obtain ⟨he, G', h1, h2, h3⟩ := hr
  have hs := h.bel.size
  refine ⟨he, G', h1, h.bel.trans (h2.below (fun x hx h4 => ?_) hs), h.hb, fun k hk => ?_⟩
  · rcases h4 with h4 | h4
    · have := h.hb; omega
    · have := h.hg x h4; omega
  · rcases h3 k hk with h4 | h4
    · exact h.hg k h4
    · omega
theorem HL.new {B w : World} (hb : Below B.heap.size B w) (m : Nat) (hm : m ≤ 1000000) : HL B (w.alloc (.cells #[.slice none 0 0, .int .i64 m] 75)) w.heap.size none [] m :=
  ⟨⟨⟨_, alloc_at _ _, rfl, World.ownsRow_nil _ _ _ _, by simp [wds], by simp [wds]⟩, by intro o h; simp at h, by intro o h; simp at h, hm, Nat.zero_le _⟩, hb.alloc hb.size _, hb.size, fun k hk => by cases hk⟩
theorem apart_nil (b : Nat) (G : Option Nat) : Apart (.slice none 0 0) b G := fun ao n c g o e hn e2 => by injection e with e3 e4 e5; omega
theorem apart_lt {v : Value} {b : Nat} {G : Option Nat} {g0 n c : Nat} (hv : v = .slice (some ⟨g0, 0, none⟩) n c) (h1 : g0 ≠ b) (h2 : G ≠ some g0) : Apart v b G := fun ao n' c' g o e hn e2 => by
  rw [hv] at e
  injection e with e3 e4 e5
  rw [e2] at e3
  injection e3 with e3
  injection e3 with e6 e7
  subst e6
  exact ⟨h1, h2⟩
end Go.Proofs.Ytkekekdkfjjifaa
namespace Go.Proofs.Ytkekekdkfjjifaa
open Go Go.RowKit
set_option linter.unusedVariables false
set_option linter.unusedSimpArgs false
theorem ivals1 (x : Int) : ivals [x] = #[.int .i64 x] := rfl
theorem ivals2 (x y : Int) : ivals [x, y] = #[.int .i64 x, .int .i64 y] := rfl
/-- A row of one number that was just laid. -/
theorem one_isS (w : World) (x : Int) : IsS (w.alloc (.cells #[.int .i64 x] 3)) (.slice (some ⟨w.heap.size, 0, none⟩) 1 1) [x] := block_isS (l := [x]) (alloc_at w _)
theorem two_isS (w : World) (x y : Int) : IsS (w.alloc (.cells #[.int .i64 x, .int .i64 y] 3)) (.slice (some ⟨w.heap.size, 0, none⟩) 2 2) [x, y] := block_isS (l := [x, y]) (alloc_at w _)
theorem HL.apart {B w : World} {b : Nat} {G : Option Nat} {os : List Ob} {m : Nat} (h : HL B w b G os m) {n c : Nat} : Apart (.slice (some ⟨w.heap.size, 0, none⟩) n c) b G :=
  apart_lt rfl (by have := h.hp.1.lt; omega) (fun e => by have := (h.hp.1.glt _ e).1; omega)
theorem RetI.form {xs : List Int} {w w' : World} {e : Ending} (h : RetI xs w e w') : ∃ ao c, e = .returned (.slice ao xs.length c) ∧ w'.ownsRow w.heap.size 3 1 (.slice ao xs.length c) xs.length (xs.map (Value.int .i64)) ∧ Below w.heap.size w w' := by
  obtain ⟨v, rfl, h1, h2⟩ := h
  obtain ⟨ao, c, rfl⟩ := own_sform h1
  exact ⟨ao, c, rfl, h1, h2⟩
end Go.Proofs.Ytkekekdkfjjifaa
namespace Go.Proofs.Ytkekekdkfjjifaa
open Go Go.RowKit
set_option linter.unusedVariables false
set_option linter.unusedSimpArgs false
def I64 (a : Int) : Prop := -9223372036854775808 ≤ a ∧ a ≤ 9223372036854775807
theorem wf_I64 (a : Int) (h : (Lit.int .i64 a).wf = true) : I64 a := by
  simpa [Lit.wf, IntKind.min, IntKind.max, IntKind.signed, IntKind.bits, I64] using h
theorem within_at (a : Int) (n : Nat) (ha : I64 a) (h1 : 1 ≤ n) (h2 : n ≤ 1000) (w : World) : ∃ k : Nat, k < n ∧ (k : Int) = a % n ∧ Calls Try.prog 57 #[.int .i64 a, .int .i64 n] w fun e w' => e = .returned (.int .i64 (k : Int)) ∧ w = w' := by
  have h3 := Int.emod_nonneg a (show (n : Int) ≠ 0 by omega)
  have h4 := Int.emod_lt_of_pos a (show (0 : Int) < n by omega)
  refine ⟨(a % n).toNat, by omega, by omega, ?_⟩
  rw [show (((a % n).toNat : Nat) : Int) = a % n by omega]
  exact within_any a n w ha.1 ha.2 (by omega) (by omega)
theorem ints_eq {w : World} {xv yv : Value} {xs : List Int} (hx : IsS w xv xs) (hy : IsS w yv xs) (hl : xs.length ≤ 1000000) : Calls Try.prog 18 #[xv, yv] w (RetV (.bool true) w) := by
  have := ints_any w xv yv xs xs hx hy hl hl
  rw [decide_eq_true rfl] at this
  exact this
def IsRow (k : IntKind) (w : World) (a : Option Addr) (len cap : Nat) (zs : List Int) : Prop :=
  (a = none ∧ len = 0 ∧ cap = 0 ∧ zs = []) ∨
  ∃ x, a = some x ∧ len ≤ cap ∧ cap ≤ maxLen ∧ zs.length = cap ∧ (∀ i, i < zs.length → w.cell? (x.add i) = some (.int k (zs.getD i 0))) ∧ ∀ n ∈ zs, (Lit.int k n).wf = true
/-- Numbers that came in. -/
def ArgS (w : World) (a : Option Addr) (len : Nat) : Prop := len ≤ 9223372036854775807 ∧ ∀ i, i < len → ∃ x y, a = some x ∧ w.cell? (x.add i) = some (.int .i64 y) ∧ I64 y
theorem IsRow.arg {w : World} {a : Option Addr} {len cap : Nat} {zs : List Int} (h : IsRow .i64 w a len cap zs) : ArgS w a len := by
  rcases h with ⟨rfl, rfl, _, _⟩ | ⟨x, rfl, h1, h2, h3, h4, h5⟩
  · exact ⟨by omega, fun i hi => by omega⟩
  · refine ⟨by unfold maxLen at h2; omega, fun i hi => ⟨x, zs.getD i 0, rfl, h4 i (by omega), ?_⟩⟩
    rw [List.getD_eq_getElem?_getD, List.getElem?_eq_getElem (by omega)]
    exact wf_I64 _ (h5 _ (List.getElem_mem _))
theorem ArgS.below {w w' : World} {a : Option Addr} {len : Nat} (h : ArgS w a len) (hb : Below w.heap.size w w') : ArgS w' a len :=
  ⟨h.1, fun i hi => by
    obtain ⟨x, y, e, hc, hy⟩ := h.2 i hi
    exact ⟨x, y, e, (hb.cell (World.block_lt_of_cell? w _ hc)).trans hc, hy⟩⟩
def atom : Ob := newO 7 [] []
def atoms (i : Nat) : List Ob := List.replicate i atom
theorem atoms_total (i : Nat) : total (atoms i) = 2 * i := by
  induction i with
  | zero => rfl
  | succ i ih =>
    have e : atoms (i + 1) = atom :: atoms i := rfl
    rw [e]; simp only [total, ih]
    have : atom.size = 2 := by decide
    omega
theorem atoms_snoc (i : Nat) : atoms i ++ [newO 7 [] []] = atoms (i + 1) := by
  unfold atoms; rw [List.replicate_succ']; rfl
theorem ob_lt {os : List Ob} {a : Int} {o : Ob} (h : ob os a = some o) : 0 ≤ a ∧ a < total os := by
  obtain ⟨i, hi, h1, h2, rfl⟩ := ob_some h
  have := adr_le hi
  unfold Ob.size at this
  omega
theorem bey_over {os : List Ob} {a : Int} (h : total os < a) : bey os a = true := by
  unfold bey
  cases hb : ob os a with
  | some o => have := ob_lt hb; omega
  | none => simp; omega
theorem bey_end (os : List Ob) : bey os (total os : Nat) = false := by unfold bey; simp
theorem ob_new (os : List Ob) (o : Ob) : ob (os ++ [o]) (total os : Nat) = some o := by rw [ob_snoc, if_pos rfl]
theorem ptrs_new (os : List Ob) (t : Nat) (ps ns : List Int) : ptrsOf (os ++ [newO t ps ns]) (total os : Nat) = ps := by unfold ptrsOf; rw [ob_new]; exact newO_ptrs t ps ns
theorem nums_new (os : List Ob) (t : Nat) (ps ns : List Int) : numsOf (os ++ [newO t ps ns]) (total os : Nat) = ns := by unfold numsOf; rw [ob_new]; exact newO_nums t ps ns
theorem tag_new (os : List Ob) (t : Nat) (ps ns : List Int) : (hdo (os ++ [newO t ps ns]) (total os : Nat)).t = t := by unfold hdo; rw [ob_new]; rfl
theorem fol_new (os : List Ob) (t : Nat) (ps ns : List Int) (h : t ≠ 5) : folOf (os ++ [newO t ps ns]) (total os : Nat) = (total os : Nat) := by
  unfold folOf fol; rw [ob_new]; simp [newO, h]
def AtInv (B : World) (b m k : Nat) (w : World) (iv : Value) (wr : World) : Prop := ∃ i : Nat, i ≤ k ∧ iv = .int .i64 (i : Int) ∧ ∃ G, HL B wr b G (atoms i) m
/-- One atom more. -/
theorem atom_more {B w : World} {b : Nat} {G : Option Nat} {i m : Nat} (h : HL B w b G (atoms i) m) (hr : 2 * i + 2 ≤ m) :
    Calls Try.prog 28 #[.pointer (some ⟨b, 0, none⟩), .int .i64 7, .slice none 0 0, .slice none 0 0] w fun e w' => e = .returned (.tuple #[.int .i64 ((2 * i : Nat) : Int), .bool true]) ∧ ∃ G', HL B w' b G' (atoms (i + 1)) m := by
  have := alloc_yes h.hp 7 [] [] (.slice none 0 0) (.slice none 0 0) (nil_isS _) (nil_isS _) (apart_nil _ _) (apart_nil _ _) (by intro p hp; cases hp) (by decide) rfl (by rw [atoms_total]; exact hr)
  refine this.mono ?_
  intro e w' hr2
  obtain ⟨he, G', h'⟩ := h.turn hr2
  rw [atoms_snoc] at h'
  rw [atoms_total] at he
  exact ⟨he, G', h'⟩
end Go.Proofs.Ytkekekdkfjjifaa
namespace Go.Proofs.Ytkekekdkfjjifaa
open Go Go.RowKit
set_option linter.unusedVariables false
set_option linter.unusedSimpArgs false
theorem own_fr {F : Nat → Prop} {w w' : World} {B : Nat} {e : TypeId} {s : Nat} {v : Value} {n : Nat} {xs : List Value} (h : w.ownsRow B e s v n xs) (hf : Fr F w w') (hn : ∀ k, v.ownBlock = some k → ¬ F k) : w'.ownsRow B e s v n xs := by
  refine ⟨h.1, ?_⟩
  rcases h.2 with h | ⟨g, cap, cur, e1, hb, hh, r⟩
  · exact .inl h
  · exact .inr ⟨g, cap, cur, e1, hb, (hf.block g (Array.getElem?_eq_some_iff.1 hh).1 (hn g (by rw [e1]; rfl))).trans hh, r⟩
theorem own_below {w w' : World} {B : Nat} {e : TypeId} {s : Nat} {v : Value} {n : Nat} {xs : List Value} (h : w.ownsRow B e s v n xs) (hb : Below w.heap.size w w') : w'.ownsRow B e s v n xs :=
  own_fr (F := fun _ => False) h (Fr.of_below hb) (fun _ _ h => h)
theorem HL.fr {F : Nat → Prop} {B w w' : World} {b : Nat} {G : Option Nat} {os : List Ob} {m : Nat} (h : HL B w b G os m) (hf : Fr F w w') (h1 : ¬ F b) (h2 : ∀ k, G = some k → ¬ F k) (h3 : ∀ k, k < B.heap.size → ¬ F k) : HL B w' b G os m :=
  ⟨⟨h.hp.1.keep (hf.block _ h.hp.1.lt h1) (fun k hk => hf.block _ (h.hp.1.glt k hk).1 (h2 k hk)), h.hp.2⟩, h.bel.trans (hf.below h3 h.bel.size), h.hb, h.hg⟩
theorem own_at {w : World} {B : Nat} {v : Value} {n : Nat} {xs : List Int} (h : w.ownsRow B 3 1 v n (xs.map (Value.int .i64))) (h0 : 0 < n) : ∃ g c, v = .slice (some ⟨g, 0, none⟩) n c ∧ B ≤ g ∧ g < w.heap.size ∧ (∀ j, w.frozen? ⟨g, j, none⟩ = false) ∧ ∀ j (hj : j < xs.length), w.cell? ⟨g, j, none⟩ = some (.int .i64 xs[j]) := by
  have hs := own_isS h
  rcases h.2 with ⟨_, h1⟩ | ⟨g, cap, cur, rfl, hB, hh, _⟩
  · omega
  · refine ⟨g, cap, rfl, hB, (Array.getElem?_eq_some_iff.1 hh).1, fun j => frozen_of_row w g j _ _ hh, fun i hi => ?_⟩
    obtain ⟨ao, c, e, _, hr⟩ := hs
    injection e with e1 e2 e3
    rcases hr with ⟨h2, _⟩ | ⟨g', o, h2, h3⟩
    · rw [h2] at e1; cases e1
    · rw [h2] at e1
      injection e1 with e1
      injection e1 with e4 e5
      subst e4 e5
      have := h3 i hi
      rw [Nat.zero_add] at this
      exact this
end Go.Proofs.Ytkekekdkfjjifaa
