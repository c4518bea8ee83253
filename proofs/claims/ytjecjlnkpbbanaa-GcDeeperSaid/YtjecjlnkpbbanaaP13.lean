/- Alloc. -/
import Derived.Test.YtjecjlnkpbbanaaP12
namespace Go.Proofs.Ytjecjlnkpbbanaa
open Go Go.RowKit
set_option linter.unusedVariables false
set_option linter.unusedSimpArgs false
def sizeF (ps ns : List Int) : Nat := max 2 (1 + ps.length + ns.length)
def allocF (os : List Ob) (m : Nat) (t : Int) (ps ns : List Int) : Option (List Ob) :=
  if fitF t ps ns = true ∧ ps.any (bey os) = false ∧ total os + sizeF ps ns ≤ m then some (os ++ [newO t.toNat ps ns]) else none
theorem fitF_spec {t : Int} {ps ns : List Int} (h : fitF t ps ns = true) : ∃ tn : Nat, t = tn ∧ 1 ≤ tn ∧ tn ≤ 7 ∧ ps.length ≤ 60 ∧ ns.length ≤ 60 ∧ Shp tn ps ns := by
  unfold fitF at h
  simp only [Bool.and_eq_true, decide_eq_true_eq] at h
  obtain ⟨⟨h1, h2⟩, h3⟩ := h
  have : 1 ≤ t ∧ t ≤ 7 ∧ (t = 5 → ps.length = 1) ∧ (t = 2 → ps.length = 2) ∧ (t = 6 → ps.length = 1 ∧ (ns = [0] ∨ ns = [1])) ∧ (t = 5 ∨ t = 2 → ns = []) := by
    split at h3
    · rename_i e
      simp only [Bool.and_eq_true, decide_eq_true_eq] at h3
      exact ⟨by omega, by omega, by omega, fun _ => h3.1, by omega, fun _ => List.eq_nil_of_length_eq_zero h3.2⟩
    · split at h3
      · rename_i e
        simp only [Bool.and_eq_true, decide_eq_true_eq] at h3
        exact ⟨by omega, by omega, fun _ => h3.1, by omega, by omega, fun _ => List.eq_nil_of_length_eq_zero h3.2⟩
      · split at h3
        · rename_i e
          simp only [Bool.and_eq_true, Bool.or_eq_true, decide_eq_true_eq] at h3
          refine ⟨by omega, by omega, by omega, by omega, fun _ => ⟨h3.1.1, ?_⟩, by omega⟩
          obtain ⟨⟨_, h4⟩, h5⟩ := h3
          match ns, h4, h5 with
          | [x], _, .inl h => exact .inl (by rw [show x = 0 from h])
          | [x], _, .inr h => exact .inr (by rw [show x = 1 from h])
        · rename_i e1 e2 e3
          simp only [Bool.and_eq_true, decide_eq_true_eq] at h3
          exact ⟨h3.1, h3.2, fun e => absurd e e2, fun e => absurd e e1, fun e => absurd e e3, fun e => by rcases e with e | e; exact absurd e e2; exact absurd e e1⟩
  exact ⟨t.toNat, by omega, by omega, by omega, h1, h2, fun e => this.2.2.1 (by omega), fun e => this.2.2.2.1 (by omega), fun e => this.2.2.2.2.1 (by omega), fun e => this.2.2.2.2.2 (by omega)⟩
def pair2 (a : Int) (b : Bool) : Value := .tuple #[.int .i64 a, .bool b]
set_option maxHeartbeats 16000000 in
set_option maxRecDepth 100000 in
theorem alloc_unfit {w : World} {b : Nat} {G : Option Nat} {os : List Ob} {m : Nat} (h : HpO w b G os m) (t : Int) (ps ns : List Int) (pv nv : Value) (hp : IsS w pv ps) (hn : IsS w nv ns) (hpl : ps.length ≤ 1000000) (hnl : ns.length ≤ 1000000) (hpr : ∀ p ∈ ps, -9223372036854775808 ≤ p ∧ p ≤ 9223372036854775807)
    (hno : fitF t ps ns = false ∨ ps.any (bey os) = true) : Calls Try.prog 28 #[.pointer (some ⟨b, 0, none⟩), .int .i64 t, pv, nv] w (RetV (pair2 0 false) w) := by
  have F44 := Lib.hid (fits_any t ps ns pv nv w hp hn hpl hnl)
  have F45 := Lib.hid (containsFunc_o h pv ps hp hpl hpr)
  have hbl := h.1.lt
  obtain ⟨pa, pc, rfl, hpc, _⟩ := hp
  obtain ⟨na, nc, rfl, hnc, _⟩ := hn
  clear h hpr
  cases hf : fitF t ps ns with
  | false =>
    rw [hf] at F44
    clear hno hf
    go_enter Try.func28, Try.ntmps28
    go_wp2_with fail
    refine F44.out.mono ?_
    rintro e w1 ⟨rfl, rfl⟩
    clear F44
    go_wp2_with fail
    go_ret2
    exact ⟨rfl, Below.refl _ _⟩
  | true =>
    rw [hf] at F44
    have hb : ps.any (bey os) = true := by rcases hno with h | h; rw [hf] at h; cases h; exact h
    rw [hb] at F45
    clear hno hf hb
    go_enter Try.func28, Try.ntmps28
    go_wp2_with fail
    refine F44.out.mono ?_
    rintro e w1 ⟨rfl, rfl⟩
    clear F44
    go_wp2_with fail
    refine F45.out.mono ?_
    rintro e w1 ⟨rfl, hb1⟩
    have HB1 := Lib.hid hb1
    clear F45 hb1
    go_wp2_with fail
    go_ret2
    exact ⟨rfl, HB1.out⟩
set_option maxHeartbeats 16000000 in
set_option maxRecDepth 100000 in
theorem alloc_full {w : World} {b : Nat} {G : Option Nat} {os : List Ob} {m : Nat} (h : HpO w b G os m) (tn : Nat) (ps ns : List Int) (pv nv : Value) (hp : IsS w pv ps) (hn : IsS w nv ns) (hpr : ∀ p ∈ ps, -9223372036854775808 ≤ p ∧ p ≤ 9223372036854775807)
    (hfit : fitF tn ps ns = true) (hbey : ps.any (bey os) = false) (hroom : ¬ total os + sizeF ps ns ≤ m) : Calls Try.prog 28 #[.pointer (some ⟨b, 0, none⟩), .int .i64 tn, pv, nv] w (RetV (pair2 0 false) w) := by
  obtain ⟨tn', e0, ht1, ht2, hpl, hnl, h5⟩ := fitF_spec hfit
  obtain rfl : tn' = tn := by omega
  have F44 := Lib.hid (fits_any tn' ps ns pv nv w hp hn (by omega) (by omega))
  have F45 := Lib.hid (containsFunc_o h pv ps hp (by omega) hpr)
  rw [hfit] at F44
  rw [hbey] at F45
  have hbl := h.1.lt
  have HH := Lib.hid h
  have hm := h.2.2.2
  have hsz : sizeF ps ns = (newO tn' ps ns).size := by rw [newO_size]; rfl
  have hszb : (newO tn' ps ns).size ≤ 121 := by rw [newO_size]; omega
  have F47 := Lib.hid (fun W => headOf_any tn' ps.length ns.length (by omega) (by omega) (by omega) W)
  rw [show max 2 (1 + ps.length + ns.length) = (newO tn' ps ns).size by rw [newO_size]] at F47
  rw [hsz] at hroom
  have F48 := Lib.hid (fun W (hb : Below w.heap.size w W) => end_any (h.below hb).1)
  rw [wds_length] at F48
  have HMC : Hid (∀ W, Below w.heap.size w W → W.cell? ⟨b, 1, none⟩ = some (.int .i64 m)) := fun W hb => by obtain ⟨_, _, _, h1, _⟩ := (h.below hb).1.cell; exact h1
  obtain ⟨pa, pc, rfl, hpc, _⟩ := hp
  obtain ⟨na, nc, rfl, hnc, _⟩ := hn
  generalize os ++ [newO tn' ps ns] = os2 at ⊢
  obtain ⟨sz, hszd⟩ : ∃ sz, sz = (newO tn' ps ns).size := ⟨_, rfl⟩
  rw [← hszd] at hszb hroom F47 
  have F49 := Lib.hid (fun W => size_any tn' ps.length ns.length sz (by omega) W)
  clear hszd hsz h hpr hfit hbey e0 h5 
  obtain ⟨p, hpd⟩ : ∃ p, p = ps.length := ⟨_, rfl⟩
  obtain ⟨n, hnd⟩ : ∃ n, n = ns.length := ⟨_, rfl⟩
  rw [← hpd] at hpc hpl F44 F45 F47 F49  ⊢
  rw [← hnd] at hnc hnl F44 F47 F49  ⊢
  clear hpd hnd
  obtain ⟨N, hN⟩ : ∃ N, N = total os := ⟨_, rfl⟩
  rw [← hN] at hroom hm F48 
  clear hN
  go_enter Try.func28, Try.ntmps28
  go_wp2_with fail
  refine F44.out.mono ?_
  rintro e w1 ⟨rfl, rfl⟩
  clear F44
  go_wp2_with fail
  refine F45.out.mono ?_
  rintro e w1 ⟨rfl, hb1⟩
  have HB1 := Lib.hid hb1
  clear F45 hb1
  go_wp2_with fail
  refine (F47.out _).mono ?_
  rintro e w2 ⟨rfl, hb2⟩
  have HB2 := Lib.hid (HB1.out.trans (hb2.mono HB1.out.size))
  clear F47 hb2 HB1
  go_upto_region 4 with fail
  have hs2 : w.heap.size ≤ w2.heap.size := HB2.out.size
  have hx : (w2.alloc (.cells #[.int .u8 tn', .int .u8 p, .int .u8 n, .int .u8 sz] 77)).heap[w2.heap.size]? = some (.cells #[.int .u8 tn', .int .u8 p, .int .u8 n, .int .u8 sz] 77 (0, 0)) := alloc_at _ _
  have hbY : Below w.heap.size w (w2.alloc (.cells #[.int .u8 tn', .int .u8 p, .int .u8 n, .int .u8 sz] 77)) := HB2.out.alloc hs2 _
  have hsY : (w2.alloc (.cells #[.int .u8 tn', .int .u8 p, .int .u8 n, .int .u8 sz] 77)).heap.size = w2.heap.size + 1 := by simp
  generalize w2.alloc (.cells #[.int .u8 tn', .int .u8 p, .int .u8 n, .int .u8 sz] 77) = Y at hx hbY hsY ⊢
  have hgx : w2.heap.size < Y.heap.size := by omega
  clear hsY
  generalize w2.heap.size = gx at hx hgx hs2 ⊢
  have HX := Lib.hid hx
  have HBY := Lib.hid hbY
  have hwY : w.heap.size ≤ Y.heap.size := hbY.size
  have HC : Hid (∀ w', Below Y.heap.size Y w' → w'.cell? ⟨b, 1, none⟩ = some (.int .i64 m) ∧ w'.rangeAt gx 0 [.int .u8 tn', .int .u8 p, .int .u8 n, .int .u8 sz]) := fun w' hw' =>
    ⟨HMC.out w' (HBY.out.trans (hw'.mono hwY)), box_range (by rw [hw'.block _ hgx]; exact HX.out)⟩
  clear hx hbY HB2
  refine wp_region_noPanic ?_
  refine wp_region_held_drew (S := Below Y.heap.size Y) (by kernel_rfl) ((Below.refl _ _).drew) (fun hHeld => ?_)
  generalize Y.drew = X at hHeld ⊢
  have hb0 : Y.heap.size ≤ X.heap.size := hHeld.size
  refine wpAnyH_take (i := 0) (v := ?v0) rfl (by kernel_rfl) (by kernel_rfl) (by kernel_rfl) (fun _ _ _ h => h) (Or.inl ⟨rfl, fun w' hw' => ?h0⟩) hHeld ?r0
  case h0 =>
    go_simp
    try with_reducible rfl
  simp only [List.getElem_toArray, List.getElem_cons_succ, List.getElem_cons_zero, Act.put, List.setIfInBounds_toArray, List.set_cons_zero, List.set_cons_succ]
  refine wpAnyH_take (i := 1) (v := ?v1) rfl (by kernel_rfl) (by kernel_rfl) (by kernel_rfl) (fun _ _ _ h => h) (Or.inl ⟨rfl, fun w' hw' => ?h1⟩) hHeld ?r1
  case h1 =>
    go_simp
    try with_reducible rfl
  simp only [List.getElem_toArray, List.getElem_cons_succ, List.getElem_cons_zero, Act.put, List.setIfInBounds_toArray, List.set_cons_zero, List.set_cons_succ]
  refine wpAnyH_take (i := 2) (v := ?v2) rfl (by kernel_rfl) (by kernel_rfl) (by kernel_rfl) (fun _ _ _ h => h) (Or.inl ⟨rfl, fun w' hw' => ?h2⟩) hHeld ?r2
  case h2 =>
    go_simp
    try with_reducible rfl
  simp only [List.getElem_toArray, List.getElem_cons_succ, List.getElem_cons_zero, Act.put, List.setIfInBounds_toArray, List.set_cons_zero, List.set_cons_succ]
  refine wpAnyH_take (i := 4) rfl (by kernel_rfl) (by kernel_rfl) (by kernel_rfl) (fun _ _ _ h => h) (yieldsIf_load_mid (by rfl) _ _ rfl gx 0 rfl [.int .u8 tn', .int .u8 p, .int .u8 n, .int .u8 sz] _ (fun w' hw' => (HC.out w' hw').2) Try.underlying77 rfl info55) hHeld ?_
  simp only [List.getElem_toArray, List.getElem_cons_succ, List.getElem_cons_zero, Act.put, List.setIfInBounds_toArray, List.set_cons_zero, List.set_cons_succ]
  refine wpAnyH_take (i := 7) (v := ?v3) rfl (by kernel_rfl) (by kernel_rfl) (by kernel_rfl) (fun _ _ _ h => h) (Or.inl ⟨rfl, fun w' hw' => ?h3⟩) hHeld ?r3
  case h3 =>
    go_simp
    try with_reducible rfl
  simp only [List.getElem_toArray, List.getElem_cons_succ, List.getElem_cons_zero, Act.put, List.setIfInBounds_toArray, List.set_cons_zero, List.set_cons_succ]
  refine wpAnyH_take (i := 8) (v := ?v4) rfl (by kernel_rfl) (by kernel_rfl) (by kernel_rfl) (fun _ _ _ h => h) (Or.inl ⟨rfl, fun w' hw' => ?h4⟩) hHeld ?r4
  case h4 =>
    go_simp
    try with_reducible rfl
  simp only [List.getElem_toArray, List.getElem_cons_succ, List.getElem_cons_zero, Act.put, List.setIfInBounds_toArray, List.set_cons_zero, List.set_cons_succ]
  refine wpAnyH_take (i := 9) (v := ?v5) rfl (by kernel_rfl) (by kernel_rfl) (by kernel_rfl) (fun _ _ _ h => h) (Or.inl ⟨rfl, fun w' hw' => ?h5⟩) hHeld ?r5
  case h5 =>
    go_simp
    try with_reducible rfl
  simp only [List.getElem_toArray, List.getElem_cons_succ, List.getElem_cons_zero, Act.put, List.setIfInBounds_toArray, List.set_cons_zero, List.set_cons_succ]
  refine wpAnyH_take (i := 10) (v := ?v6) rfl (by kernel_rfl) (by kernel_rfl) (by kernel_rfl) (fun _ _ _ h => h) (Or.inl ⟨rfl, fun w' hw' => ?h6⟩) hHeld ?r6
  case h6 =>
    (obtain ⟨d0, _⟩ := HC.out w' hw'; go_simp)
    try with_reducible rfl
  simp only [List.getElem_toArray, List.getElem_cons_succ, List.getElem_cons_zero, Act.put, List.setIfInBounds_toArray, List.set_cons_zero, List.set_cons_succ]
  refine wpAnyH_ready (rs := [3]) (by kernel_rfl) (by simp) ?_
  refine (AllReadyH.cons rfl (fun K hK => ?_) AllReadyH.nil)
  go_simp
  refine (F48.out X (HBY.out.trans (hHeld.mono hwY))).mono ?_
  rintro e w5 ⟨rfl, rfl⟩
  refine hK.out _ _ hHeld (fun hHeld => ?_)
  clear hK K
  try simp only [List.getElem_toArray, List.getElem_cons_succ, List.getElem_cons_zero, Act.put, List.setIfInBounds_toArray, List.set_cons_zero, List.set_cons_succ]
  refine wpAnyH_ready (rs := [5]) (by kernel_rfl) (by simp) ?_
  refine (AllReadyH.cons rfl (fun K hK => ?_) AllReadyH.nil)
  go_simp
  refine (F49.out X).mono ?_
  rintro e w5 ⟨rfl, hw5⟩
  have hS5 : Below Y.heap.size Y w5 := hHeld.trans (hw5.mono hb0)
  have HS5 := Lib.hid hS5
  refine hK.out _ _ hS5 (fun hHeld => ?_)
  clear hw5 hS5
  clear hK K
  try simp only [List.getElem_toArray, List.getElem_cons_succ, List.getElem_cons_zero, Act.put, List.setIfInBounds_toArray, List.set_cons_zero, List.set_cons_succ]
  refine wpAnyH_take (i := 6) (v := Value.int .i64 ((N : Int) + (sz : Nat))) rfl (by kernel_rfl) (by kernel_rfl) (by kernel_rfl) (fun _ _ _ h => h) (Or.inl ⟨rfl, fun w' hw' => ?_⟩) hHeld ?_
  · (go_simp; try (rw [IntKind.wrap_i64]; omega))
  simp only [List.getElem_toArray, List.getElem_cons_succ, List.getElem_cons_zero, Act.put, List.setIfInBounds_toArray, List.set_cons_zero, List.set_cons_succ]
  refine wpAnyH_take (i := 11) (v := ?v8) rfl (by kernel_rfl) (by kernel_rfl) (by kernel_rfl) (fun _ _ _ h => h) (Or.inl ⟨rfl, fun w' hw' => ?h8⟩) hHeld ?r8
  case h8 =>
    go_simp
    try with_reducible rfl
  simp only [List.getElem_toArray, List.getElem_cons_succ, List.getElem_cons_zero, Act.put, List.setIfInBounds_toArray, List.set_cons_zero, List.set_cons_succ]
  refine wpAnyH_done (by kernel_rfl) ?_ _
  refine NoPanic.normal ?_
  clear hHeld
  have q9 : decide ((m : Int) < (N : Int) + (sz : Int)) = true := decide_eq_true (by omega)
  have HBF := Lib.hid (HBY.out.trans (HS5.out.mono hwY))
  go_wp2_with fail
  go_ret2
  exact ⟨rfl, HBF.out⟩
set_option maxHeartbeats 16000000 in
set_option maxRecDepth 100000 in
theorem alloc_yes {w : World} {b : Nat} {G : Option Nat} {os : List Ob} {m : Nat} (h : HpO w b G os m) (tn : Nat) (ps ns : List Int) (pv nv : Value) (hp : IsS w pv ps) (hn : IsS w nv ns) (ap : Apart pv b G) (an : Apart nv b G) (hpr : ∀ p ∈ ps, -9223372036854775808 ≤ p ∧ p ≤ 9223372036854775807)
    (hfit : fitF tn ps ns = true) (hbey : ps.any (bey os) = false) (hroom : total os + sizeF ps ns ≤ m) : Calls Try.prog 28 #[.pointer (some ⟨b, 0, none⟩), .int .i64 tn, pv, nv] w (RetHp (pair2 (total os) true) b G (os ++ [newO tn ps ns]) m w) := by
  obtain ⟨tn', e0, ht1, ht2, hpl, hnl, h5⟩ := fitF_spec hfit
  obtain rfl : tn' = tn := by omega
  have F44 := Lib.hid (fits_any tn' ps ns pv nv w hp hn (by omega) (by omega))
  have F45 := Lib.hid (containsFunc_o h pv ps hp (by omega) hpr)
  rw [hfit] at F44
  rw [hbey] at F45
  have hbl := h.1.lt
  have HH := Lib.hid h
  have hm := h.2.2.2
  have hsz : sizeF ps ns = (newO tn' ps ns).size := by rw [newO_size]; rfl
  have hszb : (newO tn' ps ns).size ≤ 121 := by rw [newO_size]; omega
  have F47 := Lib.hid (fun W => headOf_any tn' ps.length ns.length (by omega) (by omega) (by omega) W)
  rw [show max 2 (1 + ps.length + ns.length) = (newO tn' ps ns).size by rw [newO_size]] at F47
  rw [hsz] at hroom
  have HP := Lib.hid hp
  have HNS := Lib.hid hn
  have hv : ∀ p ∈ ps, bey os p = false := by
    intro p hp
    cases hb : bey os p with
    | false => rfl
    | true => rw [List.any_eq_true.2 ⟨p, hp, hb⟩] at hbey; cases hbey
  have F50 := Lib.hid (fun W (hb : Below w.heap.size w W) => put_o (h.below hb) tn' ps ns pv nv (hp.below hb) (hn.below hb) ap an ht1 ht2 hpl hnl h5 hv hroom)
  have F48 := Lib.hid (fun W (hb : Below w.heap.size w W) => end_any (h.below hb).1)
  rw [wds_length] at F48
  have HMC : Hid (∀ W, Below w.heap.size w W → W.cell? ⟨b, 1, none⟩ = some (.int .i64 m)) := fun W hb => by obtain ⟨_, _, _, h1, _⟩ := (h.below hb).1.cell; exact h1
  obtain ⟨pa, pc, rfl, hpc, _⟩ := hp
  obtain ⟨na, nc, rfl, hnc, _⟩ := hn
  generalize os ++ [newO tn' ps ns] = os2 at F50 ⊢
  obtain ⟨sz, hszd⟩ : ∃ sz, sz = (newO tn' ps ns).size := ⟨_, rfl⟩
  rw [← hszd] at hszb hroom F47 F50
  have F49 := Lib.hid (fun W => size_any tn' ps.length ns.length sz (by omega) W)
  clear hszd hsz h hpr hfit hbey e0 h5 hv ap an
  obtain ⟨p, hpd⟩ : ∃ p, p = ps.length := ⟨_, rfl⟩
  obtain ⟨n, hnd⟩ : ∃ n, n = ns.length := ⟨_, rfl⟩
  rw [← hpd] at hpc hpl F44 F45 F47 F49 F50 ⊢
  rw [← hnd] at hnc hnl F44 F47 F49 F50 ⊢
  clear hpd hnd
  obtain ⟨N, hN⟩ : ∃ N, N = total os := ⟨_, rfl⟩
  rw [← hN] at hroom hm F48 F50 ⊢
  clear hN
  go_enter Try.func28, Try.ntmps28
  go_wp2_with fail
  refine F44.out.mono ?_
  rintro e w1 ⟨rfl, rfl⟩
  clear F44
  go_wp2_with fail
  refine F45.out.mono ?_
  rintro e w1 ⟨rfl, hb1⟩
  have HB1 := Lib.hid hb1
  clear F45 hb1
  go_wp2_with fail
  refine (F47.out _).mono ?_
  rintro e w2 ⟨rfl, hb2⟩
  have HB2 := Lib.hid (HB1.out.trans (hb2.mono HB1.out.size))
  clear F47 hb2 HB1
  go_upto_region 4 with fail
  have hs2 : w.heap.size ≤ w2.heap.size := HB2.out.size
  have hx : (w2.alloc (.cells #[.int .u8 tn', .int .u8 p, .int .u8 n, .int .u8 sz] 77)).heap[w2.heap.size]? = some (.cells #[.int .u8 tn', .int .u8 p, .int .u8 n, .int .u8 sz] 77 (0, 0)) := alloc_at _ _
  have hbY : Below w.heap.size w (w2.alloc (.cells #[.int .u8 tn', .int .u8 p, .int .u8 n, .int .u8 sz] 77)) := HB2.out.alloc hs2 _
  have hsY : (w2.alloc (.cells #[.int .u8 tn', .int .u8 p, .int .u8 n, .int .u8 sz] 77)).heap.size = w2.heap.size + 1 := by simp
  generalize w2.alloc (.cells #[.int .u8 tn', .int .u8 p, .int .u8 n, .int .u8 sz] 77) = Y at hx hbY hsY ⊢
  have hgx : w2.heap.size < Y.heap.size := by omega
  clear hsY
  generalize w2.heap.size = gx at hx hgx hs2 ⊢
  have HX := Lib.hid hx
  have HBY := Lib.hid hbY
  have hwY : w.heap.size ≤ Y.heap.size := hbY.size
  have HC : Hid (∀ w', Below Y.heap.size Y w' → w'.cell? ⟨b, 1, none⟩ = some (.int .i64 m) ∧ w'.rangeAt gx 0 [.int .u8 tn', .int .u8 p, .int .u8 n, .int .u8 sz]) := fun w' hw' =>
    ⟨HMC.out w' (HBY.out.trans (hw'.mono hwY)), box_range (by rw [hw'.block _ hgx]; exact HX.out)⟩
  clear hx hbY HB2
  refine wp_region_noPanic ?_
  refine wp_region_held_drew (S := Below Y.heap.size Y) (by kernel_rfl) ((Below.refl _ _).drew) (fun hHeld => ?_)
  generalize Y.drew = X at hHeld ⊢
  have hb0 : Y.heap.size ≤ X.heap.size := hHeld.size
  refine wpAnyH_take (i := 0) (v := ?v9) rfl (by kernel_rfl) (by kernel_rfl) (by kernel_rfl) (fun _ _ _ h => h) (Or.inl ⟨rfl, fun w' hw' => ?h9⟩) hHeld ?r9
  case h9 =>
    go_simp
    try with_reducible rfl
  simp only [List.getElem_toArray, List.getElem_cons_succ, List.getElem_cons_zero, Act.put, List.setIfInBounds_toArray, List.set_cons_zero, List.set_cons_succ]
  refine wpAnyH_take (i := 1) (v := ?v10) rfl (by kernel_rfl) (by kernel_rfl) (by kernel_rfl) (fun _ _ _ h => h) (Or.inl ⟨rfl, fun w' hw' => ?h10⟩) hHeld ?r10
  case h10 =>
    go_simp
    try with_reducible rfl
  simp only [List.getElem_toArray, List.getElem_cons_succ, List.getElem_cons_zero, Act.put, List.setIfInBounds_toArray, List.set_cons_zero, List.set_cons_succ]
  refine wpAnyH_take (i := 2) (v := ?v11) rfl (by kernel_rfl) (by kernel_rfl) (by kernel_rfl) (fun _ _ _ h => h) (Or.inl ⟨rfl, fun w' hw' => ?h11⟩) hHeld ?r11
  case h11 =>
    go_simp
    try with_reducible rfl
  simp only [List.getElem_toArray, List.getElem_cons_succ, List.getElem_cons_zero, Act.put, List.setIfInBounds_toArray, List.set_cons_zero, List.set_cons_succ]
  refine wpAnyH_take (i := 4) rfl (by kernel_rfl) (by kernel_rfl) (by kernel_rfl) (fun _ _ _ h => h) (yieldsIf_load_mid (by rfl) _ _ rfl gx 0 rfl [.int .u8 tn', .int .u8 p, .int .u8 n, .int .u8 sz] _ (fun w' hw' => (HC.out w' hw').2) Try.underlying77 rfl info55) hHeld ?_
  simp only [List.getElem_toArray, List.getElem_cons_succ, List.getElem_cons_zero, Act.put, List.setIfInBounds_toArray, List.set_cons_zero, List.set_cons_succ]
  refine wpAnyH_take (i := 7) (v := ?v12) rfl (by kernel_rfl) (by kernel_rfl) (by kernel_rfl) (fun _ _ _ h => h) (Or.inl ⟨rfl, fun w' hw' => ?h12⟩) hHeld ?r12
  case h12 =>
    go_simp
    try with_reducible rfl
  simp only [List.getElem_toArray, List.getElem_cons_succ, List.getElem_cons_zero, Act.put, List.setIfInBounds_toArray, List.set_cons_zero, List.set_cons_succ]
  refine wpAnyH_take (i := 8) (v := ?v13) rfl (by kernel_rfl) (by kernel_rfl) (by kernel_rfl) (fun _ _ _ h => h) (Or.inl ⟨rfl, fun w' hw' => ?h13⟩) hHeld ?r13
  case h13 =>
    go_simp
    try with_reducible rfl
  simp only [List.getElem_toArray, List.getElem_cons_succ, List.getElem_cons_zero, Act.put, List.setIfInBounds_toArray, List.set_cons_zero, List.set_cons_succ]
  refine wpAnyH_take (i := 9) (v := ?v14) rfl (by kernel_rfl) (by kernel_rfl) (by kernel_rfl) (fun _ _ _ h => h) (Or.inl ⟨rfl, fun w' hw' => ?h14⟩) hHeld ?r14
  case h14 =>
    go_simp
    try with_reducible rfl
  simp only [List.getElem_toArray, List.getElem_cons_succ, List.getElem_cons_zero, Act.put, List.setIfInBounds_toArray, List.set_cons_zero, List.set_cons_succ]
  refine wpAnyH_take (i := 10) (v := ?v15) rfl (by kernel_rfl) (by kernel_rfl) (by kernel_rfl) (fun _ _ _ h => h) (Or.inl ⟨rfl, fun w' hw' => ?h15⟩) hHeld ?r15
  case h15 =>
    (obtain ⟨d0, _⟩ := HC.out w' hw'; go_simp)
    try with_reducible rfl
  simp only [List.getElem_toArray, List.getElem_cons_succ, List.getElem_cons_zero, Act.put, List.setIfInBounds_toArray, List.set_cons_zero, List.set_cons_succ]
  refine wpAnyH_ready (rs := [3]) (by kernel_rfl) (by simp) ?_
  refine (AllReadyH.cons rfl (fun K hK => ?_) AllReadyH.nil)
  go_simp
  refine (F48.out X (HBY.out.trans (hHeld.mono hwY))).mono ?_
  rintro e w5 ⟨rfl, rfl⟩
  refine hK.out _ _ hHeld (fun hHeld => ?_)
  clear hK K
  try simp only [List.getElem_toArray, List.getElem_cons_succ, List.getElem_cons_zero, Act.put, List.setIfInBounds_toArray, List.set_cons_zero, List.set_cons_succ]
  refine wpAnyH_ready (rs := [5]) (by kernel_rfl) (by simp) ?_
  refine (AllReadyH.cons rfl (fun K hK => ?_) AllReadyH.nil)
  go_simp
  refine (F49.out X).mono ?_
  rintro e w5 ⟨rfl, hw5⟩
  have hS5 : Below Y.heap.size Y w5 := hHeld.trans (hw5.mono hb0)
  have HS5 := Lib.hid hS5
  refine hK.out _ _ hS5 (fun hHeld => ?_)
  clear hw5 hS5
  clear hK K
  try simp only [List.getElem_toArray, List.getElem_cons_succ, List.getElem_cons_zero, Act.put, List.setIfInBounds_toArray, List.set_cons_zero, List.set_cons_succ]
  refine wpAnyH_take (i := 6) (v := Value.int .i64 ((N : Int) + (sz : Nat))) rfl (by kernel_rfl) (by kernel_rfl) (by kernel_rfl) (fun _ _ _ h => h) (Or.inl ⟨rfl, fun w' hw' => ?_⟩) hHeld ?_
  · (go_simp; try (rw [IntKind.wrap_i64]; omega))
  simp only [List.getElem_toArray, List.getElem_cons_succ, List.getElem_cons_zero, Act.put, List.setIfInBounds_toArray, List.set_cons_zero, List.set_cons_succ]
  refine wpAnyH_take (i := 11) (v := ?v17) rfl (by kernel_rfl) (by kernel_rfl) (by kernel_rfl) (fun _ _ _ h => h) (Or.inl ⟨rfl, fun w' hw' => ?h17⟩) hHeld ?r17
  case h17 =>
    go_simp
    try with_reducible rfl
  simp only [List.getElem_toArray, List.getElem_cons_succ, List.getElem_cons_zero, Act.put, List.setIfInBounds_toArray, List.set_cons_zero, List.set_cons_succ]
  refine wpAnyH_done (by kernel_rfl) ?_ _
  refine NoPanic.normal ?_
  clear hHeld
  have q9 : decide ((m : Int) < (N : Int) + (sz : Int)) = false := decide_eq_false (by omega)
  clear hb0
  go_upto_region 6 with fail
  have hY5 : Y.heap.size ≤ w5.heap.size := HS5.out.size
  refine wp_region_noPanic ?_
  refine wp_region_late (S := Below Y.heap.size Y) (fun i => i == 6) (by kernel_rfl) (HS5.out.drew) (fun hHeld => ?_)
  generalize w5.drew = X9 at hHeld ⊢
  have HZ := Lib.hid (HBY.out.trans (hHeld.mono hwY))
  refine wpAnyL_take (B := [1, 2, 6, 7, 8]) (i := 0) (v := ?v19) rfl (by kernel_rfl) (by kernel_rfl) (by kernel_rfl) (by kernel_rfl) (fun _ _ _ h => h) (Or.inl ⟨rfl, fun w' hw' => ?h19⟩) hHeld ?r19
  case h19 =>
    go_simp
    try with_reducible rfl
  simp only [List.getElem_toArray, List.getElem_cons_succ, List.getElem_cons_zero, Act.put, List.setIfInBounds_toArray, List.set_cons_zero, List.set_cons_succ]
  refine wpAnyL_take (B := [2, 6, 7, 8]) (i := 1) (v := ?v21) rfl (by kernel_rfl) (by kernel_rfl) (by kernel_rfl) (by kernel_rfl) (fun _ _ _ h => h) (Or.inl ⟨rfl, fun w' hw' => ?h21⟩) hHeld ?r21
  case h21 =>
    go_simp
    try with_reducible rfl
  simp only [List.getElem_toArray, List.getElem_cons_succ, List.getElem_cons_zero, Act.put, List.setIfInBounds_toArray, List.set_cons_zero, List.set_cons_succ]
  refine wpAnyL_take (B := [6, 7, 8]) (i := 2) (v := ?v23) rfl (by kernel_rfl) (by kernel_rfl) (by kernel_rfl) (by kernel_rfl) (fun _ _ _ h => h) (Or.inl ⟨rfl, fun w' hw' => ?h23⟩) hHeld ?r23
  case h23 =>
    go_simp
    try with_reducible rfl
  simp only [List.getElem_toArray, List.getElem_cons_succ, List.getElem_cons_zero, Act.put, List.setIfInBounds_toArray, List.set_cons_zero, List.set_cons_succ]
  refine wpAnyL_take (B := [6, 7, 8]) (i := 3) rfl (by kernel_rfl) (by kernel_rfl) (by kernel_rfl) (by kernel_rfl) (fun _ _ _ h => h) (yieldsIf_load_mid (by rfl) _ _ rfl gx 0 rfl [.int .u8 tn', .int .u8 p, .int .u8 n, .int .u8 sz] _ (fun w' hw' => (HC.out w' hw').2) Try.underlying77 rfl info55) hHeld ?_
  simp only [List.getElem_toArray, List.getElem_cons_succ, List.getElem_cons_zero, Act.put, List.setIfInBounds_toArray, List.set_cons_zero, List.set_cons_succ]
  refine wpAnyL_take (B := [6, 7, 8]) (i := 4) (v := ?v25) rfl (by kernel_rfl) (by kernel_rfl) (by kernel_rfl) (by kernel_rfl) (fun _ _ _ h => h) (Or.inl ⟨rfl, fun w' hw' => ?h25⟩) hHeld ?r25
  case h25 =>
    go_simp
    try with_reducible rfl
  simp only [List.getElem_toArray, List.getElem_cons_succ, List.getElem_cons_zero, Act.put, List.setIfInBounds_toArray, List.set_cons_zero, List.set_cons_succ]
  refine wpAnyL_take (B := [6, 7, 8]) (i := 5) (v := ?v27) rfl (by kernel_rfl) (by kernel_rfl) (by kernel_rfl) (by kernel_rfl) (fun _ _ _ h => h) (Or.inl ⟨rfl, fun w' hw' => ?h27⟩) hHeld ?r27
  case h27 =>
    go_simp
    try with_reducible rfl
  simp only [List.getElem_toArray, List.getElem_cons_succ, List.getElem_cons_zero, Act.put, List.setIfInBounds_toArray, List.set_cons_zero, List.set_cons_succ]
  refine wpAnyL_ready (rs := [6]) (by kernel_rfl) (by simp) ?_
  refine (AllL.last (S2 := fun _ => True) rfl rfl (fun K hK => ?_) AllL.nil)
  go_simp
  refine (F50.out X9 HZ.out).mono ?_
  rintro e w9 ⟨rfl, G9, ho9, hf9, hg9⟩
  have HO9 := Lib.hid ho9
  have HF9 := Lib.hid hf9
  have HG9 := Lib.hid hg9
  clear ho9 hf9 hg9
  refine hK.out _ _ trivial (fun hHeld => ?_)
  clear hK K
  try simp only [List.getElem_toArray, List.getElem_cons_succ, List.getElem_cons_zero, Act.put, List.setIfInBounds_toArray, List.set_cons_zero, List.set_cons_succ]
  refine wpAnyH_take (i := 7) (v := ?v28) rfl (by kernel_rfl) (by kernel_rfl) (by kernel_rfl) (fun _ _ _ h => h) (Or.inl ⟨rfl, fun w' hw' => ?h28⟩) hHeld ?r28
  case h28 =>
    go_simp
    try with_reducible rfl
  simp only [List.getElem_toArray, List.getElem_cons_succ, List.getElem_cons_zero, Act.put, List.setIfInBounds_toArray, List.set_cons_zero, List.set_cons_succ]
  refine wpAnyH_take (i := 8) (v := ?v29) rfl (by kernel_rfl) (by kernel_rfl) (by kernel_rfl) (fun _ _ _ h => h) (Or.inl ⟨rfl, fun w' hw' => ?h29⟩) hHeld ?r29
  case h29 =>
    go_simp
    try with_reducible rfl
  simp only [List.getElem_toArray, List.getElem_cons_succ, List.getElem_cons_zero, Act.put, List.setIfInBounds_toArray, List.set_cons_zero, List.set_cons_succ]
  refine wpAnyH_done (by kernel_rfl) ?_ _
  refine NoPanic.normal ?_
  clear hHeld
  go_wp2_with fail
  go_ret2
  have hb9 := HZ.out
  exact ⟨rfl, G9, HO9.out, (Fr.of_below hb9).trans HF9.out (fun _ _ h => h), fun k hk => by rcases HG9.out k hk with h | h; exact .inl h; exact .inr (by have := hb9.size; omega)⟩
end Go.Proofs.Ytjecjlnkpbbanaa
