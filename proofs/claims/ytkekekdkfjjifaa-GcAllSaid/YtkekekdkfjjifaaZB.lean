/- Ptrs, Nums. -/
import Derived.Test.YtkekekdkfjjifaaZA
namespace Go.Proofs.Ytkekekdkfjjifaa
open Go Go.RowKit
set_option linter.unusedVariables false
set_option linter.unusedSimpArgs false
/-- A block's whole row. -/
theorem box_range {w : World} {g : Nat} {cs : Array Value} {T : TypeId} (h : w.heap[g]? = some (.cells cs T (0, 0))) : w.rangeAt g 0 cs.toList := fun j v hj => by
  rw [Nat.zero_add, cell_of_row w g j _ _ _ h]; simpa using hj
def ptrsOf (os : List Ob) (a : Int) : List Int := match ob os a with | some o => o.ptrs | none => []
def numsOf (os : List Ob) (a : Int) : List Int := match ob os a with | some o => o.nums | none => []
theorem ptrsOf_len {os : List Ob} (hk : Oks os) (a : Int) : (ptrsOf os a).length = (hdo os a).p := by
  unfold ptrsOf hdo
  cases h : ob os a with
  | none => rfl
  | some o => 
    have := (hk o (ob_mem h)).pn
    simp [Ob.ptrs, Ob.head]; omega
theorem numsOf_len {os : List Ob} (hk : Oks os) (a : Int) : (numsOf os a).length = (hdo os a).n := by
  unfold numsOf hdo
  cases h : ob os a with
  | none => rfl
  | some o => 
    have := (hk o (ob_mem h)).pn
    simp [Ob.nums, Ob.head]; omega
theorem ptrs_words {os : List Ob} (hk : Oks os) (a : Int) (i : Nat) (hi : i < (ptrsOf os a).length) : 0 ≤ a + 1 ∧ (wds os)[(a + 1).toNat + i]? = some ⟨0, 0, 0, 0, (ptrsOf os a)[i]⟩ := by
  have hlen := ptrsOf_len hk a
  obtain ⟨l, hl⟩ : ∃ l, l = ptrsOf os a := ⟨_, rfl⟩
  have hi' : i < l.length := by rw [hl]; exact hi
  have e : (ptrsOf os a)[i] = l[i] := by simp only [hl]
  rw [e]
  unfold ptrsOf at hl
  cases h : ob os a with
  | none => rw [h] at hl; simp only at hl; subst hl; simp at hi'
  | some o =>
    rw [h] at hl
    obtain ⟨k, hkl, h1, h2, rfl⟩ := ob_some h
    have hok := (hk _ (ob_mem h)).pn
    simp only [Ob.ptrs] at hl
    subst hl
    simp only [List.length_take] at hi'
    have hb : i < os[k].body.length := by omega
    refine ⟨by omega, ?_⟩
    rw [h2, show ((adr os k : Nat) + 1 : Int).toNat + i = adr os k + 1 + i by omega, wds_body hkl i hb, List.getElem_take]
theorem nums_words {os : List Ob} (hk : Oks os) (a : Int) (i : Nat) (hi : i < (numsOf os a).length) : 0 ≤ a + 1 + (hdo os a).p ∧ (wds os)[(a + 1 + (hdo os a).p).toNat + i]? = some ⟨0, 0, 0, 0, (numsOf os a)[i]⟩ := by
  obtain ⟨l, hl⟩ : ∃ l, l = numsOf os a := ⟨_, rfl⟩
  have hi' : i < l.length := by rw [hl]; exact hi
  have e : (numsOf os a)[i] = l[i] := by simp only [hl]
  rw [e]
  unfold numsOf at hl
  cases h : ob os a with
  | none => rw [h] at hl; simp only at hl; subst hl; simp at hi'
  | some o =>
    rw [h] at hl
    have hp : (hdo os a).p = o.np := by unfold hdo; rw [h]; rfl
    rw [hp]
    obtain ⟨k, hkl, h1, h2, rfl⟩ := ob_some h
    have hok := (hk _ (ob_mem h)).pn
    simp only [Ob.nums] at hl
    subst hl
    simp only [List.length_take, List.length_drop] at hi'
    have hb : os[k].np + i < os[k].body.length := by omega
    refine ⟨by omega, ?_⟩
    rw [h2, show ((adr os k : Nat) + 1 + (os[k].np : Nat) : Int).toNat + i = adr os k + 1 + (os[k].np + i) by omega, wds_body hkl _ hb, List.getElem_take, List.getElem_drop]
theorem own_less {w : World} {B B' : Nat} {e : TypeId} {s : Nat} {v : Value} {n : Nat} {xs : List Value} (h : w.ownsRow B e s v n xs) (hB : B' ≤ B) : w.ownsRow B' e s v n xs := by
  refine ⟨h.1, ?_⟩
  rcases h.2 with h | ⟨g, cap, cur, e1, hb, r⟩
  · exact .inl h
  · exact .inr ⟨g, cap, cur, e1, by omega, r⟩
set_option maxHeartbeats 8000000 in
set_option maxRecDepth 100000 in
theorem ptrs_o {w : World} {b : Nat} {G : Option Nat} {os : List Ob} {m : Nat} (h : HpO w b G os m) (a : Int) (ha : -1000000000 ≤ a) (hb : a ≤ 1000000000) :
    Calls Try.prog 23 #[.pointer (some ⟨b, 0, none⟩), .int .i64 a] w (RetI (ptrsOf os a) w) := by
  have F40 := Lib.hid (fun W (hb : Below w.heap.size w W) => head_o (h.below hb) a (by omega) (by omega))
  have hlen := ptrsOf_len h.2.1 a
  have hlow := (hdo_low h.2.1 a).2.1
  have hl60 : (hdo os a).p ≤ 60 := by
    unfold hdo
    cases h2 : ob os a with
    | none => simp
    | some o => exact (h.2.1 o (ob_mem h2)).p
  have F51 := Lib.hid (fun W (hb : Below w.heap.size w W) => values_any (h.below hb) (a + 1) (ptrsOf os a) (by omega) (by omega) (fun i hi => ptrs_words h.2.1 a i hi) (by rw [hlen]; omega))
  rw [hlen] at F51
  have F52 := Lib.hid (fun W => ptrs_any (hdo os a).t (hdo os a).p (hdo os a).n (hdo os a).s hlow W)
  have hbl := h.1.lt
  generalize hdo os a = x at F40 F51 F52
  clear hlen hlow hl60 h
  go_enter Try.func23, Try.ntmps23
  go_upto_region 1 with fail
  refine wp_region_noPanic ?_
  refine wp_region_held_drew (S := Below w.heap.size w) (by kernel_rfl) ((Below.refl _ _).drew) (fun hHeld => ?_)
  generalize w.drew = X at hHeld ⊢
  have hb0 : w.heap.size ≤ X.heap.size := hHeld.size
  refine wpAnyH_take (i := 0) (v := ?v0) rfl (by kernel_rfl) (by kernel_rfl) (by kernel_rfl) (fun _ _ _ h => h) (Or.inl ⟨rfl, fun w' hw' => ?h0⟩) hHeld ?r0
  case h0 =>
    go_simp
    try with_reducible rfl
  simp only [List.getElem_toArray, List.getElem_cons_succ, List.getElem_cons_zero, Act.put, List.setIfInBounds_toArray, List.set_cons_zero, List.set_cons_succ]
  refine wpAnyH_take (i := 1) (v := ?v1) rfl (by kernel_rfl) (by kernel_rfl) (by kernel_rfl) (fun _ _ _ h => h) (Or.inl ⟨rfl, fun w' hw' => ?h1⟩) hHeld ?r1
  case h1 =>
    go_simp
    try with_reducible rfl
  simp only [List.getElem_toArray, List.getElem_cons_succ, List.getElem_cons_zero, Act.put, List.setIfInBounds_toArray, List.set_cons_zero, List.set_cons_succ]
  refine wpAnyH_take (i := 2) (v := ?v2) rfl (by kernel_rfl) (by kernel_rfl) (by kernel_rfl) (fun _ _ _ h => h) (Or.inl ⟨rfl, fun w' hw' => ?h2⟩) hHeld ?r2
  case h2 =>
    go_simp
    try with_reducible rfl
  simp only [List.getElem_toArray, List.getElem_cons_succ, List.getElem_cons_zero, Act.put, List.setIfInBounds_toArray, List.set_cons_zero, List.set_cons_succ]
  refine wpAnyH_take (i := 3) (v := ?v3) rfl (by kernel_rfl) (by kernel_rfl) (by kernel_rfl) (fun _ _ _ h => h) (Or.inl ⟨rfl, fun w' hw' => ?h3⟩) hHeld ?r3
  case h3 =>
    go_simp
    try with_reducible rfl
  simp only [List.getElem_toArray, List.getElem_cons_succ, List.getElem_cons_zero, Act.put, List.setIfInBounds_toArray, List.set_cons_zero, List.set_cons_succ]
  refine wpAnyH_take (i := 4) (v := Value.int .i64 (a + 1)) rfl (by kernel_rfl) (by kernel_rfl) (by kernel_rfl) (fun _ _ _ h => h) (Or.inl ⟨rfl, fun w' hw' => ?_⟩) hHeld ?_
  · (go_simp; try (rw [IntKind.wrap_i64]; omega))
  simp only [List.getElem_toArray, List.getElem_cons_succ, List.getElem_cons_zero, Act.put, List.setIfInBounds_toArray, List.set_cons_zero, List.set_cons_succ]
  refine wpAnyH_take (i := 5) (v := ?v5) rfl (by kernel_rfl) (by kernel_rfl) (by kernel_rfl) (fun _ _ _ h => h) (Or.inl ⟨rfl, fun w' hw' => ?h5⟩) hHeld ?r5
  case h5 =>
    go_simp
    try with_reducible rfl
  simp only [List.getElem_toArray, List.getElem_cons_succ, List.getElem_cons_zero, Act.put, List.setIfInBounds_toArray, List.set_cons_zero, List.set_cons_succ]
  refine wpAnyH_take (i := 6) (v := ?v6) rfl (by kernel_rfl) (by kernel_rfl) (by kernel_rfl) (fun _ _ _ h => h) (Or.inl ⟨rfl, fun w' hw' => ?h6⟩) hHeld ?r6
  case h6 =>
    go_simp
    try with_reducible rfl
  simp only [List.getElem_toArray, List.getElem_cons_succ, List.getElem_cons_zero, Act.put, List.setIfInBounds_toArray, List.set_cons_zero, List.set_cons_succ]
  refine wpAnyH_take (i := 7) (v := ?v7) rfl (by kernel_rfl) (by kernel_rfl) (by kernel_rfl) (fun _ _ _ h => h) (Or.inl ⟨rfl, fun w' hw' => ?h7⟩) hHeld ?r7
  case h7 =>
    go_simp
    try with_reducible rfl
  simp only [List.getElem_toArray, List.getElem_cons_succ, List.getElem_cons_zero, Act.put, List.setIfInBounds_toArray, List.set_cons_zero, List.set_cons_succ]
  refine wpAnyH_take (i := 8) (v := ?v8) rfl (by kernel_rfl) (by kernel_rfl) (by kernel_rfl) (fun _ _ _ h => h) (Or.inl ⟨rfl, fun w' hw' => ?h8⟩) hHeld ?r8
  case h8 =>
    go_simp
    try with_reducible rfl
  simp only [List.getElem_toArray, List.getElem_cons_succ, List.getElem_cons_zero, Act.put, List.setIfInBounds_toArray, List.set_cons_zero, List.set_cons_succ]
  refine wpAnyH_ready (rs := [9]) (by kernel_rfl) (by simp) ?_
  refine (AllReadyH.cons rfl (fun K hK => ?_) AllReadyH.nil)
  go_simp
  refine (F40.out X hHeld).mono ?_
  rintro e w1 ⟨rfl, hw1⟩
  have hS1 : Below w.heap.size w w1 := hHeld.trans (hw1.mono hb0)
  refine hK.out _ _ hS1 (fun hHeld => ?_)
  clear hw1 hS1 hb0
  have hb1 : w.heap.size ≤ w1.heap.size := hHeld.size
  clear hK K
  try simp only [List.getElem_toArray, List.getElem_cons_succ, List.getElem_cons_zero, Act.put, List.setIfInBounds_toArray, List.set_cons_zero, List.set_cons_succ]
  refine wpAnyH_ready (rs := [10]) (by kernel_rfl) (by simp) ?_
  refine (AllReadyH.cons rfl (fun K hK => ?_) AllReadyH.nil)
  go_simp
  refine (F52.out w1).mono ?_
  rintro e w2 ⟨rfl, hw2⟩
  have hS1 : Below w.heap.size w w2 := hHeld.trans (hw2.mono hb1)
  refine hK.out _ _ hS1 (fun hHeld => ?_)
  clear hw2 hS1 hb1
  have hb2 : w.heap.size ≤ w2.heap.size := hHeld.size
  clear hK K
  try simp only [List.getElem_toArray, List.getElem_cons_succ, List.getElem_cons_zero, Act.put, List.setIfInBounds_toArray, List.set_cons_zero, List.set_cons_succ]
  refine wpAnyH_ready (rs := [11]) (by kernel_rfl) (by simp) ?_
  refine (AllReadyH.cons rfl (fun K hK => ?_) AllReadyH.nil)
  go_simp
  refine (F51.out w2 hHeld).mono ?_
  rintro e w3 ⟨v, rfl, hown, hw3⟩
  have hS1 : Below w.heap.size w w3 := hHeld.trans (hw3.mono hb2)
  have HBZ := Lib.hid hS1
  have HO : Hid (w3.ownsRow w.heap.size 3 1 v (ptrsOf os a).length ((ptrsOf os a).map (Value.int .i64))) := own_less hown hb2
  refine hK.out _ _ hS1 (fun hHeld => ?_)
  clear hw3 hS1 hown hb2
  clear hK K
  try simp only [List.getElem_toArray, List.getElem_cons_succ, List.getElem_cons_zero, Act.put, List.setIfInBounds_toArray, List.set_cons_zero, List.set_cons_succ]
  refine wpAnyH_take (i := 12) (v := ?v9) rfl (by kernel_rfl) (by kernel_rfl) (by kernel_rfl) (fun _ _ _ h => h) (Or.inl ⟨rfl, fun w' hw' => ?h9⟩) hHeld ?r9
  case h9 =>
    go_simp
    try with_reducible rfl
  simp only [List.getElem_toArray, List.getElem_cons_succ, List.getElem_cons_zero, Act.put, List.setIfInBounds_toArray, List.set_cons_zero, List.set_cons_succ]
  refine wpAnyH_done (by kernel_rfl) ?_ _
  refine NoPanic.normal ?_
  clear hHeld
  go_wp2_with fail
  go_ret
  exact ⟨_, rfl, HO.out, HBZ.out⟩
set_option maxHeartbeats 8000000 in
set_option maxRecDepth 100000 in
theorem nums_o {w : World} {b : Nat} {G : Option Nat} {os : List Ob} {m : Nat} (h : HpO w b G os m) (a : Int) (ha : -1000000000 ≤ a) (hb : a ≤ 1000000000) :
    Calls Try.prog 24 #[.pointer (some ⟨b, 0, none⟩), .int .i64 a] w (RetI (numsOf os a) w) := by
  have F40 := Lib.hid (head_o h a (by omega) (by omega))
  have hlen := numsOf_len h.2.1 a
  have hlow := (hdo_low h.2.1 a).2.1
  have hlow2 := (hdo_low h.2.1 a).2.2.1
  have hl60 : (hdo os a).n ≤ 60 := by
    unfold hdo
    cases h2 : ob os a with
    | none => simp
    | some o => exact (h.2.1 o (ob_mem h2)).n
  have F51 := Lib.hid (fun W (hb : Below w.heap.size w W) => values_any (h.below hb) (a + 1 + (hdo os a).p) (numsOf os a) (by omega) (by omega) (fun i hi => nums_words h.2.1 a i hi) (by rw [hlen]; omega))
  rw [hlen] at F51
  have F52 := Lib.hid (fun W => ptrs_any (hdo os a).t (hdo os a).p (hdo os a).n (hdo os a).s hlow W)
  have F53 := Lib.hid (fun W => nums_any (hdo os a).t (hdo os a).p (hdo os a).n (hdo os a).s hlow2 W)
  have hbl := h.1.lt
  generalize hdo os a = x at F40 F51 F52 F53 hlow
  clear hlen hlow2 hl60 h
  go_enter Try.func24, Try.ntmps24
  go_wp2_with fail
  refine F40.out.mono ?_
  rintro e w1 ⟨rfl, hw1⟩
  have HB1 := Lib.hid hw1
  have hs1 : w.heap.size ≤ w1.heap.size := hw1.size
  clear hw1 F40
  simp only [Wd.hd]
  go_upto_region 2 with fail
  have hx : (w1.alloc (.cells #[.int .u8 x.t, .int .u8 x.p, .int .u8 x.n, .int .u8 x.s] 77)).heap[w1.heap.size]? = some (.cells x.hd 77 (0, 0)) := alloc_at _ _
  have hb1 : Below w.heap.size w (w1.alloc (.cells #[.int .u8 x.t, .int .u8 x.p, .int .u8 x.n, .int .u8 x.s] 77)) := HB1.out.alloc hs1 _
  have hsz : w1.heap.size < (w1.alloc (.cells #[.int .u8 x.t, .int .u8 x.p, .int .u8 x.n, .int .u8 x.s] 77)).heap.size := by simp
  generalize w1.alloc (.cells #[.int .u8 x.t, .int .u8 x.p, .int .u8 x.n, .int .u8 x.s] 77) = Y at hx hb1 hsz ⊢
  have HBY := Lib.hid hb1
  have hsY := hb1.size
  clear hb1 HB1
  generalize w1.heap.size = gx at hx hsz hs1 ⊢
  have HX : Hid (∀ w', Below Y.heap.size Y w' → w'.rangeAt gx 0 x.hd.toList) := fun w' hw' => box_range (by rw [hw'.block _ hsz]; exact hx)
  clear hx
  refine wp_region_noPanic ?_
  refine wp_region_held_drew (S := Below Y.heap.size Y) (by kernel_rfl) ((Below.refl _ _).drew) (fun hHeld => ?_)
  generalize Y.drew = X at hHeld ⊢
  have hb0 : Y.heap.size ≤ X.heap.size := hHeld.size
  refine wpAnyH_take (i := 0) (v := ?v10) rfl (by kernel_rfl) (by kernel_rfl) (by kernel_rfl) (fun _ _ _ h => h) (Or.inl ⟨rfl, fun w' hw' => ?h10⟩) hHeld ?r10
  case h10 =>
    go_simp
    try with_reducible rfl
  simp only [List.getElem_toArray, List.getElem_cons_succ, List.getElem_cons_zero, Act.put, List.setIfInBounds_toArray, List.set_cons_zero, List.set_cons_succ]
  refine wpAnyH_take (i := 1) (v := ?v11) rfl (by kernel_rfl) (by kernel_rfl) (by kernel_rfl) (fun _ _ _ h => h) (Or.inl ⟨rfl, fun w' hw' => ?h11⟩) hHeld ?r11
  case h11 =>
    go_simp
    try with_reducible rfl
  simp only [List.getElem_toArray, List.getElem_cons_succ, List.getElem_cons_zero, Act.put, List.setIfInBounds_toArray, List.set_cons_zero, List.set_cons_succ]
  refine wpAnyH_take (i := 2) (v := ?v12) rfl (by kernel_rfl) (by kernel_rfl) (by kernel_rfl) (fun _ _ _ h => h) (Or.inl ⟨rfl, fun w' hw' => ?h12⟩) hHeld ?r12
  case h12 =>
    go_simp
    try with_reducible rfl
  simp only [List.getElem_toArray, List.getElem_cons_succ, List.getElem_cons_zero, Act.put, List.setIfInBounds_toArray, List.set_cons_zero, List.set_cons_succ]
  refine wpAnyH_take (i := 3) (v := ?v13) rfl (by kernel_rfl) (by kernel_rfl) (by kernel_rfl) (fun _ _ _ h => h) (Or.inl ⟨rfl, fun w' hw' => ?h13⟩) hHeld ?r13
  case h13 =>
    go_simp
    try with_reducible rfl
  simp only [List.getElem_toArray, List.getElem_cons_succ, List.getElem_cons_zero, Act.put, List.setIfInBounds_toArray, List.set_cons_zero, List.set_cons_succ]
  refine wpAnyH_take (i := 4) (v := Value.int .i64 (a + 1)) rfl (by kernel_rfl) (by kernel_rfl) (by kernel_rfl) (fun _ _ _ h => h) (Or.inl ⟨rfl, fun w' hw' => ?_⟩) hHeld ?_
  · (go_simp; try (rw [IntKind.wrap_i64]; omega))
  simp only [List.getElem_toArray, List.getElem_cons_succ, List.getElem_cons_zero, Act.put, List.setIfInBounds_toArray, List.set_cons_zero, List.set_cons_succ]
  refine wpAnyH_take (i := 5) rfl (by kernel_rfl) (by kernel_rfl) (by kernel_rfl) (fun _ _ _ h => h) (yieldsIf_load_mid (by rfl) _ _ rfl gx 0 rfl [.int .u8 x.t, .int .u8 x.p, .int .u8 x.n, .int .u8 x.s] _ (fun w' hw' => HX.out w' hw') Try.underlying77 rfl info55) hHeld ?_
  simp only [List.getElem_toArray, List.getElem_cons_succ, List.getElem_cons_zero, Act.put, List.setIfInBounds_toArray, List.set_cons_zero, List.set_cons_succ]
  refine wpAnyH_take (i := 8) rfl (by kernel_rfl) (by kernel_rfl) (by kernel_rfl) (fun _ _ _ h => h) (yieldsIf_load_mid (by rfl) _ _ rfl gx 0 rfl [.int .u8 x.t, .int .u8 x.p, .int .u8 x.n, .int .u8 x.s] _ (fun w' hw' => HX.out w' hw') Try.underlying77 rfl info55) hHeld ?_
  simp only [List.getElem_toArray, List.getElem_cons_succ, List.getElem_cons_zero, Act.put, List.setIfInBounds_toArray, List.set_cons_zero, List.set_cons_succ]
  refine wpAnyH_ready (rs := [6]) (by kernel_rfl) (by simp) ?_
  refine (AllReadyH.cons rfl (fun K hK => ?_) AllReadyH.nil)
  go_simp
  refine (F52.out X).mono ?_
  rintro e w2 ⟨rfl, hw2⟩
  have hS1 : Below Y.heap.size Y w2 := hHeld.trans (hw2.mono hb0)
  refine hK.out _ _ hS1 (fun hHeld => ?_)
  clear hw2 hS1 hb0
  have hb2 : Y.heap.size ≤ w2.heap.size := hHeld.size
  clear hK K
  try simp only [List.getElem_toArray, List.getElem_cons_succ, List.getElem_cons_zero, Act.put, List.setIfInBounds_toArray, List.set_cons_zero, List.set_cons_succ]
  refine wpAnyH_take (i := 7) (v := Value.int .i64 (a + 1 + (x.p : Nat))) rfl (by kernel_rfl) (by kernel_rfl) (by kernel_rfl) (fun _ _ _ h => h) (Or.inl ⟨rfl, fun w' hw' => ?_⟩) hHeld ?_
  · (go_simp; try (rw [IntKind.wrap_i64]; omega))
  simp only [List.getElem_toArray, List.getElem_cons_succ, List.getElem_cons_zero, Act.put, List.setIfInBounds_toArray, List.set_cons_zero, List.set_cons_succ]
  refine wpAnyH_ready (rs := [9]) (by kernel_rfl) (by simp) ?_
  refine (AllReadyH.cons rfl (fun K hK => ?_) AllReadyH.nil)
  go_simp
  refine (F53.out w2).mono ?_
  rintro e w3 ⟨rfl, hw2⟩
  have hS1 : Below Y.heap.size Y w3 := hHeld.trans (hw2.mono hb2)
  refine hK.out _ _ hS1 (fun hHeld => ?_)
  clear hw2 hS1 hb2
  have hb3 : Y.heap.size ≤ w3.heap.size := hHeld.size
  clear hK K
  try simp only [List.getElem_toArray, List.getElem_cons_succ, List.getElem_cons_zero, Act.put, List.setIfInBounds_toArray, List.set_cons_zero, List.set_cons_succ]
  refine wpAnyH_ready (rs := [10]) (by kernel_rfl) (by simp) ?_
  refine (AllReadyH.cons rfl (fun K hK => ?_) AllReadyH.nil)
  go_simp
  refine (F51.out w3 (HBY.out.trans (hHeld.mono hsY))).mono ?_
  rintro e w4 ⟨v, rfl, hown, hw3⟩
  have hS1 : Below Y.heap.size Y w4 := hHeld.trans (hw3.mono hb3)
  have HBZ := Lib.hid (HBY.out.trans (hS1.mono hsY))
  have HO : Hid (w4.ownsRow w.heap.size 3 1 v (numsOf os a).length ((numsOf os a).map (Value.int .i64))) := own_less hown (Nat.le_trans hsY hb3)
  refine hK.out _ _ hS1 (fun hHeld => ?_)
  clear hw3 hS1 hown hb3
  clear hK K
  try simp only [List.getElem_toArray, List.getElem_cons_succ, List.getElem_cons_zero, Act.put, List.setIfInBounds_toArray, List.set_cons_zero, List.set_cons_succ]
  refine wpAnyH_take (i := 11) (v := ?v16) rfl (by kernel_rfl) (by kernel_rfl) (by kernel_rfl) (fun _ _ _ h => h) (Or.inl ⟨rfl, fun w' hw' => ?h16⟩) hHeld ?r16
  case h16 =>
    go_simp
    try with_reducible rfl
  simp only [List.getElem_toArray, List.getElem_cons_succ, List.getElem_cons_zero, Act.put, List.setIfInBounds_toArray, List.set_cons_zero, List.set_cons_succ]
  refine wpAnyH_done (by kernel_rfl) ?_ _
  refine NoPanic.normal ?_
  clear hHeld
  go_wp2_with fail
  go_ret
  exact ⟨_, rfl, HO.out, HBZ.out⟩
end Go.Proofs.Ytkekekdkfjjifaa
namespace Go.Proofs.Ytkekekdkfjjifaa
open Go Go.RowKit
set_option linter.unusedVariables false
set_option linter.unusedSimpArgs false
/-- Only blocks of F may have turned. -/
structure Fr (F : Nat → Prop) (w w' : World) : Prop where
  os : w'.os = w.os
  tape : w'.tape = w.tape
  output : w'.output = w.output
  size : w.heap.size ≤ w'.heap.size
  block : ∀ k, k < w.heap.size → ¬ F k → w'.heap[k]? = w.heap[k]?
theorem Fr.refl (F : Nat → Prop) (w : World) : Fr F w w := ⟨rfl, rfl, rfl, Nat.le_refl _, fun _ _ _ => rfl⟩
theorem Fr.trans {F F' : Nat → Prop} {a b c : World} (h : Fr F a b) (k : Fr F' b c) (hF : ∀ x, x < a.heap.size → F' x → F x) : Fr F a c :=
  ⟨k.os.trans h.os, k.tape.trans h.tape, k.output.trans h.output, Nat.le_trans h.size k.size, fun i hi hn => (k.block i (Nat.lt_of_lt_of_le hi h.size) (fun e => hn (hF i hi e))).trans (h.block i hi hn)⟩
theorem Fr.of_below {F : Nat → Prop} {w w' : World} (h : Below w.heap.size w w') : Fr F w w' := ⟨h.os, h.tape, h.output, h.size, fun k hk _ => h.block k hk⟩
theorem Fr.below {F : Nat → Prop} {B : Nat} {w w' : World} (h : Fr F w w') (hB : ∀ x, x < B → ¬ F x) (hw : B ≤ w.heap.size) : Below B w w' := ⟨h.os, h.tape, h.output, h.size, fun k hk => h.block k (by omega) (hB k hk)⟩
theorem Fr.setCell {F : Nat → Prop} {a w : World} (h : Fr F a w) {p : Addr} (hp : F p.block) (u : Value) : Fr F a (w.setCell p u) :=
  ⟨h.os, h.tape, h.output, by simpa [World.setCell] using h.size, fun k hk hn => (Below.heap_setCell _ _ _ _ (fun e => hn (by rw [e]; exact hp))).trans (h.block k hk hn)⟩
def own (b : Nat) (G : Option Nat) (k : Nat) : Prop := k = b ∨ G = some k
def RetHp (v : Value) (b : Nat) (G : Option Nat) (os' : List Ob) (m : Nat) (w : World) (e : Ending) (w' : World) : Prop :=
  e = .returned v ∧ ∃ G', HpO w' b G' os' m ∧ Fr (own b G) w w' ∧ (∀ k, G' = some k → G = some k ∨ w.heap.size ≤ k)
theorem own_set {w : World} {B : Nat} {e : TypeId} {s : Nat} {v : Value} {n : Nat} {xs : List Value} (h : w.ownsRow B e s v n xs) {g : Nat} (hg : v.ownBlock = some g) (j : Nat) (hj : j < xs.length) (u : Value) :
    (w.setCell ⟨g, j, none⟩ u).ownsRow B e s v n (xs.set j u) := by
  refine ⟨by rw [List.length_set]; exact h.1, ?_⟩
  rcases h.2 with ⟨rfl, h0⟩ | ⟨g1, cap, cur, rfl, hb, hh, hn, hm, hs, ht⟩
  · simp [Value.ownBlock] at hg
  · have : g1 = g := by simpa [Value.ownBlock] using hg
    subst this
    refine .inr ⟨g1, cap, _, rfl, hb, heap_setCell_same w g1 j cur e u hh, hn, hm, by simp [hs], ?_⟩
    rw [← ht, Array.toList_setIfInBounds]
    rw [List.take_set]
theorem wcells_set (l : List Wd) (i : Nat) (x : Wd) : wcells (l.set i x) = (((((wcells l).set (i * 5) (.int .u8 x.t)).set (i * 5 + 1) (.int .u8 x.p)).set (i * 5 + 2) (.int .u8 x.n)).set (i * 5 + 3) (.int .u8 x.s)).set (i * 5 + 4) (.int .i64 x.v) := by
  induction l generalizing i with
  | nil => simp [wcells]
  | cons a l ih =>
    cases i with
    | zero => simp [wcells, Wd.cells]
    | succ i =>
      have e : ∀ j, (i + 1) * 5 + j = i * 5 + j + 5 := fun j => by omega
      have e0 : (i + 1) * 5 = i * 5 + 5 := by omega
      have ih' := ih i
      simp only [wcells, List.flatMap_cons, List.set_cons_succ, Wd.cells, List.cons_append, List.nil_append] at ih' ⊢
      rw [ih']
      simp [e, e0]
/-- A word is written over. -/
theorem Hp.put {w : World} {b : Nat} {G : Option Nat} {l : List Wd} {m : Nat} (h : Hp w b G l m) {g : Nat} (hG : G = some g) (i : Nat) (hi : i < l.length) (x : Wd) (hx : x.low) :
    Hp (((((w.setCell ⟨g, i * 5, none⟩ (.int .u8 x.t)).setCell ⟨g, i * 5 + 1, none⟩ (.int .u8 x.p)).setCell ⟨g, i * 5 + 2, none⟩ (.int .u8 x.n)).setCell ⟨g, i * 5 + 3, none⟩ (.int .u8 x.s)).setCell ⟨g, i * 5 + 4, none⟩ (.int .i64 x.v)) b G (l.set i x) m := by
  have hne : b ≠ g := fun e => (h.glt g hG).2 e.symm
  obtain ⟨lv, h1, h2, h3, h4, h5⟩ := h
  have hg : lv.ownBlock = some g := h2.trans hG
  have hl := wcells_length l
  refine ⟨lv, ?_, h2, ?_, by rw [List.length_set]; exact h4, ?_⟩
  · rw [Below.heap_setCell _ _ _ _ hne, Below.heap_setCell _ _ _ _ hne, Below.heap_setCell _ _ _ _ hne, Below.heap_setCell _ _ _ _ hne, Below.heap_setCell _ _ _ _ hne]; exact h1
  · rw [wcells_set, List.length_set]
    refine own_set (own_set (own_set (own_set (own_set h3 hg _ ?_ _) hg _ ?_ _) hg _ ?_ _) hg _ ?_ _) hg _ ?_ _ <;> first | omega | (simp only [List.length_set]; omega)
  · intro y hy
    rcases List.mem_or_eq_of_mem_set hy with h | rfl
    · exact h5 y h
    · exact hx
/-- Its value alone. -/
theorem Hp.putv {w : World} {b : Nat} {G : Option Nat} {l : List Wd} {m : Nat} (h : Hp w b G l m) {g : Nat} (hG : G = some g) (i : Nat) (hi : i < l.length) (v : Int) :
    Hp (w.setCell ⟨g, i * 5 + 4, none⟩ (.int .i64 v)) b G (l.set i { l[i] with v := v }) m := by
  have hne : b ≠ g := fun e => (h.glt g hG).2 e.symm
  obtain ⟨lv, h1, h2, h3, h4, h5⟩ := h
  have hg : lv.ownBlock = some g := h2.trans hG
  have hl := wcells_length l
  refine ⟨lv, ?_, h2, ?_, by rw [List.length_set]; exact h4, ?_⟩
  · rw [Below.heap_setCell _ _ _ _ hne]; exact h1
  · have e : wcells (l.set i { l[i] with v := v }) = (wcells l).set (i * 5 + 4) (.int .i64 v) := by
      rw [wcells_set]
      have c : ∀ j, j < 5 → (wcells l)[i * 5 + j]? = l[i].cells[j]? := fun j hj => wcells_get l i hi j hj
      have s : ∀ (xs : List Value) (k : Nat) (u : Value), xs[k]? = some u → xs.set k u = xs := fun xs k u h => by
        apply List.ext_getElem?
        intro q
        rw [List.getElem?_set]
        split
        · rename_i e; subst e; split
          · exact h.symm
          · rename_i h9; rw [List.getElem?_eq_none (by omega)] at h; cases h
        · rfl
      rw [s _ (i * 5) _ (c 0 (by decide)), s _ (i * 5 + 1) _ (c 1 (by decide)), s _ (i * 5 + 2) _ (c 2 (by decide)), s _ (i * 5 + 3) _ (c 3 (by decide))]
    rw [e, List.length_set]
    exact own_set h3 hg _ (by omega) _
  · intro y hy
    rcases List.mem_or_eq_of_mem_set hy with h | rfl
    · exact h5 y h
    · exact h5 l[i] (List.getElem_mem _)
/-- The head alone. -/
theorem Hp.puth {w : World} {b : Nat} {G : Option Nat} {l : List Wd} {m : Nat} (h : Hp w b G l m) {g : Nat} (hG : G = some g) (i : Nat) (hi : i < l.length) (x : Wd) (hx : x.low) (hv : x.v = l[i].v) :
    Hp ((((w.setCell ⟨g, i * 5, none⟩ (.int .u8 x.t)).setCell ⟨g, i * 5 + 1, none⟩ (.int .u8 x.p)).setCell ⟨g, i * 5 + 2, none⟩ (.int .u8 x.n)).setCell ⟨g, i * 5 + 3, none⟩ (.int .u8 x.s)) b G (l.set i x) m := by
  have hne : b ≠ g := fun e => (h.glt g hG).2 e.symm
  obtain ⟨lv, h1, h2, h3, h4, h5⟩ := h
  have hg : lv.ownBlock = some g := h2.trans hG
  have hl := wcells_length l
  refine ⟨lv, ?_, h2, ?_, by rw [List.length_set]; exact h4, ?_⟩
  · rw [Below.heap_setCell _ _ _ _ hne, Below.heap_setCell _ _ _ _ hne, Below.heap_setCell _ _ _ _ hne, Below.heap_setCell _ _ _ _ hne]; exact h1
  · have e : wcells (l.set i x) = ((((wcells l).set (i * 5) (.int .u8 x.t)).set (i * 5 + 1) (.int .u8 x.p)).set (i * 5 + 2) (.int .u8 x.n)).set (i * 5 + 3) (.int .u8 x.s) := by
      rw [wcells_set]
      have c := wcells_get l i hi 4 (by decide)
      apply List.ext_getElem?
      intro q
      rw [List.getElem?_set]
      split
      · rename_i e; subst e
        simp only [List.length_set]
        rw [if_pos (by omega), List.getElem?_set_ne (by omega), List.getElem?_set_ne (by omega), List.getElem?_set_ne (by omega), List.getElem?_set_ne (by omega), c, hv]; rfl
      · rfl
    rw [e, List.length_set]
    refine own_set (own_set (own_set (own_set h3 hg _ ?_ _) hg _ ?_ _) hg _ ?_ _) hg _ ?_ _ <;> first | omega | (simp only [List.length_set]; omega)
  · intro y hy
    rcases List.mem_or_eq_of_mem_set hy with h | rfl
    · exact h5 y h
    · exact hx
theorem leadOn_any (w : World) (g i : Nat) (t p n s : Int) (hc : ∃ c, w.heap[g]? = some (.cells c 79 (0, 0))) (c0 : w.cell? ⟨g, i, none⟩ = some (.int .u8 t)) (c1 : w.cell? ⟨g, i + 1, none⟩ = some (.int .u8 p)) (c2 : w.cell? ⟨g, i + 2, none⟩ = some (.int .u8 n)) (c3 : w.cell? ⟨g, i + 3, none⟩ = some (.int .u8 s)) :
    Calls Try.prog 73 #[.pointer (some ⟨g, i, none⟩)] w fun e w' => e = .returned (.tuple #[]) ∧
      w' = (((w.setCell ⟨g, i, none⟩ (.int .u8 5)).setCell ⟨g, i + 1, none⟩ (.int .u8 1)).setCell ⟨g, i + 2, none⟩ (.int .u8 0)).setCell ⟨g, i + 3, none⟩ (.int .u8 s) := by
  obtain ⟨c, hc⟩ := hc
  have f : ∀ j, w.frozen? ⟨g, j, none⟩ = false := fun j => frozen_of_row w g j _ _ hc
  have f0 := f i
  have f1 := f (i + 1)
  have f2 := f (i + 2)
  have f3 := f (i + 3)
  clear f hc
  go_enter Try.func73, Try.ntmps73
  go_wp2
  go_end0
  exact ⟨rfl, rfl⟩
end Go.Proofs.Ytkekekdkfjjifaa
namespace Go.Proofs.Ytkekekdkfjjifaa
open Go Go.RowKit
set_option linter.unusedVariables false
set_option linter.unusedSimpArgs false
def upd (os : List Ob) (k : Nat) (f : Ob → Ob) : List Ob := match os[k]? with | some o => os.set k (f o) | none => os
theorem upd_eq {os : List Ob} {k : Nat} (h : k < os.length) (f : Ob → Ob) : upd os k f = os.set k (f os[k]) := by unfold upd; rw [List.getElem?_eq_getElem h]
def setF (os : List Ob) (a i to : Int) : Option (List Ob) := match loc os a with
  | none => none
  | some k => if 0 ≤ i ∧ i < ((hdo os a).p : Nat) ∧ (ob os to).isSome = true then some (upd os k (fun o => setO o i.toNat to)) else none
def overF (os : List Ob) (a to : Int) : Option (List Ob) := match loc os a with
  | none => none
  | some k => if a ≠ to ∧ (ob os to).isSome = true then some (upd os k (fun o => overO o to)) else none
theorem is_ob {os : List Ob} (a : Int) : decide (0 < (hdo os a).s) = (ob os a).isSome := by
  unfold hdo
  cases h : ob os a with
  | none => rfl
  | some o => simp [Ob.head, Ob.size]
theorem p_none {os : List Ob} {a : Int} (h : loc os a = none) : (hdo os a).p = 0 := by
  unfold hdo; rw [ob_none.2 h]
theorem hdo_loc {os : List Ob} {a : Int} {k : Nat} (h : loc os a = some k) : hdo os a = (os[k]'(loc_some h).1).head := by unfold hdo; rw [ob_loc h]
theorem some_set {os : List Ob} {i : Nat} (h : i < os.length) {o : Ob} (e : o.body.length = os[i].body.length) (a : Int) : (ob (os.set i o) a).isSome = (ob os a).isSome := by
  rw [ob_set h e]
  split
  · rename_i e; rw [e, ob_loc (loc_adr os i h)]; rfl
  · rfl
theorem closed_set {os : List Ob} (hc : Closed os) {i : Nat} (h : i < os.length) {o : Ob} (e : o.body.length = os[i].body.length) (hp : ∀ p ∈ o.ptrs, p ∈ os[i].ptrs ∨ (ob os p).isSome = true) : Closed (os.set i o) := by
  have key : ∀ p, (ob os p).isSome = true → ∃ q, ob (os.set i o) p = some q := fun p h1 => by
    rw [← some_set h e p] at h1
    exact Option.isSome_iff_exists.1 h1
  intro x hx p hpx
  rcases List.mem_or_eq_of_mem_set hx with h1 | rfl
  · exact key p (Option.isSome_iff_exists.2 (hc x h1 p hpx))
  · rcases hp p hpx with h2 | h2
    · exact key p (Option.isSome_iff_exists.2 (hc _ (List.getElem_mem h) p h2))
    · exact key p h2
theorem setO_ptrs (o : Ob) (j : Nat) (v : Int) : (setO o j v).ptrs = o.ptrs.set j v := by simp [setO, Ob.ptrs, List.take_set]
theorem overO_ptrs (o : Ob) (v : Int) (h : 1 ≤ o.body.length) : (overO o v).ptrs = [v] := by
  unfold overO Ob.ptrs
  cases hb : o.body with
  | nil => rw [hb] at h; simp at h
  | cons x l => simp
theorem HpO.put {w W : World} {b : Nat} {G : Option Nat} {os : List Ob} {m : Nat} (h : HpO w b G os m) {k : Nat} (hk : k < os.length) {o : Ob} (e : o.body.length = os[k].body.length) (ho : o.Ok) (hp : ∀ p ∈ o.ptrs, p ∈ os[k].ptrs ∨ (ob os p).isSome = true)
    (hH : Hp W b G (wds (os.set k o)) m) : HpO W b G (os.set k o) m :=
  ⟨hH, oks_set h.2.1 ho, closed_set h.2.2.1 hk e hp, h.2.2.2.1, by rw [total_set hk e]; exact h.2.2.2.2⟩
set_option maxHeartbeats 8000000 in
set_option maxRecDepth 100000 in
theorem set_no {w : World} {b : Nat} {G : Option Nat} {os : List Ob} {m : Nat} (h : HpO w b G os m) (a i to : Int) (ha : -1000000000 ≤ a) (ha2 : a ≤ 1000000000) (hi : -1000000000 ≤ i) (hi2 : i ≤ 1000000000) (ht : -1000000000 ≤ to) (ht2 : to ≤ 1000000000)
    (hno : i < 0 ∨ ((hdo os a).p : Int) ≤ i ∨ (ob os to).isSome = false) : Calls Try.prog 29 #[.pointer (some ⟨b, 0, none⟩), .int .i64 a, .int .i64 i, .int .i64 to] w (RetV (.bool false) w) := by
  have F40 := Lib.hid (head_o h a (by omega) (by omega))
  have F41 := Lib.hid (fun W (hb : Below w.heap.size w W) => head_o (h.below hb) to (by omega) (by omega))
  have hlow := (hdo_low h.2.1 a).2.1
  have F52 := Lib.hid (fun W => ptrs_any (hdo os a).t (hdo os a).p (hdo os a).n (hdo os a).s hlow W)
  have F43 := Lib.hid (fun W => is_any (hdo os to).t (hdo os to).p (hdo os to).n (hdo os to).s W)
  rw [is_ob] at F43
  have hbl := h.1.lt
  generalize (ob os to).isSome = c at F43 hno
  generalize hdo os to = y at F41 F43
  generalize hdo os a = x at F40 F52 hlow hno
  clear h
  by_cases h1 : i < 0
  · have q1 : decide (i < 0) = true := decide_eq_true h1
    clear hno
    go_enter Try.func29, Try.ntmps29
    go_wp2_with fail
    go_ret
    exact ⟨rfl, Below.refl _ _⟩
  · have q1 : decide (i < 0) = false := decide_eq_false h1
    by_cases h2 : (x.p : Int) ≤ i
    · have q2 : decide ((x.p : Int) ≤ i) = true := decide_eq_true h2
      clear hno
      go_enter Try.func29, Try.ntmps29
      go_wp2_with fail
      refine F40.out.mono ?_
      rintro e w1 ⟨rfl, hw1⟩
      have HB1 := Lib.hid hw1
      clear hw1 F40
      go_wp2_with fail
      refine (F52.out _).mono ?_
      rintro e w2 ⟨rfl, hw2⟩
      have HB2 := Lib.hid (HB1.out.trans (hw2.mono HB1.out.size))
      clear hw2 F52
      go_wp2_with fail
      go_ret
      exact ⟨rfl, HB2.out⟩
    · have q2 : decide ((x.p : Int) ≤ i) = false := decide_eq_false h2
      have hc : c = false := by rcases hno with h | h | h <;> first | omega | exact h
      subst hc
      clear hno
      go_enter Try.func29, Try.ntmps29
      go_wp2_with fail
      refine F40.out.mono ?_
      rintro e w1 ⟨rfl, hw1⟩
      have HB1 := Lib.hid hw1
      clear hw1 F40
      go_wp2_with fail
      refine (F52.out _).mono ?_
      rintro e w2 ⟨rfl, hw2⟩
      have HB2 := Lib.hid (HB1.out.trans (hw2.mono HB1.out.size))
      clear hw2 F52
      go_wp2_with fail
      refine (F41.out _ HB2.out).mono ?_
      rintro e w3 ⟨rfl, hw2⟩
      have HB3 := Lib.hid (HB2.out.trans (hw2.mono HB2.out.size))
      clear hw2
      go_wp2_with fail
      refine (F43.out _).mono ?_
      rintro e w4 ⟨rfl, hw2⟩
      have HB4 := Lib.hid (HB3.out.trans (hw2.mono HB3.out.size))
      clear hw2
      go_wp2_with fail
      go_ret
      exact ⟨rfl, HB4.out⟩
set_option maxHeartbeats 8000000 in
set_option maxRecDepth 100000 in
theorem set_yes {w : World} {b : Nat} {G : Option Nat} {os : List Ob} {m : Nat} (h : HpO w b G os m) (a i to : Int) (ha : -1000000000 ≤ a) (ha2 : a ≤ 1000000000) (hi : -1000000000 ≤ i) (hi2 : i ≤ 1000000000) (ht : -1000000000 ≤ to) (ht2 : to ≤ 1000000000)
    (k : Nat) (hk : loc os a = some k) (h0 : 0 ≤ i) (h2 : i < ((hdo os a).p : Int)) (h3 : (ob os to).isSome = true) : Calls Try.prog 29 #[.pointer (some ⟨b, 0, none⟩), .int .i64 a, .int .i64 i, .int .i64 to] w (RetHp (.bool true) b G (upd os k (fun o => setO o i.toNat to)) m w) := by
  have F40 := Lib.hid (head_o h a (by omega) (by omega))
  have F41 := Lib.hid (fun W (hb : Below w.heap.size w W) => head_o (h.below hb) to (by omega) (by omega))
  have hlow := (hdo_low h.2.1 a).2.1
  have F52 := Lib.hid (fun W => ptrs_any (hdo os a).t (hdo os a).p (hdo os a).n (hdo os a).s hlow W)
  have F43 := Lib.hid (fun W => is_any (hdo os to).t (hdo os to).p (hdo os to).n (hdo os to).s W)
  rw [is_ob, h3] at F43
  have hbl := h.1.lt
  obtain ⟨hkl, hka⟩ := loc_some hk
  have hpn := (h.2.1 _ (List.getElem_mem hkl)).pn
  have hok := h.2.1 _ (List.getElem_mem hkl)
  have e1 : (hdo os a).p = os[k].np := by rw [hdo_loc hk]; rfl
  obtain ⟨q, hq⟩ : ∃ q : Nat, i = q := ⟨i.toNat, by omega⟩
  subst hq
  have hqb : q < os[k].body.length := by omega
  have hw := wds_body hkl q hqb
  obtain ⟨j, hj⟩ : ∃ j, j = adr os k + 1 + q := ⟨_, rfl⟩
  rw [← hj] at hw
  have hjl : j < (wds os).length := (List.getElem?_eq_some_iff.1 hw).1
  have hje := (List.getElem?_eq_some_iff.1 hw).2
  have haj : a + 1 + (q : Int) = (j : Int) := by omega
  have FIN : Hid (∀ W g, Below w.heap.size w W → G = some g → HpO (W.setCell ⟨g, j * 5 + 4, none⟩ (.int .i64 to)) b G (upd os k (fun o => setO o (q : Int).toNat to)) m ∧ Fr (own b G) w (W.setCell ⟨g, j * 5 + 4, none⟩ (.int .i64 to))) := by
    intro W g hW hG
    refine ⟨?_, (Fr.of_below hW).setCell (.inr hG) _⟩
    have h9 := (h.below hW).1.putv hG j hjl to
    rw [hje] at h9
    rw [upd_eq hkl, Int.toNat_natCast]
    refine h.put hkl (by simp [setO]) (setO_ok hok q to (by omega)) (fun p hp => ?_) ?_
    · rw [setO_ptrs] at hp
      rcases List.mem_or_eq_of_mem_set hp with h | rfl
      · exact .inl h
      · exact .inr h3
    · rw [wds_setO hkl q to hqb, ← hj]; exact h9
  have HC := Lib.hid (fun W (hb : Below w.heap.size w W) => (h.1.below hb).cell)
  have hgl := h.1.glt
  have hwl : (wds os).length ≤ 1000000 := by obtain ⟨_, _, _, _, h1, _⟩ := h.1; exact h1
  have q1 : decide ((q : Int) < 0) = false := decide_eq_false (by omega)
  generalize hdo os to = y at F41 F43
  generalize hdo os a = x at F40 F52 hlow h2 e1
  have q2 : decide ((x.p : Int) ≤ (q : Int)) = false := decide_eq_false (by omega)
  clear h hk hka hpn hok e1 hqb hw hj hje h3
  go_enter Try.func29, Try.ntmps29
  go_wp2_with fail
  refine F40.out.mono ?_
  rintro e w1 ⟨rfl, hw1⟩
  have HB1 := Lib.hid hw1
  clear hw1 F40
  go_wp2_with fail
  refine (F52.out _).mono ?_
  rintro e w2 ⟨rfl, hw2⟩
  have HB2 := Lib.hid (HB1.out.trans (hw2.mono HB1.out.size))
  clear hw2 F52
  go_wp2_with fail
  refine (F41.out _ HB2.out).mono ?_
  rintro e w3 ⟨rfl, hw2⟩
  have HB3 := Lib.hid (HB2.out.trans (hw2.mono HB2.out.size))
  clear hw2
  go_wp2_with fail
  refine (F43.out _).mono ?_
  rintro e w4 ⟨rfl, hw2⟩
  have HB4 := Lib.hid (HB3.out.trans (hw2.mono HB3.out.size))
  clear hw2
  obtain ⟨ao, cap, hc0, _, _, hcap, hc⟩ := HC.out w4 HB4.out
  obtain ⟨g, rfl, hG, ⟨cc, hcc⟩, _, _, _, _, hcv⟩ := hc j hjl
  have hfz := frozen_of_row w4 g (j * 5 + 4) _ _ hcc
  have HF := Lib.hid (FIN.out w4 g HB4.out hG)
  generalize (wds os)[j].v = v0 at hcv
  obtain ⟨L, hL⟩ : ∃ L, L = (wds os).length := ⟨_, rfl⟩
  rw [← hL] at hc0 hcap hjl hwl
  have hjL : (j : Int) < (L : Int) := by omega
  clear hc hL hcc HC hG FIN hgl
  go_wp2_with fail
  go_ret
  exact ⟨rfl, G, HF.out.1, HF.out.2, fun k hk => .inl hk⟩
end Go.Proofs.Ytkekekdkfjjifaa
namespace Go.Proofs.Ytkekekdkfjjifaa
open Go Go.RowKit
set_option linter.unusedVariables false
set_option linter.unusedSimpArgs false
set_option maxHeartbeats 8000000 in
set_option maxRecDepth 100000 in
theorem over_no {w : World} {b : Nat} {G : Option Nat} {os : List Ob} {m : Nat} (h : HpO w b G os m) (a to : Int) (ha : -1000000000 ≤ a) (ha2 : a ≤ 1000000000) (ht : -1000000000 ≤ to) (ht2 : to ≤ 1000000000)
    (hno : a = to ∨ (ob os a).isSome = false ∨ (ob os to).isSome = false) : Calls Try.prog 61 #[.pointer (some ⟨b, 0, none⟩), .int .i64 a, .int .i64 to] w (RetV (.bool false) w) := by
  have F40 := Lib.hid (head_o h a (by omega) (by omega))
  have F41 := Lib.hid (fun W (hb : Below w.heap.size w W) => head_o (h.below hb) to (by omega) (by omega))
  have F42 := Lib.hid (fun W => is_any (hdo os a).t (hdo os a).p (hdo os a).n (hdo os a).s W)
  have F43 := Lib.hid (fun W => is_any (hdo os to).t (hdo os to).p (hdo os to).n (hdo os to).s W)
  rw [is_ob] at F43 F42
  have hbl := h.1.lt
  generalize (ob os to).isSome = c at F43 hno
  generalize (ob os a).isSome = d at F42 hno
  generalize hdo os to = y at F41 F43
  generalize hdo os a = x at F40 F42
  clear h
  by_cases h1 : a = to
  · have q1 : (a == to) = true := by simpa using h1
    clear hno h1
    go_enter Try.func61, Try.ntmps61
    go_wp2_with fail
    go_ret
    exact ⟨rfl, Below.refl _ _⟩
  · have q1 : (a == to) = false := by simpa using h1
    cases d with
    | false =>
      clear hno h1
      go_enter Try.func61, Try.ntmps61
      go_wp2_with fail
      refine F40.out.mono ?_
      rintro e w1 ⟨rfl, hw1⟩
      have HB1 := Lib.hid hw1
      clear hw1 F40
      go_wp2_with fail
      refine (F42.out _).mono ?_
      rintro e w2 ⟨rfl, hw2⟩
      have HB2 := Lib.hid (HB1.out.trans (hw2.mono HB1.out.size))
      clear hw2 F42
      go_wp2_with fail
      go_ret
      exact ⟨rfl, HB2.out⟩
    | true =>
      have hc : c = false := by rcases hno with h | h | h <;> first | exact absurd h h1 | exact h | cases h
      subst hc
      clear hno h1
      go_enter Try.func61, Try.ntmps61
      go_wp2_with fail
      refine F40.out.mono ?_
      rintro e w1 ⟨rfl, hw1⟩
      have HB1 := Lib.hid hw1
      clear hw1 F40
      go_wp2_with fail
      refine (F42.out _).mono ?_
      rintro e w2 ⟨rfl, hw2⟩
      have HB2 := Lib.hid (HB1.out.trans (hw2.mono HB1.out.size))
      clear hw2 F42
      go_wp2_with fail
      refine (F41.out _ HB2.out).mono ?_
      rintro e w3 ⟨rfl, hw2⟩
      have HB3 := Lib.hid (HB2.out.trans (hw2.mono HB2.out.size))
      clear hw2
      go_wp2_with fail
      refine (F43.out _).mono ?_
      rintro e w4 ⟨rfl, hw2⟩
      have HB4 := Lib.hid (HB3.out.trans (hw2.mono HB3.out.size))
      clear hw2
      go_wp2_with fail
      go_ret
      exact ⟨rfl, HB4.out⟩
set_option maxHeartbeats 8000000 in
set_option maxRecDepth 100000 in
theorem over_yes {w : World} {b : Nat} {G : Option Nat} {os : List Ob} {m : Nat} (h : HpO w b G os m) (a to : Int) (ha : -1000000000 ≤ a) (ha2 : a ≤ 1000000000) (ht : -1000000000 ≤ to) (ht2 : to ≤ 1000000000)
    (k : Nat) (hk : loc os a = some k) (hne : a ≠ to) (h3 : (ob os to).isSome = true) : Calls Try.prog 61 #[.pointer (some ⟨b, 0, none⟩), .int .i64 a, .int .i64 to] w (RetHp (.bool true) b G (upd os k (fun o => overO o to)) m w) := by
  have F40 := Lib.hid (head_o h a (by omega) (by omega))
  have F41 := Lib.hid (fun W (hb : Below w.heap.size w W) => head_o (h.below hb) to (by omega) (by omega))
  have F42 := Lib.hid (fun W => is_any (hdo os a).t (hdo os a).p (hdo os a).n (hdo os a).s W)
  have F43 := Lib.hid (fun W => is_any (hdo os to).t (hdo os to).p (hdo os to).n (hdo os to).s W)
  rw [is_ob] at F42 F43
  rw [h3] at F43
  have e42 : (ob os a).isSome = true := by rw [ob_loc hk]; rfl
  rw [e42] at F42
  have hbl := h.1.lt
  obtain ⟨hkl, hka⟩ := loc_some hk
  have hok := h.2.1 _ (List.getElem_mem hkl)
  have hb1 := hok.b1
  have hb2 := hok.b2
  have hsz : os[k].size = os[k].body.length + 1 := rfl
  have hwh := wds_head hkl
  have hwb := wds_body hkl 0 (by omega)
  rw [Nat.add_zero] at hwb
  obtain ⟨j, hj⟩ : ∃ j, j = adr os k := ⟨_, rfl⟩
  rw [← hj] at hwh hwb
  have hjl : j < (wds os).length := (List.getElem?_eq_some_iff.1 hwh).1
  have hjl2 : j + 1 < (wds os).length := (List.getElem?_eq_some_iff.1 hwb).1
  have hje := (List.getElem?_eq_some_iff.1 hwh).2
  have hje2 := (List.getElem?_eq_some_iff.1 hwb).2
  rw [← hj] at hka
  have hq : (a == to) = false := by simpa using hne
  subst hka
  have MID : Hid (∀ W g, Below w.heap.size w W → G = some g → Hp ((((W.setCell ⟨g, j * 5, none⟩ (.int .u8 5)).setCell ⟨g, j * 5 + 1, none⟩ (.int .u8 1)).setCell ⟨g, j * 5 + 2, none⟩ (.int .u8 0)).setCell ⟨g, j * 5 + 3, none⟩ (.int .u8 (os[k].size : Nat))) b G ((wds os).set j ⟨5, 1, 0, os[k].size, 0⟩) m ∧
      Fr (own b G) w ((((W.setCell ⟨g, j * 5, none⟩ (.int .u8 5)).setCell ⟨g, j * 5 + 1, none⟩ (.int .u8 1)).setCell ⟨g, j * 5 + 2, none⟩ (.int .u8 0)).setCell ⟨g, j * 5 + 3, none⟩ (.int .u8 (os[k].size : Nat)))) := by
    intro W g hW hG
    refine ⟨?_, ((((Fr.of_below hW).setCell (.inr hG) _).setCell (.inr hG) _).setCell (.inr hG) _).setCell (.inr hG) _⟩
    exact (h.below hW).1.puth hG j hjl ⟨5, 1, 0, os[k].size, 0⟩ ⟨by simp, by simp, by simp, by simp only; omega⟩ (by rw [hje]; rfl)
  have hje3 : ((wds os).set j ⟨5, 1, 0, os[k].size, 0⟩)[j + 1]'(by rw [List.length_set]; exact hjl2) = ⟨0, 0, 0, 0, os[k].body[0]⟩ := by rw [List.getElem_set_ne (by omega), hje2]
  have FIN : Hid (∀ V g, Hp V b G ((wds os).set j ⟨5, 1, 0, os[k].size, 0⟩) m → Fr (own b G) w V → G = some g → HpO (V.setCell ⟨g, (j + 1) * 5 + 4, none⟩ (.int .i64 to)) b G (upd os k (fun o => overO o to)) m ∧
      Fr (own b G) w (V.setCell ⟨g, (j + 1) * 5 + 4, none⟩ (.int .i64 to))) := by
    intro V g h9 hV hG
    refine ⟨?_, hV.setCell (.inr hG) _⟩
    have h10 := h9.putv hG (j + 1) (by rw [List.length_set]; exact hjl2) to
    rw [hje3] at h10
    rw [upd_eq hkl]
    refine h.put hkl (by simp [overO]) (overO_ok hok to) (fun p hp => ?_) ?_
    · rw [overO_ptrs _ _ hb1] at hp
      simp at hp
      subst hp
      exact .inr h3
    · rw [wds_overO hkl to (by omega), ← hj]; exact h10
  have HC := Lib.hid (fun W (hb : Below w.heap.size w W) => (h.1.below hb).cell)
  have hwl : (wds os).length ≤ 1000000 := by obtain ⟨_, _, _, _, h1, _⟩ := h.1; exact h1
  generalize hdo os to = y at F41 F43
  generalize hdo os (j : Int) = x at F40 F42
  have hs1 : (wds os)[j].s = os[k].size := by rw [hje]; rfl
  obtain ⟨sz, hszd⟩ : ∃ sz, sz = os[k].size := ⟨_, rfl⟩
  rw [← hszd] at MID FIN hs1
  have hl2 : ((wds os).set j (⟨5, 1, 0, sz, 0⟩ : Wd)).length = (wds os).length := List.length_set
  generalize (wds os).set j (⟨5, 1, 0, sz, 0⟩ : Wd) = l2 at MID FIN hl2
  clear h hk hj hok hb1 hb2 hsz hwh hwb hje hje2 hje3 hszd h3 hne e42
  go_enter Try.func61, Try.ntmps61
  go_wp2_with fail
  refine F40.out.mono ?_
  rintro e w1 ⟨rfl, hw1⟩
  have HB1 := Lib.hid hw1
  clear hw1 F40
  go_wp2_with fail
  refine (F42.out _).mono ?_
  rintro e w2 ⟨rfl, hw2⟩
  have HB2 := Lib.hid (HB1.out.trans (hw2.mono HB1.out.size))
  clear hw2 F42
  go_wp2_with fail
  refine (F41.out _ HB2.out).mono ?_
  rintro e w3 ⟨rfl, hw2⟩
  have HB3 := Lib.hid (HB2.out.trans (hw2.mono HB2.out.size))
  clear hw2
  go_wp2_with fail
  refine (F43.out _).mono ?_
  rintro e w4 ⟨rfl, hw2⟩
  have HB4 := Lib.hid (HB3.out.trans (hw2.mono HB3.out.size))
  clear hw2
  obtain ⟨ao, cap, hc0, _, _, hcap, hc⟩ := HC.out w4 HB4.out
  obtain ⟨g, rfl, hG, ⟨cc, hcc⟩, c0, c1, c2, c3, c4⟩ := hc j hjl
  rw [hs1] at c3
  have F54 := Lib.hid (leadOn_any w4 g (j * 5) _ _ _ _ ⟨cc, hcc⟩ c0 c1 c2 c3)
  obtain ⟨m1, m2⟩ := MID.out w4 g HB4.out hG
  generalize hV : (((w4.setCell ⟨g, j * 5, none⟩ (.int .u8 5)).setCell ⟨g, j * 5 + 1, none⟩ (.int .u8 1)).setCell ⟨g, j * 5 + 2, none⟩ (.int .u8 0)).setCell ⟨g, j * 5 + 3, none⟩ (.int .u8 (sz : Nat)) = V at m1 m2 F54
  have M1 := Lib.hid m1
  have M2 := Lib.hid m2
  have HG := Lib.hid hG
  obtain ⟨L, hL⟩ : ∃ L, L = (wds os).length := ⟨_, rfl⟩
  have HL := Lib.hid (hl2.trans hL.symm)
  rw [← hL] at hc0 hcap hjl hjl2 hwl
  have hjL : (j : Int) < (L : Int) := by omega
  have hjL2 : (j : Int) + 1 < (L : Int) := by omega
  clear hc hL hcc HC hG c0 c1 c2 c3 c4 m1 m2 hV MID hl2 hs1
  go_wp2_with fail
  refine F54.out.mono ?_
  rintro e w5 ⟨rfl, rfl⟩
  obtain ⟨ao, cap2, hd0, _, _, hcap2, hd⟩ := M1.out.cell
  obtain ⟨g', hg', hG', ⟨cc, hcc⟩, _, _, _, _, d4⟩ := hd (j + 1) (by rw [HL.out]; exact hjl2)
  obtain rfl : g' = g := by rw [HG.out] at hG'; injection hG' with h; exact h.symm
  subst hg'
  have hfz := frozen_of_row w5 g' ((j + 1) * 5 + 4) _ _ hcc
  have HF := Lib.hid (FIN.out w5 g' M1.out M2.out HG.out)
  generalize (l2[j + 1]'(by rw [HL.out]; exact hjl2)).v = v0 at d4
  rw [HL.out] at hd0 hcap2
  clear hc0 hcap hd hcc hG' FIN M2 F54
  go_wp2_with fail
  go_ret
  exact ⟨rfl, G, HF.out.1, HF.out.2, fun k hk => .inl hk⟩
end Go.Proofs.Ytkekekdkfjjifaa
namespace Go.Proofs.Ytkekekdkfjjifaa
open Go Go.RowKit
set_option linter.unusedVariables false
set_option linter.unusedSimpArgs false
theorem tag_nxt {os : List Ob} (a : Int) : (nxt os a).isSome = ((hdo os a).t == 5) := by
  unfold nxt hdo
  cases h : ob os a with
  | none => rfl
  | some o =>
    simp only [Ob.head]
    split <;> rename_i h5
    · simp [h5]
    · simp [h5]
/-- How far the look for a ring is: the one that is held, how many steps ahead. -/
def FInv (os : List Ob) (a : Int) (w : World) (av hv sv mv : Value) (wr : World) : Prop :=
  ∃ h s : Nat, av = .int .i64 (it os (h + s) a) ∧ hv = .int .i64 (it os h a) ∧ sv = .int .i64 (s : Int) ∧ mv = .int .i64 ((h : Int) + 1) ∧ s ≤ h ∧ ledTo os a (h + s) ∧ (∀ i, h < i → i ≤ h + s → it os i a ≠ it os h a) ∧ h ≤ 2 * os.length ∧ s ≤ os.length ∧ Below w.heap.size w wr
def far (os : List Ob) (sv mv : Value) : Nat := 4 * os.length + 4 - (intOf sv + intOf mv).toNat
theorem led_next {os : List Ob} {a : Int} {n : Nat} (hl : ledTo os a n) (h : (nxt os (it os n a)).isSome = true) : ledTo os a (n + 1) := by
  intro i hi
  by_cases e : i = n
  · rw [e]; exact h
  · exact hl i (by omega)
theorem head_get (l : List Int) (h : 0 < l.length) : l[0] = l.headD 0 := by
  cases l with
  | nil => simp at h
  | cons y l => rfl
set_option maxHeartbeats 8000000 in
set_option maxRecDepth 100000 in
theorem follow_o {w : World} {b : Nat} {G : Option Nat} {os : List Ob} {m : Nat} (h : HpO w b G os m) (a : Int) (ha : -9223372036854775808 ≤ a) (ha2 : a ≤ 9223372036854775807) :
    Calls Try.prog 25 #[.pointer (some ⟨b, 0, none⟩), .int .i64 a] w (RetV (.int .i64 (folOf os a)) w) := by
  have F40 := Lib.hid (head_o h a (by omega) (by omega))
  have F42 := Lib.hid (fun W => is_any (hdo os a).t (hdo os a).p (hdo os a).n (hdo os a).s W)
  rw [is_ob] at F42
  have hbl := h.1.lt
  generalize hdo os a = x at F40 F42
  cases hq : ob os a with
  | none =>
    rw [hq] at F42
    have HR : Hid (folOf os a = -1) := by show _ = _; unfold folOf fol; rw [hq]
    rw [HR.out]
    clear h hq
    go_enter Try.func25, Try.ntmps25
    go_wp2_with fail
    refine F40.out.mono ?_
    rintro e w1 ⟨rfl, hw1⟩
    have HB1 := Lib.hid hw1
    clear hw1 F40
    go_wp2_with fail
    refine (F42.out _).mono ?_
    rintro e w2 ⟨rfl, hw2⟩
    have HB2 := Lib.hid (HB1.out.trans (hw2.mono HB1.out.size))
    clear hw2 F42
    go_wp2_with fail
    go_ret
    exact ⟨rfl, HB2.out⟩
  | some q0 =>
    rw [hq] at F42
    have HH := Lib.hid h
    have HQ := Lib.hid hq
    have FT := Lib.hid (fun (W : World) (c : Int) (hb : Below w.heap.size w W) (h1 : -9223372036854775808 ≤ c) (h2 : c ≤ 9223372036854775807) => tagm_any (h.below hb) c h1 h2)
    have hol : os.length ≤ 1000000 := by
      have h1 := h.2.2.2
      have : ∀ l : List Ob, l.length ≤ total l := by
        intro l
        induction l with
        | nil => simp
        | cons o l ih => simp only [List.length_cons, total, Ob.size]; omega
      have := this os
      omega
    have h0 : FInv os a w (.int .i64 a) (.int .i64 a) (.int .i64 0) (.int .i64 1) w :=
      ⟨0, 0, rfl, rfl, rfl, rfl, Nat.le_refl _, fun i hi => by omega, fun i h1 h2 => by omega, by omega, by omega, Below.refl _ _⟩
    clear h hq
    go_enter Try.func25, Try.ntmps25
    go_wp2_with fail
    refine F40.out.mono ?_
    rintro e w1 ⟨rfl, hw1⟩
    have HB1 := Lib.hid hw1
    clear hw1 F40
    go_wp2_with fail
    refine (F42.out _).mono ?_
    rintro e w2 ⟨rfl, hw2⟩
    have HB2 := Lib.hid (HB1.out.trans (hw2.mono HB1.out.size))
    clear hw2 F42 HB1
    have H0 : Hid (FInv os a w (.int .i64 a) (.int .i64 a) (.int .i64 0) (.int .i64 1) w2) :=
      ⟨0, 0, rfl, rfl, rfl, rfl, Nat.le_refl _, fun i hi => by omega, fun i h1 h2 => by omega, by omega, by omega, HB2.out⟩
    clear h0
    go_wp2_with fail
    go_loopw [1, 5, 6, 7] (fun av hv sv mv wr => FInv os a w av hv sv mv wr) (fun _ _ sv mv _ => far os sv mv)
    case atStart => exact H0.out
    case round =>
      clear H0
      obtain ⟨h, s, rfl, rfl, rfl, rfl, hsh, hled, hdif, hh2, hs2, hbel⟩ := hrel
      obtain ⟨c, hc⟩ : ∃ c, c = it os (h + s) a := ⟨_, rfl⟩
      obtain ⟨q, hqc⟩ := it_valid HH.out.2.2.1 HH.out.2.1 HQ.out hled (h + s) (Nat.le_refl _)
      rw [← hc] at hqc ⊢
      obtain ⟨k, hk, hlk, hck, hqk⟩ := ob_some hqc
      have htl := adr_le hk
      have htm := HH.out.2.2.2
      have hc0 : 0 ≤ c := by omega
      have hc1 : c ≤ 1000000 := by unfold Ob.size at htl; omega
      have F18 := Lib.hid (FT.out wr c hbel (by omega) (by omega))
      have hok := HH.out.2.1 _ (List.getElem_mem hk)
      have htag : (hdo os c).t = q.tag := by unfold hdo; rw [hqc]; rfl
      by_cases h5 : q.tag = 5
      · have q1 : (((hdo os c).t : Int) == 5) = true := by rw [htag, h5]; rfl
        obtain ⟨v, hv⟩ : ∃ v, v = q.body.headD 0 := ⟨_, rfl⟩
        have hnx : nxt os c = some v := by unfold nxt; rw [hqc]; simp only [h5, if_pos]; rw [hv]
        have hit : it os (h + s + 1) a = v := by show (nxt os (it os (h + s) a)).getD 0 = v; rw [← hc, hnx]; rfl
        have hled1 : ledTo os a (h + s + 1) := led_next hled (by rw [← hc, hnx]; rfl)
        have hwb := wds_body hk 0 hok.b1
        have hbv : os[k].body[0]'(hok.b1) = v := by
          rw [hv, hqk]; exact head_get _ _
        rw [hbv, Nat.add_zero] at hwb
        obtain ⟨j, hj⟩ : ∃ j, j = adr os k := ⟨_, rfl⟩
        rw [← hj] at hck hwb
        subst hck
        have hjl : j + 1 < (wds os).length := (List.getElem?_eq_some_iff.1 hwb).1
        have hje : ∀ hh : j + 1 < (wds os).length, (wds os)[j + 1]'hh = ⟨0, 0, 0, 0, v⟩ := fun _ => (List.getElem?_eq_some_iff.1 hwb).2
        have HC := Lib.hid (fun W (hb : Below w.heap.size w W) => (HH.out.1.below hb).cell)
        have hwl : (wds os).length ≤ 1000000 := by obtain ⟨_, _, _, _, h1, _⟩ := HH.out.1; exact h1
        obtain ⟨hv0, hv1⟩ : -9223372036854775808 ≤ v ∧ v ≤ 9223372036854775807 := by
          obtain ⟨q2, hq2⟩ := HH.out.2.2.1.next HH.out.2.1 hnx
          obtain ⟨k2, hk2, _, e2, _⟩ := ob_some hq2
          have := adr_le hk2
          unfold Ob.size at this
          omega
        obtain ⟨L, hL⟩ : ∃ L, L = (wds os).length := ⟨_, rfl⟩
        obtain ⟨u, hu⟩ : ∃ u, u = it os h a := ⟨_, rfl⟩
        have HU := Lib.hid hu
        rw [← hu]
        have HLED := Lib.hid hled1
        have HDIF := Lib.hid hdif
        have HIT := Lib.hid hit
        have HBW := Lib.hid hbel
        have HJE := Lib.hid hje
        have HLL := Lib.hid hL
        rw [← hL] at hjl hwl
        have hjL : (j : Int) + 1 < (L : Int) := by omega
        clear hled hled1 hdif hc hqc hlk hqk hok htag h5 hv hnx hit hwb hbv hje hL hu hbel htl htm hc0 hc1 hj
        by_cases hvu : v = u
        · have q2 : (v == u) = true := by simpa using hvu
          have HR : Hid (folOf os a = -1) := fol_round HH.out.2.2.1 HH.out.2.1 HQ.out (i := h) (j := h + s + 1) (by omega) (by rw [HIT.out, hvu, HU.out]) HLED.out
          clear hvu
          go_wp2_with fail
          refine F18.out.mono ?_
          rintro e w3 ⟨rfl, hw3⟩
          have HB3 := Lib.hid (HBW.out.trans (hw3.mono HBW.out.size))
          clear hw3 F18
          obtain ⟨ao, cap, hc0, _, _, hcap, hc⟩ := HC.out w3 HB3.out
          obtain ⟨g, rfl, hG, _, _, _, _, _, hcv⟩ := hc (j + 1) (by rw [← HLL.out]; exact hjl)
          rw [HJE.out _] at hcv
          simp only at hcv
          rw [← HLL.out] at hc0 hcap
          clear hc hG HC
          go_wp2_with fail
          go_ret
          exact ⟨by rw [HR.out]; rfl, HB3.out⟩
        · have q2 : (v == u) = false := by simpa using hvu
          have hD2 : ∀ i, h < i → i ≤ h + s + 1 → it os i a ≠ it os h a := by
            intro i h1 h2
            by_cases e : i = h + s + 1
            · rw [e, HIT.out, ← HU.out]; exact hvu
            · exact HDIF.out i h1 (by omega)
          have HD2 := Lib.hid hD2
          have hbnd : os.length ≤ h → s + 1 < os.length := fun hh => held_bound (s := s + 1) HH.out.2.2.1 HH.out.2.1 HQ.out (by exact HLED.out) (fun i h1 h2 => hD2 i h1 (by omega)) hh
          clear hvu hD2
          by_cases hsh2 : s = h
          · have q3 : (((s : Int) + 1) == ((h : Int) + 1)) = true := by rw [hsh2]; simp
            have hhn : h < os.length := by
              apply Classical.byContradiction
              intro hge
              have := hbnd (by omega)
              omega
            have HREL : Hid (∀ w3, Below w.heap.size w w3 → FInv os a w (.int .i64 v) (.int .i64 v) (.int .i64 0) (.int .i64 (2 * ((h : Int) + 1))) w3) := by
              intro w3 hb3
              refine ⟨h + s + 1, 0, by rw [Nat.add_zero, HIT.out], by rw [HIT.out], rfl, by congr 1; push_cast; omega, by omega, by rw [Nat.add_zero]; exact HLED.out, fun i h1 h2 => by omega, by omega, by omega, hb3⟩
            clear hbnd
            go_wp2_with fail
            refine F18.out.mono ?_
            rintro e w3 ⟨rfl, hw3⟩
            have HB3 := Lib.hid (HBW.out.trans (hw3.mono HBW.out.size))
            clear hw3 F18
            obtain ⟨ao, cap, hc0, _, _, hcap, hc⟩ := HC.out w3 HB3.out
            obtain ⟨g, rfl, hG, _, _, _, _, _, hcv⟩ := hc (j + 1) (by rw [← HLL.out]; exact hjl)
            rw [HJE.out _] at hcv
            simp only at hcv
            rw [← HLL.out] at hc0 hcap
            have H9 := Lib.hid (HREL.out w3 HB3.out)
            clear hc hG HC HREL
            go_wp2_with fail
            go_roundw
            case rel => exact H9.out
            case measure => simp [far, intOf]; omega
          · have q3 : (((s : Int) + 1) == ((h : Int) + 1)) = false := by simp; omega
            have HREL : Hid (∀ w3, Below w.heap.size w w3 → FInv os a w (.int .i64 v) (.int .i64 u) (.int .i64 ((s : Int) + 1)) (.int .i64 ((h : Int) + 1)) w3) := by
              intro w3 hb3
              refine ⟨h, s + 1, by rw [show h + (s + 1) = h + s + 1 by omega, HIT.out], by rw [HU.out], by go_num, rfl, by omega, by exact HLED.out, fun i h1 h2 => HD2.out i h1 (by omega), hh2, ?_, hb3⟩
              rcases Nat.lt_or_ge h os.length with h1 | h1
              · omega
              · have := hbnd h1; omega
            clear hbnd
            go_wp2_with fail
            refine F18.out.mono ?_
            rintro e w3 ⟨rfl, hw3⟩
            have HB3 := Lib.hid (HBW.out.trans (hw3.mono HBW.out.size))
            clear hw3 F18
            obtain ⟨ao, cap, hc0, _, _, hcap, hc⟩ := HC.out w3 HB3.out
            obtain ⟨g, rfl, hG, _, _, _, _, _, hcv⟩ := hc (j + 1) (by rw [← HLL.out]; exact hjl)
            rw [HJE.out _] at hcv
            simp only at hcv
            rw [← HLL.out] at hc0 hcap
            have H9 := Lib.hid (HREL.out w3 HB3.out)
            clear hc hG HC HREL
            go_wp2_with fail
            go_roundw
            case rel => exact H9.out
            case measure => simp [far, intOf]; omega
      · have q1 : (((hdo os c).t : Int) == 5) = false := by rw [htag]; simp; omega
        have HR : Hid (folOf os a = c) := by
          show _ = _
          rw [hc]; exact fol_end HH.out.2.2.1 HH.out.2.1 HQ.out hled (r := q) (by rw [← hc]; exact hqc) h5
        have HBW := Lib.hid hbel
        clear hled hdif hc hqc hlk hqk hok htag h5 hbel htl htm hck
        go_wp2_with fail
        refine F18.out.mono ?_
        rintro e w3 ⟨rfl, hw3⟩
        have HB3 := Lib.hid (HBW.out.trans (hw3.mono HBW.out.size))
        clear hw3 F18
        go_wp2_with fail
        go_ret
        exact ⟨by rw [HR.out]; rfl, HB3.out⟩
end Go.Proofs.Ytkekekdkfjjifaa
namespace Go.Proofs.Ytkekekdkfjjifaa
open Go Go.RowKit
set_option linter.unusedVariables false
set_option linter.unusedSimpArgs false
/-- What a slice hands over: so many elements, these cells. -/
def SrcA (w : World) (size : Nat) (x : Value) (m : Nat) (news : List Value) : Prop :=
  (∃ c, x = .slice none 0 c ∧ m = 0 ∧ news = []) ∨ ∃ ad c, x = .slice (some ad) m c ∧ news.length = m * size ∧ (∀ j u, news[j]? = some u → w.cell? (ad.add j) = some u) ∧ ∀ u ∈ news, u.oneCell' = true
theorem run_appG {t e : TypeId} {z : Value} {size bytes : Nat} (hu : Try.prog.underlying t = some (.slice e)) (hinf : (Try.prog.info? e).map (fun i => (i.zero, i.size, i.bytes)) = some (some z, size, bytes)) (hzs : z.cells.size = size) (hsz : 0 < size) (hb1 : bytes ≤ 100)
    (w : World) (B ty : Nat) (v : Value) (n : Nat) (xs : List Value) (hown : w.ownsRow B e size v n xs) (x : Value) (m : Nat) (news : List Value) (hx : SrcA w size x m news) (hn : n + m ≤ 1000000000) (hB : B ≤ w.heap.size) :
    ∃ v' w', (Builtin.append_ #[t, t] ty #[v, x]).run Try.prog w = .ok v' w' ∧ w'.ownsRow B e size v' (n + m) (xs ++ news) ∧ w.grownBy w' v.ownBlock ∧ (∀ k, v'.ownBlock = some k → v.ownBlock = some k ∨ w.heap.size ≤ k) := by
  obtain ⟨i, hi, hz, hs, hb⟩ := info_parts hinf
  rcases hx with ⟨c, rfl, rfl, rfl⟩ | ⟨ad, c, rfl, hl, hnews, h1⟩
  · refine ⟨v, w, ?_, by simpa using hown, ⟨rfl, rfl, rfl, Nat.le_refl _, fun _ _ _ => rfl⟩, fun k hk => .inl hk⟩
    rcases hown.2 with ⟨rfl, rfl⟩ | ⟨g, cap, cur, rfl, hbg, hg, hnc, hcm, hcs, htake⟩
    · simp [Builtin.append_, run_underlying hu, sizeOf, typeInfo, hi, Builtin.lenOf, Builtin.firstCells, loadCells, loadCellsFrom]
    · have hr := run_append_room_src (P := Try.prog) w t t ty e i hu hi g 0 n cap (.slice none 0 c) 0 [] (Src.ofNil w hu c) (by omega) (by simp) (by simp)
      simpa [World.setCells] using hr
  · have hmul : (n + m) * bytes ≤ 100 * 1000000000 := by
      have h1 := Nat.mul_le_mul hn hb1
      omega
    obtain ⟨v', w', hr, h2, h3, _⟩ := run_append_own (P := Try.prog) w B t ty e i z size bytes hu hi hz hs hb hzs hsz v n xs hown ad m c news hl hnews h1 (by unfold maxLen; omega) (by omega) hB
    refine ⟨v', w', hr, h2, h3, ?_⟩
    have hl2 : news.length = m * i.size := by rw [hs]; exact hl
    rcases hown.2 with ⟨rfl, rfl⟩ | ⟨g, cap, cur, rfl, hbg, hg, hnc, hcm, hcs, htake⟩
    · by_cases hm : m = 0
      · subst hm
        have hn0 : news = [] := List.eq_nil_of_length_eq_zero (by simpa using hl)
        subst hn0
        have hr2 : (Builtin.append_ #[t, t] ty #[.slice none 0 0, .slice (some ad) 0 c]).run Try.prog w = .ok (.slice none 0 0) w := by
          simp [Builtin.append_, run_underlying hu, sizeOf, typeInfo, hi, Builtin.lenOf, Builtin.firstCells, loadCells, loadCellsFrom]
        rw [hr] at hr2
        injection hr2 with e1 e2
        rw [e1]
        intro k hk
        simp [Value.ownBlock] at hk
      · rw [Nat.zero_add] at hmul
        have hr2 := run_append_nil (P := Try.prog) w t ty e i z hu hi hz ad m c news hl2 hnews (by omega) (by omega) (by rw [hb]; omega)
        rw [hr] at hr2
        injection hr2 with e1 e2
        rw [e1]
        intro k hk
        have : w.heap.size = k := by injection hk
        exact .inr (by omega)
    · by_cases hroom : n + m ≤ cap
      · have hfit : n * i.size + news.length ≤ cur.size := by rw [hs, hl, hcs, ← Nat.add_mul]; exact Nat.mul_le_mul_right _ hroom
        have hr2 := run_append_room (P := Try.prog) w t ty e i hu hi g n cap cur hg ad m c news hl2 hnews h1 hroom hfit
        rw [hr] at hr2
        injection hr2 with e1 e2
        rw [e1]
        exact fun k hk => .inl hk
      · have hlo : xs.length = n * i.size := by rw [hs]; exact hown.1
        have hr2 := run_append_grow (P := Try.prog) w t ty e i z hu hi hz ⟨g, 0, none⟩ n cap xs hlo (hown.cells (g := g) rfl) ad m c news hl2 hnews (by omega) (by omega) (growslice_fits (by omega) (by rw [hb]; omega))
        rw [hr] at hr2
        injection hr2 with e1 e2
        rw [e1]
        intro k hk
        have : w.heap.size = k := by injection hk
        exact .inr (by omega)
theorem wp_appG {t e : TypeId} {z : Value} {size bytes : Nat} (hu : Try.prog.underlying t = some (.slice e)) (hinf : (Try.prog.info? e).map (fun i => (i.zero, i.size, i.bytes)) = some (some z, size, bytes)) (hzs : z.cells.size = size) (hsz : 0 < size) (hb1 : bytes ≤ 100)
    {o : Oper} {a : Act} {w : World} {K : Act → World → Prop} {Q : Exit → Act → World → Prop} (s x : Operand)
    (ho : o.op = .call { callee := .builtin .append, args := #[s, x], argTypes := #[t, t] }) (B : Nat) (v : Value) (n : Nat) (xs : List Value) (hs : a.eval s = v) (hown : w.ownsRow B e size v n xs)
    (vx : Value) (hx : a.eval x = vx) (m : Nat) (news : List Value) (hsrc : SrcA w size vx m news) (hn : n + m ≤ 1000000000) (hB : B ≤ w.heap.size)
    (h : ∀ v' w', w'.ownsRow B e size v' (n + m) (xs ++ news) → w.grownBy w' v.ownBlock → (∀ k, v'.ownBlock = some k → v.ownBlock = some k ∨ w.heap.size ≤ k) → K (a.put o.dst v') w') : o.wp Try.prog a w K Q := by
  obtain ⟨v', w', hr, h2, h3, h4⟩ := run_appG hu hinf hzs hsz hb1 w B o.type v n xs hown vx m news hsrc hn hB
  unfold Oper.wp execOp
  simp only [ho, resolve, invoke, builtin, Sem.run_bind, Sem.run_pure, Result.andThen_ok, List.map_toArray, List.map_cons, List.map_nil, hs, hx, hr]
  exact h v' w' h2 h3 h4
/-- Of numbers. -/
theorem wp_appI {o : Oper} {a : Act} {w : World} {K : Act → World → Prop} {Q : Exit → Act → World → Prop} (s x : Operand)
    (ho : o.op = .call { callee := .builtin .append, args := #[s, x], argTypes := #[22, 22] }) (B : Nat) (v : Value) (n : Nat) (xs : List Value) (hs : a.eval s = v) (hown : w.ownsRow B 3 1 v n xs)
    (vx : Value) (hx : a.eval x = vx) (m : Nat) (news : List Value) (hsrc : SrcA w 1 vx m news) (hn : n + m ≤ 1000000000) (hB : B ≤ w.heap.size)
    (h : ∀ v' w', w'.ownsRow B 3 1 v' (n + m) (xs ++ news) → w.grownBy w' v.ownBlock → (∀ k, v'.ownBlock = some k → v.ownBlock = some k ∨ w.heap.size ≤ k) → K (a.put o.dst v') w') : o.wp Try.prog a w K Q :=
  wp_appG Try.underlying22 infoI3 rfl (by decide) (by decide) s x ho B v n xs hs hown vx hx m news hsrc hn hB h
/-- One number in a block of its own. -/
theorem srcA_one {w : World} {g : Nat} {T : TypeId} {d : Value} (h : w.heap[g]? = some (.cells #[d] T (0, 0))) (h1 : d.oneCell' = true) (c : Nat) : SrcA w 1 (.slice (some ⟨g, 0, none⟩) 1 c) 1 [d] := by
  refine .inr ⟨_, c, rfl, rfl, fun j u hu => ?_, fun u hu => ?_⟩
  · have hj : j = 0 := by
      rcases j with _ | j
      · rfl
      · simp at hu
    subst hj
    have e : (⟨g, 0, none⟩ : Addr).add 0 = ⟨g, 0, none⟩ := by unfold Addr.add; split <;> simp_all
    rw [e, cell_of_row w g 0 _ _ _ h]; simpa using hu
  · simp at hu; subst hu; exact h1
theorem wpList_wantedR {P : Program} {ops : Array Oper} {rest : List Oper} {o : Oper} {a : Act} {w : World} {Q : Exit → Act → World → Prop} (hgd : o.guard = none) (h : ∀ K : Act → World → Prop, (∀ a' w', wpList P ops Q rest a' w' → K a' w') → o.wp P a w K Q) : wpList P ops Q (o :: rest) a w :=
  wpList_plain hgd fun K hK => h K hK
end Go.Proofs.Ytkekekdkfjjifaa
namespace Go.Proofs.Ytkekekdkfjjifaa
open Go Go.RowKit
set_option linter.unusedVariables false
set_option linter.unusedSimpArgs false
/-- All addresses, rising. -/
def adrs (os : List Ob) : List Int := (List.range os.length).map (fun i => (adr os i : Int))
theorem adrs_len (os : List Ob) : (adrs os).length = os.length := by simp [adrs]
theorem adrs_get {os : List Ob} {i : Nat} (h : i < (adrs os).length) : (adrs os)[i] = adr os i := by simp [adrs]
theorem ivs_take {l : List Int} {k : Nat} (h : k < l.length) : (l.take (k + 1)).map (Value.int .i64) = (l.take k).map (Value.int .i64) ++ [.int .i64 l[k]] := by
  rw [List.take_succ_eq_append_getElem h, List.map_append]; rfl
def ObInv (os : List Ob) (w : World) (v av : Value) (wr : World) : Prop :=
  ∃ k : Nat, k ≤ os.length ∧ av = .int .i64 (adr os k : Nat) ∧ wr.ownsRow w.heap.size 3 1 v k (((adrs os).take k).map (Value.int .i64)) ∧ Below w.heap.size w wr
theorem total_len (l : List Ob) : l.length ≤ total l := by
  induction l with
  | nil => simp
  | cons o l ih => simp only [List.length_cons, total, Ob.size]; omega
set_option maxHeartbeats 8000000 in
set_option maxRecDepth 100000 in
theorem objects_o {w : World} {b : Nat} {G : Option Nat} {os : List Ob} {m : Nat} (h : HpO w b G os m) :
    Calls Try.prog 21 #[.pointer (some ⟨b, 0, none⟩)] w (RetI (adrs os) w) := by
  have hbl := h.1.lt
  have HH := Lib.hid h
  have F48 := Lib.hid (fun W (hb : Below w.heap.size w W) => end_any (h.below hb).1)
  rw [wds_length] at F48
  have htm := h.2.2.2
  have hol := total_len os
  clear h
  have H0 : Hid (ObInv os w (.slice none 0 0) (.int .i64 0) w) := ⟨0, Nat.zero_le _, rfl, World.ownsRow_nil _ _ _ _, Below.refl _ _⟩
  go_enter Try.func21, Try.ntmps21
  go_wp2_with fail
  go_loopw [3, 4] (fun v av wr => ObInv os w v av wr) (fun _ av _ => total os - (intOf av).toNat)
  case atStart => exact H0.out
  case round =>
    clear H0
    obtain ⟨k, hk, rfl, hown, hbel⟩ := hrel
    have hsz := hbel.size
    have HO := Lib.hid hown
    have HB := Lib.hid hbel
    have F := Lib.hid (F48.out wr hbel)
    obtain ⟨ao, cap, hv3⟩ : ∃ ao cap, u3 = .slice ao k cap := by
      rcases hown.2 with ⟨rfl, h0⟩ | ⟨g, cap, cur, rfl, _⟩
      · exact ⟨none, 0, by rw [h0]⟩
      · exact ⟨_, _, rfl⟩
    clear hown hbel
    by_cases hkn : k < os.length
    · have hk9 : k + 1 ≤ 1000000000 := by omega
      have hlt := adr_le hkn
      have hnx := adr_next hkn
      have hos : os[k].size = os[k].body.length + 1 := rfl
      have hok := HH.out.2.1 _ (List.getElem_mem hkn)
      have hb2 := hok.b2
      obtain ⟨a, ha⟩ : ∃ a, a = adr os k := ⟨_, rfl⟩
      obtain ⟨N, hN⟩ : ∃ N, N = total os := ⟨_, rfl⟩
      have q1 : decide ((a : Int) < (N : Int)) = true := decide_eq_true (by omega)
      have hwh := wds_head hkn
      rw [← ha] at hwh hnx hlt ⊢
      rw [← hN] at F htm hlt
      have hje : ∀ hh : a < (wds os).length, (wds os)[a]'hh = os[k].head := fun _ => (List.getElem?_eq_some_iff.1 hwh).2
      have HJE := Lib.hid hje
      have hwl := wds_length os
      rw [← hN] at hwl
      obtain ⟨sz, hsz9⟩ : ∃ sz, sz = os[k].size := ⟨_, rfl⟩
      have F49 := Lib.hid (fun W => size_any os[k].tag os[k].np os[k].nn sz (by omega) W)
      have HHD : Hid (os[k].head.t = os[k].tag ∧ os[k].head.p = os[k].np ∧ os[k].head.n = os[k].nn ∧ os[k].head.s = sz) := ⟨rfl, rfl, rfl, hsz9.symm⟩
      rw [← hsz9] at hnx hlt hos
      generalize os[k].tag = ta at F49 HHD
      generalize os[k].np = pa at F49 HHD
      generalize os[k].nn = na at F49 HHD
      have HST : Hid (∀ v' w9, w9.ownsRow w.heap.size 3 1 v' (k + 1) ((((adrs os).take k).map (Value.int .i64)) ++ [.int .i64 (a : Nat)]) → Below w.heap.size w w9 → ObInv os w v' (.int .i64 ((a : Int) + (sz : Int))) w9) := by
        intro v' w9 h1 h2
        refine ⟨k + 1, hkn, by rw [hnx]; push_cast; rfl, ?_, h2⟩
        have hka : k < (adrs os).length := by rw [adrs_len]; exact hkn
        rw [ivs_take hka, adrs_get hka, ← ha]
        exact h1
      have HSR := Lib.hid (fun (W : World) => srcA_one (d := .int .i64 (a : Nat)) (T := 3) (alloc_at W (.cells #[.int .i64 (a : Nat)] 3)) rfl 1)
      have HWL := Lib.hid hwl
      have hsz2 : w.heap.size ≤ (wr.alloc (.cells #[.int .i64 (a : Nat)] 3)).heap.size := by simp; omega
      have HO2 := Lib.hid (HO.out.alloc (.cells #[.int .i64 (a : Nat)] 3))
      have HB2 := Lib.hid (HB.out.alloc hsz (.cells #[.int .i64 (a : Nat)] 3))
      have hvlt : ∀ x, u3.ownBlock = some x → w.heap.size ≤ x := fun x hx => (HO.out.lt x hx).1
      have HVL := Lib.hid hvlt
      subst hv3
      have haN : (a : Int) < (N : Int) := by omega
      have HHL : Hid (a + sz ≤ N) := hlt
      have hszb : sz ≤ 200 := by omega
      have hszp : 1 ≤ sz := by omega
      have HNN := Lib.hid hN.symm
      clear hwh hje hok hvlt ha hN hsz9 hnx hlt hwl HO hos hb2
      go_wp2_with fail
      refine F.out.mono ?_
      rintro e w2 ⟨rfl, rfl⟩
      clear F
      go_wp2_with (refine wpList_wantedR (by rfl) fun K hK => ?_; refine wp_appI (Operand.tmp 23) (Operand.tmp 25) rfl w.heap.size (.slice ao k cap) k _ rfl HO2.out (.slice (some ⟨wr.heap.size, 0, none⟩) 1 1) rfl 1 _ (HSR.out wr) (by omega) hsz2 ?_; intro v' w9 hown9 hg9 hv9; have HB9 := Lib.hid (HB2.out.grown hg9 hsz2 (fun x hx => HVL.out x hx)); have HM := Lib.hid (HST.out v' w9 hown9 HB9.out); clear hown9 hg9 hv9 HST HO2; obtain ⟨aw, capw, hc0, _, _, hcap, hc⟩ := (HH.out.1.below HB9.out).cell; obtain ⟨g, rfl, hG, _, c0, c1, c2, c3, c4⟩ := hc a (by rw [HWL.out]; omega); rw [HJE.out, HHD.out.1] at c0; rw [HJE.out, HHD.out.2.1] at c1; rw [HJE.out, HHD.out.2.2.1] at c2; rw [HJE.out, HHD.out.2.2.2] at c3; rw [HWL.out] at hc0 hcap; clear hc c4 hG; refine hK _ _ ?_; clear hK K)
      refine (F49.out _).mono ?_
      rintro e w5 ⟨rfl, hb5⟩
      have HR5 : Hid (ObInv os w v' (.int .i64 ((a : Int) + (sz : Int))) w5) := by
        obtain ⟨k', h1, h2, h3, h4⟩ := HM.out
        refine ⟨k', h1, h2, ⟨h3.1, ?_⟩, h4.trans (hb5.mono h4.size)⟩
        rcases h3.2 with h | ⟨g1, cap1, cur1, e1, h5, h6, r⟩
        · exact .inl h
        · exact .inr ⟨g1, cap1, cur1, e1, h5, (hb5.block _ (Array.getElem?_eq_some_iff.1 h6).1).trans h6, r⟩
      have hm : Hid (a + sz ≤ N) := HHL.out
      clear hb5 HM c0 c1 c2 c3 hc0
      go_wp2_with fail
      go_roundw
      case rel => exact HR5.out
      case measure => rw [HNN.out]; simp [intOf]; have := hm.out; omega
    · have hkn2 : k = os.length := by omega
      obtain ⟨N, hN⟩ : ∃ N, N = total os := ⟨_, rfl⟩
      have e2 : adr os k = N := by rw [hkn2, adr_all, hN]
      rw [e2]
      rw [← hN] at F
      have q1 : decide ((N : Int) < (N : Int)) = false := decide_eq_false (by omega)
      have HE : Hid (wr.ownsRow w.heap.size 3 1 u3 (adrs os).length ((adrs os).map (Value.int .i64))) := by
        have := HO.out
        rw [List.take_of_length_le (by rw [adrs_len]; omega), hkn2, ← adrs_len] at this
        exact this
      clear hkn2 e2 hN HO
      subst hv3
      go_wp2_with fail
      refine F.out.mono ?_
      rintro e w2 ⟨rfl, rfl⟩
      clear F
      go_wp2_with fail
      go_ret
      exact ⟨_, rfl, HE.out, HB.out⟩
end Go.Proofs.Ytkekekdkfjjifaa
