/- Ptrs, Nums. -/
import Derived.Test.YtjecjlnkpbbanaaP2
namespace Go.Proofs.Ytjecjlnkpbbanaa
open Go Go.RowKit
set_option linter.unusedVariables false
set_option linter.unusedSimpArgs false
/-- A block's whole row. -/
theorem box_range {w : World} {g : Nat} {cs : Array Value} {T : TypeId} (h : w.heap[g]? = some (.cells cs T (0, 0))) : w.rangeAt g 0 cs.toList := fun j v hj => by
  rw [Nat.zero_add, cell_of_row w g j _ _ _ h]; simpa using hj
def ptrsOf (os : List Ob) (a : Int) : List Int := match ob os a with | some o => o.ptrs | none => []
def numsOf (os : List Ob) (a : Int) : List Int := match ob os a with | some o => o.nums | none => []
theorem ptrsOf_len {os : List Ob} (hk : Oks os) (a : Int) : (ptrsOf os a).length = (hdo os a).p := by
  unfold ptrsOf hdo
  cases h : ob os a with
  | none => rfl
  | some o => 
    have := (hk o (ob_mem h)).pn
    simp [Ob.ptrs, Ob.head]; omega
theorem numsOf_len {os : List Ob} (hk : Oks os) (a : Int) : (numsOf os a).length = (hdo os a).n := by
  unfold numsOf hdo
  cases h : ob os a with
  | none => rfl
  | some o => 
    have := (hk o (ob_mem h)).pn
    simp [Ob.nums, Ob.head]; omega
theorem ptrs_words {os : List Ob} (hk : Oks os) (a : Int) (i : Nat) (hi : i < (ptrsOf os a).length) : 0 ≤ a + 1 ∧ (wds os)[(a + 1).toNat + i]? = some ⟨0, 0, 0, 0, (ptrsOf os a)[i]⟩ := by
  have hlen := ptrsOf_len hk a
  obtain ⟨l, hl⟩ : ∃ l, l = ptrsOf os a := ⟨_, rfl⟩
  have hi' : i < l.length := by rw [hl]; exact hi
  have e : (ptrsOf os a)[i] = l[i] := by simp only [hl]
  rw [e]
  unfold ptrsOf at hl
  cases h : ob os a with
  | none => rw [h] at hl; simp only at hl; subst hl; simp at hi'
  | some o =>
    rw [h] at hl
    obtain ⟨k, hkl, h1, h2, rfl⟩ := ob_some h
    have hok := (hk _ (ob_mem h)).pn
    simp only [Ob.ptrs] at hl
    subst hl
    simp only [List.length_take] at hi'
    have hb : i < os[k].body.length := by omega
    refine ⟨by omega, ?_⟩
    rw [h2, show ((adr os k : Nat) + 1 : Int).toNat + i = adr os k + 1 + i by omega, wds_body hkl i hb, List.getElem_take]
theorem nums_words {os : List Ob} (hk : Oks os) (a : Int) (i : Nat) (hi : i < (numsOf os a).length) : 0 ≤ a + 1 + (hdo os a).p ∧ (wds os)[(a + 1 + (hdo os a).p).toNat + i]? = some ⟨0, 0, 0, 0, (numsOf os a)[i]⟩ := by
  obtain ⟨l, hl⟩ : ∃ l, l = numsOf os a := ⟨_, rfl⟩
  have hi' : i < l.length := by rw [hl]; exact hi
  have e : (numsOf os a)[i] = l[i] := by simp only [hl]
  rw [e]
  unfold numsOf at hl
  cases h : ob os a with
  | none => rw [h] at hl; simp only at hl; subst hl; simp at hi'
  | some o =>
    rw [h] at hl
    have hp : (hdo os a).p = o.np := by unfold hdo; rw [h]; rfl
    rw [hp]
    obtain ⟨k, hkl, h1, h2, rfl⟩ := ob_some h
    have hok := (hk _ (ob_mem h)).pn
    simp only [Ob.nums] at hl
    subst hl
    simp only [List.length_take, List.length_drop] at hi'
    have hb : os[k].np + i < os[k].body.length := by omega
    refine ⟨by omega, ?_⟩
    rw [h2, show ((adr os k : Nat) + 1 + (os[k].np : Nat) : Int).toNat + i = adr os k + 1 + (os[k].np + i) by omega, wds_body hkl _ hb, List.getElem_take, List.getElem_drop]
theorem own_less {w : World} {B B' : Nat} {e : TypeId} {s : Nat} {v : Value} {n : Nat} {xs : List Value} (h : w.ownsRow B e s v n xs) (hB : B' ≤ B) : w.ownsRow B' e s v n xs := by
  refine ⟨h.1, ?_⟩
  rcases h.2 with h | ⟨g, cap, cur, e1, hb, r⟩
  · exact .inl h
  · exact .inr ⟨g, cap, cur, e1, by omega, r⟩
set_option maxHeartbeats 8000000 in
set_option maxRecDepth 100000 in
theorem ptrs_o {w : World} {b : Nat} {G : Option Nat} {os : List Ob} {m : Nat} (h : HpO w b G os m) (a : Int) (ha : -1000000000 ≤ a) (hb : a ≤ 1000000000) :
    Calls Try.prog 23 #[.pointer (some ⟨b, 0, none⟩), .int .i64 a] w (RetI (ptrsOf os a) w) := by
  have F40 := Lib.hid (fun W (hb : Below w.heap.size w W) => head_o (h.below hb) a (by omega) (by omega))
  have hlen := ptrsOf_len h.2.1 a
  have hlow := (hdo_low h.2.1 a).2.1
  have hl60 : (hdo os a).p ≤ 60 := by
    unfold hdo
    cases h2 : ob os a with
    | none => simp
    | some o => exact (h.2.1 o (ob_mem h2)).p
  have F51 := Lib.hid (fun W (hb : Below w.heap.size w W) => values_any (h.below hb) (a + 1) (ptrsOf os a) (by omega) (by omega) (fun i hi => ptrs_words h.2.1 a i hi) (by rw [hlen]; omega))
  rw [hlen] at F51
  have F52 := Lib.hid (fun W => ptrs_any (hdo os a).t (hdo os a).p (hdo os a).n (hdo os a).s hlow W)
  have hbl := h.1.lt
  generalize hdo os a = x at F40 F51 F52
  clear hlen hlow hl60 h
  go_enter Try.func23, Try.ntmps23
  go_upto_region 1 with fail
  refine wp_region_noPanic ?_
  refine wp_region_held_drew (S := Below w.heap.size w) (by kernel_rfl) ((Below.refl _ _).drew) (fun hHeld => ?_)
  generalize w.drew = X at hHeld ⊢
  have hb0 : w.heap.size ≤ X.heap.size := hHeld.size
  refine wpAnyH_take (i := 0) (v := ?v0) rfl (by kernel_rfl) (by kernel_rfl) (by kernel_rfl) (fun _ _ _ h => h) (Or.inl ⟨rfl, fun w' hw' => ?h0⟩) hHeld ?r0
  case h0 =>
    go_simp
    try with_reducible rfl
  simp only [List.getElem_toArray, List.getElem_cons_succ, List.getElem_cons_zero, Act.put, List.setIfInBounds_toArray, List.set_cons_zero, List.set_cons_succ]
  refine wpAnyH_take (i := 1) (v := ?v1) rfl (by kernel_rfl) (by kernel_rfl) (by kernel_rfl) (fun _ _ _ h => h) (Or.inl ⟨rfl, fun w' hw' => ?h1⟩) hHeld ?r1
  case h1 =>
    go_simp
    try with_reducible rfl
  simp only [List.getElem_toArray, List.getElem_cons_succ, List.getElem_cons_zero, Act.put, List.setIfInBounds_toArray, List.set_cons_zero, List.set_cons_succ]
  refine wpAnyH_take (i := 2) (v := ?v2) rfl (by kernel_rfl) (by kernel_rfl) (by kernel_rfl) (fun _ _ _ h => h) (Or.inl ⟨rfl, fun w' hw' => ?h2⟩) hHeld ?r2
  case h2 =>
    go_simp
    try with_reducible rfl
  simp only [List.getElem_toArray, List.getElem_cons_succ, List.getElem_cons_zero, Act.put, List.setIfInBounds_toArray, List.set_cons_zero, List.set_cons_succ]
  refine wpAnyH_take (i := 3) (v := ?v3) rfl (by kernel_rfl) (by kernel_rfl) (by kernel_rfl) (fun _ _ _ h => h) (Or.inl ⟨rfl, fun w' hw' => ?h3⟩) hHeld ?r3
  case h3 =>
    go_simp
    try with_reducible rfl
  simp only [List.getElem_toArray, List.getElem_cons_succ, List.getElem_cons_zero, Act.put, List.setIfInBounds_toArray, List.set_cons_zero, List.set_cons_succ]
  refine wpAnyH_take (i := 4) (v := Value.int .i64 (a + 1)) rfl (by kernel_rfl) (by kernel_rfl) (by kernel_rfl) (fun _ _ _ h => h) (Or.inl ⟨rfl, fun w' hw' => ?_⟩) hHeld ?_
  · (go_simp; try (rw [IntKind.wrap_i64]; omega))
  simp only [List.getElem_toArray, List.getElem_cons_succ, List.getElem_cons_zero, Act.put, List.setIfInBounds_toArray, List.set_cons_zero, List.set_cons_succ]
  refine wpAnyH_take (i := 5) (v := ?v5) rfl (by kernel_rfl) (by kernel_rfl) (by kernel_rfl) (fun _ _ _ h => h) (Or.inl ⟨rfl, fun w' hw' => ?h5⟩) hHeld ?r5
  case h5 =>
    go_simp
    try with_reducible rfl
  simp only [List.getElem_toArray, List.getElem_cons_succ, List.getElem_cons_zero, Act.put, List.setIfInBounds_toArray, List.set_cons_zero, List.set_cons_succ]
  refine wpAnyH_take (i := 6) (v := ?v6) rfl (by kernel_rfl) (by kernel_rfl) (by kernel_rfl) (fun _ _ _ h => h) (Or.inl ⟨rfl, fun w' hw' => ?h6⟩) hHeld ?r6
  case h6 =>
    go_simp
    try with_reducible rfl
  simp only [List.getElem_toArray, List.getElem_cons_succ, List.getElem_cons_zero, Act.put, List.setIfInBounds_toArray, List.set_cons_zero, List.set_cons_succ]
  refine wpAnyH_take (i := 7) (v := ?v7) rfl (by kernel_rfl) (by kernel_rfl) (by kernel_rfl) (fun _ _ _ h => h) (Or.inl ⟨rfl, fun w' hw' => ?h7⟩) hHeld ?r7
  case h7 =>
    go_simp
    try with_reducible rfl
  simp only [List.getElem_toArray, List.getElem_cons_succ, List.getElem_cons_zero, Act.put, List.setIfInBounds_toArray, List.set_cons_zero, List.set_cons_succ]
  refine wpAnyH_take (i := 8) (v := ?v8) rfl (by kernel_rfl) (by kernel_rfl) (by kernel_rfl) (fun _ _ _ h => h) (Or.inl ⟨rfl, fun w' hw' => ?h8⟩) hHeld ?r8
  case h8 =>
    go_simp
    try with_reducible rfl
  simp only [List.getElem_toArray, List.getElem_cons_succ, List.getElem_cons_zero, Act.put, List.setIfInBounds_toArray, List.set_cons_zero, List.set_cons_succ]
  refine wpAnyH_ready (rs := [9]) (by kernel_rfl) (by simp) ?_
  refine (AllReadyH.cons rfl (fun K hK => ?_) AllReadyH.nil)
  go_simp
  refine (F40.out X hHeld).mono ?_
  rintro e w1 ⟨rfl, hw1⟩
  have hS1 : Below w.heap.size w w1 := hHeld.trans (hw1.mono hb0)
  refine hK.out _ _ hS1 (fun hHeld => ?_)
  clear hw1 hS1 hb0
  have hb1 : w.heap.size ≤ w1.heap.size := hHeld.size
  clear hK K
  try simp only [List.getElem_toArray, List.getElem_cons_succ, List.getElem_cons_zero, Act.put, List.setIfInBounds_toArray, List.set_cons_zero, List.set_cons_succ]
  refine wpAnyH_ready (rs := [10]) (by kernel_rfl) (by simp) ?_
  refine (AllReadyH.cons rfl (fun K hK => ?_) AllReadyH.nil)
  go_simp
  refine (F52.out w1).mono ?_
  rintro e w2 ⟨rfl, hw2⟩
  have hS1 : Below w.heap.size w w2 := hHeld.trans (hw2.mono hb1)
  refine hK.out _ _ hS1 (fun hHeld => ?_)
  clear hw2 hS1 hb1
  have hb2 : w.heap.size ≤ w2.heap.size := hHeld.size
  clear hK K
  try simp only [List.getElem_toArray, List.getElem_cons_succ, List.getElem_cons_zero, Act.put, List.setIfInBounds_toArray, List.set_cons_zero, List.set_cons_succ]
  refine wpAnyH_ready (rs := [11]) (by kernel_rfl) (by simp) ?_
  refine (AllReadyH.cons rfl (fun K hK => ?_) AllReadyH.nil)
  go_simp
  refine (F51.out w2 hHeld).mono ?_
  rintro e w3 ⟨v, rfl, hown, hw3⟩
  have hS1 : Below w.heap.size w w3 := hHeld.trans (hw3.mono hb2)
  have HBZ := Lib.hid hS1
  have HO : Hid (w3.ownsRow w.heap.size 3 1 v (ptrsOf os a).length ((ptrsOf os a).map (Value.int .i64))) := own_less hown hb2
  refine hK.out _ _ hS1 (fun hHeld => ?_)
  clear hw3 hS1 hown hb2
  clear hK K
  try simp only [List.getElem_toArray, List.getElem_cons_succ, List.getElem_cons_zero, Act.put, List.setIfInBounds_toArray, List.set_cons_zero, List.set_cons_succ]
  refine wpAnyH_take (i := 12) (v := ?v9) rfl (by kernel_rfl) (by kernel_rfl) (by kernel_rfl) (fun _ _ _ h => h) (Or.inl ⟨rfl, fun w' hw' => ?h9⟩) hHeld ?r9
  case h9 =>
    go_simp
    try with_reducible rfl
  simp only [List.getElem_toArray, List.getElem_cons_succ, List.getElem_cons_zero, Act.put, List.setIfInBounds_toArray, List.set_cons_zero, List.set_cons_succ]
  refine wpAnyH_done (by kernel_rfl) ?_ _
  refine NoPanic.normal ?_
  clear hHeld
  go_wp2_with fail
  go_ret
  exact ⟨_, rfl, HO.out, HBZ.out⟩
set_option maxHeartbeats 8000000 in
set_option maxRecDepth 100000 in
theorem nums_o {w : World} {b : Nat} {G : Option Nat} {os : List Ob} {m : Nat} (h : HpO w b G os m) (a : Int) (ha : -1000000000 ≤ a) (hb : a ≤ 1000000000) :
    Calls Try.prog 24 #[.pointer (some ⟨b, 0, none⟩), .int .i64 a] w (RetI (numsOf os a) w) := by
  have F40 := Lib.hid (head_o h a (by omega) (by omega))
  have hlen := numsOf_len h.2.1 a
  have hlow := (hdo_low h.2.1 a).2.1
  have hlow2 := (hdo_low h.2.1 a).2.2.1
  have hl60 : (hdo os a).n ≤ 60 := by
    unfold hdo
    cases h2 : ob os a with
    | none => simp
    | some o => exact (h.2.1 o (ob_mem h2)).n
  have F51 := Lib.hid (fun W (hb : Below w.heap.size w W) => values_any (h.below hb) (a + 1 + (hdo os a).p) (numsOf os a) (by omega) (by omega) (fun i hi => nums_words h.2.1 a i hi) (by rw [hlen]; omega))
  rw [hlen] at F51
  have F52 := Lib.hid (fun W => ptrs_any (hdo os a).t (hdo os a).p (hdo os a).n (hdo os a).s hlow W)
  have F53 := Lib.hid (fun W => nums_any (hdo os a).t (hdo os a).p (hdo os a).n (hdo os a).s hlow2 W)
  have hbl := h.1.lt
  generalize hdo os a = x at F40 F51 F52 F53 hlow
  clear hlen hlow2 hl60 h
  go_enter Try.func24, Try.ntmps24
  go_wp2_with fail
  refine F40.out.mono ?_
  rintro e w1 ⟨rfl, hw1⟩
  have HB1 := Lib.hid hw1
  have hs1 : w.heap.size ≤ w1.heap.size := hw1.size
  clear hw1 F40
  simp only [Wd.hd]
  go_upto_region 2 with fail
  have hx : (w1.alloc (.cells #[.int .u8 x.t, .int .u8 x.p, .int .u8 x.n, .int .u8 x.s] 77)).heap[w1.heap.size]? = some (.cells x.hd 77 (0, 0)) := alloc_at _ _
  have hb1 : Below w.heap.size w (w1.alloc (.cells #[.int .u8 x.t, .int .u8 x.p, .int .u8 x.n, .int .u8 x.s] 77)) := HB1.out.alloc hs1 _
  have hsz : w1.heap.size < (w1.alloc (.cells #[.int .u8 x.t, .int .u8 x.p, .int .u8 x.n, .int .u8 x.s] 77)).heap.size := by simp
  generalize w1.alloc (.cells #[.int .u8 x.t, .int .u8 x.p, .int .u8 x.n, .int .u8 x.s] 77) = Y at hx hb1 hsz ⊢
  have HBY := Lib.hid hb1
  have hsY := hb1.size
  clear hb1 HB1
  generalize w1.heap.size = gx at hx hsz hs1 ⊢
  have HX : Hid (∀ w', Below Y.heap.size Y w' → w'.rangeAt gx 0 x.hd.toList) := fun w' hw' => box_range (by rw [hw'.block _ hsz]; exact hx)
  clear hx
  refine wp_region_noPanic ?_
  refine wp_region_held_drew (S := Below Y.heap.size Y) (by kernel_rfl) ((Below.refl _ _).drew) (fun hHeld => ?_)
  generalize Y.drew = X at hHeld ⊢
  have hb0 : Y.heap.size ≤ X.heap.size := hHeld.size
  refine wpAnyH_take (i := 0) (v := ?v10) rfl (by kernel_rfl) (by kernel_rfl) (by kernel_rfl) (fun _ _ _ h => h) (Or.inl ⟨rfl, fun w' hw' => ?h10⟩) hHeld ?r10
  case h10 =>
    go_simp
    try with_reducible rfl
  simp only [List.getElem_toArray, List.getElem_cons_succ, List.getElem_cons_zero, Act.put, List.setIfInBounds_toArray, List.set_cons_zero, List.set_cons_succ]
  refine wpAnyH_take (i := 1) (v := ?v11) rfl (by kernel_rfl) (by kernel_rfl) (by kernel_rfl) (fun _ _ _ h => h) (Or.inl ⟨rfl, fun w' hw' => ?h11⟩) hHeld ?r11
  case h11 =>
    go_simp
    try with_reducible rfl
  simp only [List.getElem_toArray, List.getElem_cons_succ, List.getElem_cons_zero, Act.put, List.setIfInBounds_toArray, List.set_cons_zero, List.set_cons_succ]
  refine wpAnyH_take (i := 2) (v := ?v12) rfl (by kernel_rfl) (by kernel_rfl) (by kernel_rfl) (fun _ _ _ h => h) (Or.inl ⟨rfl, fun w' hw' => ?h12⟩) hHeld ?r12
  case h12 =>
    go_simp
    try with_reducible rfl
  simp only [List.getElem_toArray, List.getElem_cons_succ, List.getElem_cons_zero, Act.put, List.setIfInBounds_toArray, List.set_cons_zero, List.set_cons_succ]
  refine wpAnyH_take (i := 3) (v := ?v13) rfl (by kernel_rfl) (by kernel_rfl) (by kernel_rfl) (fun _ _ _ h => h) (Or.inl ⟨rfl, fun w' hw' => ?h13⟩) hHeld ?r13
  case h13 =>
    go_simp
    try with_reducible rfl
  simp only [List.getElem_toArray, List.getElem_cons_succ, List.getElem_cons_zero, Act.put, List.setIfInBounds_toArray, List.set_cons_zero, List.set_cons_succ]
  refine wpAnyH_take (i := 4) (v := Value.int .i64 (a + 1)) rfl (by kernel_rfl) (by kernel_rfl) (by kernel_rfl) (fun _ _ _ h => h) (Or.inl ⟨rfl, fun w' hw' => ?_⟩) hHeld ?_
  · (go_simp; try (rw [IntKind.wrap_i64]; omega))
  simp only [List.getElem_toArray, List.getElem_cons_succ, List.getElem_cons_zero, Act.put, List.setIfInBounds_toArray, List.set_cons_zero, List.set_cons_succ]
  refine wpAnyH_take (i := 5) rfl (by kernel_rfl) (by kernel_rfl) (by kernel_rfl) (fun _ _ _ h => h) (yieldsIf_load_mid (by rfl) _ _ rfl gx 0 rfl [.int .u8 x.t, .int .u8 x.p, .int .u8 x.n, .int .u8 x.s] _ (fun w' hw' => HX.out w' hw') Try.underlying77 rfl info55) hHeld ?_
  simp only [List.getElem_toArray, List.getElem_cons_succ, List.getElem_cons_zero, Act.put, List.setIfInBounds_toArray, List.set_cons_zero, List.set_cons_succ]
  refine wpAnyH_take (i := 8) rfl (by kernel_rfl) (by kernel_rfl) (by kernel_rfl) (fun _ _ _ h => h) (yieldsIf_load_mid (by rfl) _ _ rfl gx 0 rfl [.int .u8 x.t, .int .u8 x.p, .int .u8 x.n, .int .u8 x.s] _ (fun w' hw' => HX.out w' hw') Try.underlying77 rfl info55) hHeld ?_
  simp only [List.getElem_toArray, List.getElem_cons_succ, List.getElem_cons_zero, Act.put, List.setIfInBounds_toArray, List.set_cons_zero, List.set_cons_succ]
  refine wpAnyH_ready (rs := [6]) (by kernel_rfl) (by simp) ?_
  refine (AllReadyH.cons rfl (fun K hK => ?_) AllReadyH.nil)
  go_simp
  refine (F52.out X).mono ?_
  rintro e w2 ⟨rfl, hw2⟩
  have hS1 : Below Y.heap.size Y w2 := hHeld.trans (hw2.mono hb0)
  refine hK.out _ _ hS1 (fun hHeld => ?_)
  clear hw2 hS1 hb0
  have hb2 : Y.heap.size ≤ w2.heap.size := hHeld.size
  clear hK K
  try simp only [List.getElem_toArray, List.getElem_cons_succ, List.getElem_cons_zero, Act.put, List.setIfInBounds_toArray, List.set_cons_zero, List.set_cons_succ]
  refine wpAnyH_take (i := 7) (v := Value.int .i64 (a + 1 + (x.p : Nat))) rfl (by kernel_rfl) (by kernel_rfl) (by kernel_rfl) (fun _ _ _ h => h) (Or.inl ⟨rfl, fun w' hw' => ?_⟩) hHeld ?_
  · (go_simp; try (rw [IntKind.wrap_i64]; omega))
  simp only [List.getElem_toArray, List.getElem_cons_succ, List.getElem_cons_zero, Act.put, List.setIfInBounds_toArray, List.set_cons_zero, List.set_cons_succ]
  refine wpAnyH_ready (rs := [9]) (by kernel_rfl) (by simp) ?_
  refine (AllReadyH.cons rfl (fun K hK => ?_) AllReadyH.nil)
  go_simp
  refine (F53.out w2).mono ?_
  rintro e w3 ⟨rfl, hw2⟩
  have hS1 : Below Y.heap.size Y w3 := hHeld.trans (hw2.mono hb2)
  refine hK.out _ _ hS1 (fun hHeld => ?_)
  clear hw2 hS1 hb2
  have hb3 : Y.heap.size ≤ w3.heap.size := hHeld.size
  clear hK K
  try simp only [List.getElem_toArray, List.getElem_cons_succ, List.getElem_cons_zero, Act.put, List.setIfInBounds_toArray, List.set_cons_zero, List.set_cons_succ]
  refine wpAnyH_ready (rs := [10]) (by kernel_rfl) (by simp) ?_
  refine (AllReadyH.cons rfl (fun K hK => ?_) AllReadyH.nil)
  go_simp
  refine (F51.out w3 (HBY.out.trans (hHeld.mono hsY))).mono ?_
  rintro e w4 ⟨v, rfl, hown, hw3⟩
  have hS1 : Below Y.heap.size Y w4 := hHeld.trans (hw3.mono hb3)
  have HBZ := Lib.hid (HBY.out.trans (hS1.mono hsY))
  have HO : Hid (w4.ownsRow w.heap.size 3 1 v (numsOf os a).length ((numsOf os a).map (Value.int .i64))) := own_less hown (Nat.le_trans hsY hb3)
  refine hK.out _ _ hS1 (fun hHeld => ?_)
  clear hw3 hS1 hown hb3
  clear hK K
  try simp only [List.getElem_toArray, List.getElem_cons_succ, List.getElem_cons_zero, Act.put, List.setIfInBounds_toArray, List.set_cons_zero, List.set_cons_succ]
  refine wpAnyH_take (i := 11) (v := ?v16) rfl (by kernel_rfl) (by kernel_rfl) (by kernel_rfl) (fun _ _ _ h => h) (Or.inl ⟨rfl, fun w' hw' => ?h16⟩) hHeld ?r16
  case h16 =>
    go_simp
    try with_reducible rfl
  simp only [List.getElem_toArray, List.getElem_cons_succ, List.getElem_cons_zero, Act.put, List.setIfInBounds_toArray, List.set_cons_zero, List.set_cons_succ]
  refine wpAnyH_done (by kernel_rfl) ?_ _
  refine NoPanic.normal ?_
  clear hHeld
  go_wp2_with fail
  go_ret
  exact ⟨_, rfl, HO.out, HBZ.out⟩
end Go.Proofs.Ytjecjlnkpbbanaa
