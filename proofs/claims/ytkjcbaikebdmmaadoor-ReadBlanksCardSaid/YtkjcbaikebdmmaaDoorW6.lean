/- The contract of Make. -/
import Derived.Test.YtkjcbaikebdmmaaDoorW4
import Derived.Test.YtkjcbaikebdmmaaDoorK0
namespace Go.Proofs.YtkjcbaikebdmmaaDoor
open Go.RowKit
set_option linter.unusedVariables false
set_option linter.unusedSimpArgs false

/-- It returns a new datum. -/
def RetMk (d : Dt) (w : World) (e : Ending) (w' : World) : Prop := ∃ cs, e = .returned (.agg cs) ∧ Dt.At (fun g => w.heap.size ≤ g) w' d cs ∧ Below w.heap.size w w'
theorem within_is (a : Int) (n : Nat) (q : Int) (ha : I64 a) (h1 : 1 ≤ n) (h2 : n ≤ 1000) (hq : a % n = q) (w : World) : Calls Tryd.prog 53 #[.int .i64 a, .int .i64 n] w fun e w' => e = .returned (.int .i64 q) ∧ w = w' := by
  subst hq
  exact within2_any a n w ha.1 ha.2 (by omega) (by omega)
theorem below_setRow {b : Nat} {a w : World} (h : Below b a w) (g : Nat) (cs : Array Value) (hg : b ≤ g) : Below b a (w.setRow g cs) :=
  h.trans ⟨rfl, rfl, rfl, by simp, fun k hk => setRow_other w g k cs (by omega)⟩
theorem leaf_new (S : Nat → Prop) (w : World) (k : Int) (t : ByteArray) : Dt.At S w (.mk k t [] [] 0) #[.int .i64 k, .string t, .slice none 0 0, .slice none 0 0, .int .i64 0] := by
  rw [At_mk]; exact ⟨_, _, rfl, .inl ⟨rfl, rfl⟩, .inl ⟨rfl, rfl⟩⟩
/-- The texts as cells. -/
def tcells (l : List ByteArray) : Array Value := (l.map Value.string).toArray
theorem tcells_get (w : World) (g : Nat) (l : List ByteArray) (hg : w.heap[g]? = some (.cells (tcells l) 9 (0, 0))) (i : Nat) (hi : i < l.length) : w.cell? ⟨g, i, none⟩ = some (.string (l.getD i ⟨#[]⟩)) := by
  rw [Lib.cell_of_heap hg]
  unfold tcells
  rw [List.getElem?_toArray, List.getElem?_map, List.getElem?_eq_getElem hi, List.getD_eq_getElem?_getD, List.getElem?_eq_getElem hi]; rfl

/-- The world in which a leaf is made: the raw datum's box, the new datum, the row of texts. -/
def LW (w : World) (raw : Array Value) (l : List ByteArray) : World := ((w.alloc (.cells raw 74)).alloc (.cells Z5 40)).alloc (.cells (tcells l) 9)
theorem LW_new (w : World) (raw : Array Value) (l : List ByteArray) : (LW w raw l).heap[w.heap.size + 1]? = some (.cells Z5 40) := by
  have h := alloc_at (w.alloc (.cells raw 74)) (.cells Z5 40)
  have e : (w.alloc (.cells raw 74)).heap.size = w.heap.size + 1 := by simp
  rw [e] at h
  exact (Lib.alloc_old ((w.alloc (.cells raw 74)).alloc (.cells Z5 40)) (.cells (tcells l) 9) (w.heap.size + 1) (by simp)).trans h
theorem LW_texts (w : World) (raw : Array Value) (l : List ByteArray) : (LW w raw l).heap[w.heap.size + 1 + 1]? = some (.cells (tcells l) 9 (0, 0)) := by
  have h := alloc_at ((w.alloc (.cells raw 74)).alloc (.cells Z5 40)) (.cells (tcells l) 9)
  have e : ((w.alloc (.cells raw 74)).alloc (.cells Z5 40)).heap.size = w.heap.size + 1 + 1 := by simp
  rw [e] at h
  exact h
theorem LW_below (w : World) (raw : Array Value) (l : List ByteArray) : Below w.heap.size w (LW w raw l) :=
  (((Below.refl w.heap.size w).alloc (Nat.le_refl _) (.cells raw 74)).alloc (by simp) (.cells Z5 40)).alloc (by simp; omega) (.cells (tcells l) 9)

set_option maxHeartbeats 4000000 in
theorem make_int (k n : Int) (po : Option Addr) (pl : List Rw) (pc : Nat) (w : World) (hk : I64 k) (hn : I64 n) (h7 : k % 7 = 0) :
    Calls Tryd.prog 38 #[.agg #[.int .i64 k, .int .i64 n, .slice po pl.length pc]] w (RetMk (.mk 1 (tblI.getD (n % 5).toNat ⟨#[]⟩) [] [] 0) w) := by
  have F1 := Lib.hid (fun w => within_is k 7 0 hk (by decide) (by decide) h7 w)
  obtain ⟨s, hs⟩ : ∃ s : Nat, n % 5 = (s : Int) := ⟨(n % 5).toNat, by omega⟩
  have hs5 : s < 5 := by omega
  have F2 := Lib.hid (fun w => within_is n 5 s hn (by decide) (by decide) hs w)
  have e : (n % 5).toNat = s := by omega
  rw [e]
  have R1 := Lib.hid (LW_new w #[.int .i64 k, .int .i64 n, .slice po pl.length pc] tblI)
  have hC := tcells_get _ _ tblI (LW_texts w #[.int .i64 k, .int .i64 n, .slice po pl.length pc] tblI) s hs5
  generalize tblI.getD s ⟨#[]⟩ = tx at hC ⊢
  have HB := Lib.hid (LW_below w #[.int .i64 k, .int .i64 n, .slice po pl.length pc] tblI)
  have HP := Lib.hid (fun t => leaf_new (fun g => w.heap.size ≤ g) t)
  clear hk hn h7 hs e
  go_enter Tryd.func38, Tryd.ntmps38
  go_wp2_with fail
  refine (F1.out _).mono ?_
  rintro e w1 ⟨rfl, rfl⟩
  go_wp2_with fail
  refine Calls.mono (w := LW w #[.int .i64 k, .int .i64 n, .slice po pl.length pc] tblI) (F2.out _) ?_
  generalize LW w #[.int .i64 k, .int .i64 n, .slice po pl.length pc] tblI = W at R1 hC HB
  rintro e w1 ⟨rfl, rfl⟩
  go_wp2_with (refine wpList_store_row rfl 40 _ _ rfl (w.heap.size + 1) #[.int .i64 1, .string tx, .slice none 0 0, .slice none 0 0, .int .i64 0] rfl rfl 40 Z5 R1.out info40 rfl (by simp [Value.oneCell']) ?_)
  refine bodyPost_ret (results_cell_row rfl _ _ (w.heap.size + 1) 40 #[.int .i64 1, .string tx, .slice none 0 0, .slice none 0 0, .int .i64 0] (0, 0) _ rfl (setRow_heap W _ _ _ 40 _ R1.out) Tryd.underlying40 rfl info40) rfl ?_
  exact ⟨_, rfl, HP.out _ _ _, below_setRow HB.out _ _ (by omega)⟩

set_option maxHeartbeats 4000000 in
theorem make_bool (k n : Int) (po : Option Addr) (pl : List Rw) (pc : Nat) (w : World) (hk : I64 k) (hn : I64 n) (h7 : k % 7 = 1) :
    Calls Tryd.prog 38 #[.agg #[.int .i64 k, .int .i64 n, .slice po pl.length pc]] w (RetMk (.mk 2 (tblB.getD (n % 2).toNat ⟨#[]⟩) [] [] 0) w) := by
  have F1 := Lib.hid (fun w => within_is k 7 1 hk (by decide) (by decide) h7 w)
  obtain ⟨s, hs⟩ : ∃ s : Nat, n % 2 = (s : Int) := ⟨(n % 2).toNat, by omega⟩
  have hs5 : s < 2 := by omega
  have F2 := Lib.hid (fun w => within_is n 2 s hn (by decide) (by decide) hs w)
  have e : (n % 2).toNat = s := by omega
  rw [e]
  have R1 := Lib.hid (LW_new w #[.int .i64 k, .int .i64 n, .slice po pl.length pc] tblB)
  have hC := tcells_get _ _ tblB (LW_texts w #[.int .i64 k, .int .i64 n, .slice po pl.length pc] tblB) s hs5
  generalize tblB.getD s ⟨#[]⟩ = tx at hC ⊢
  have HB := Lib.hid (LW_below w #[.int .i64 k, .int .i64 n, .slice po pl.length pc] tblB)
  have HP := Lib.hid (fun t => leaf_new (fun g => w.heap.size ≤ g) t)
  clear hk hn h7 hs e
  go_enter Tryd.func38, Tryd.ntmps38
  go_wp2_with fail
  refine (F1.out _).mono ?_
  rintro e w1 ⟨rfl, rfl⟩
  go_wp2_with fail
  refine Calls.mono (w := LW w #[.int .i64 k, .int .i64 n, .slice po pl.length pc] tblB) (F2.out _) ?_
  generalize LW w #[.int .i64 k, .int .i64 n, .slice po pl.length pc] tblB = W at R1 hC HB
  rintro e w1 ⟨rfl, rfl⟩
  go_wp2_with (refine wpList_store_row rfl 40 _ _ rfl (w.heap.size + 1) #[.int .i64 2, .string tx, .slice none 0 0, .slice none 0 0, .int .i64 0] rfl rfl 40 Z5 R1.out info40 rfl (by simp [Value.oneCell']) ?_)
  refine bodyPost_ret (results_cell_row rfl _ _ (w.heap.size + 1) 40 #[.int .i64 2, .string tx, .slice none 0 0, .slice none 0 0, .int .i64 0] (0, 0) _ rfl (setRow_heap W _ _ _ 40 _ R1.out) Tryd.underlying40 rfl info40) rfl ?_
  exact ⟨_, rfl, HP.out _ _ _, below_setRow HB.out _ _ (by omega)⟩

set_option maxHeartbeats 4000000 in
theorem make_sym2 (k n : Int) (po : Option Addr) (pl : List Rw) (pc : Nat) (w : World) (hk : I64 k) (hn : I64 n) (h7 : k % 7 = 2) :
    Calls Tryd.prog 38 #[.agg #[.int .i64 k, .int .i64 n, .slice po pl.length pc]] w (RetMk (.mk 3 (tblS.getD (n % 11).toNat ⟨#[]⟩) [] [] 0) w) := by
  have F1 := Lib.hid (fun w => within_is k 7 2 hk (by decide) (by decide) h7 w)
  obtain ⟨s, hs⟩ : ∃ s : Nat, n % 11 = (s : Int) := ⟨(n % 11).toNat, by omega⟩
  have hs5 : s < 11 := by omega
  have F2 := Lib.hid (fun w => within_is n 11 s hn (by decide) (by decide) hs w)
  have e : (n % 11).toNat = s := by omega
  rw [e]
  have R1 := Lib.hid (LW_new w #[.int .i64 k, .int .i64 n, .slice po pl.length pc] tblS)
  have hC := tcells_get _ _ tblS (LW_texts w #[.int .i64 k, .int .i64 n, .slice po pl.length pc] tblS) s hs5
  generalize tblS.getD s ⟨#[]⟩ = tx at hC ⊢
  have HB := Lib.hid (LW_below w #[.int .i64 k, .int .i64 n, .slice po pl.length pc] tblS)
  have HP := Lib.hid (fun t => leaf_new (fun g => w.heap.size ≤ g) t)
  clear hk hn h7 hs e
  go_enter Tryd.func38, Tryd.ntmps38
  go_wp2_with fail
  refine (F1.out _).mono ?_
  rintro e w1 ⟨rfl, rfl⟩
  go_wp2_with fail
  refine Calls.mono (w := LW w #[.int .i64 k, .int .i64 n, .slice po pl.length pc] tblS) (F2.out _) ?_
  generalize LW w #[.int .i64 k, .int .i64 n, .slice po pl.length pc] tblS = W at R1 hC HB
  rintro e w1 ⟨rfl, rfl⟩
  go_wp2_with (refine wpList_store_row rfl 40 _ _ rfl (w.heap.size + 1) #[.int .i64 3, .string tx, .slice none 0 0, .slice none 0 0, .int .i64 0] rfl rfl 40 Z5 R1.out info40 rfl (by simp [Value.oneCell']) ?_)
  refine bodyPost_ret (results_cell_row rfl _ _ (w.heap.size + 1) 40 #[.int .i64 3, .string tx, .slice none 0 0, .slice none 0 0, .int .i64 0] (0, 0) _ rfl (setRow_heap W _ _ _ 40 _ R1.out) Tryd.underlying40 rfl info40) rfl ?_
  exact ⟨_, rfl, HP.out _ _ _, below_setRow HB.out _ _ (by omega)⟩

set_option maxHeartbeats 4000000 in
theorem make_sym3 (k n : Int) (po : Option Addr) (pl : List Rw) (pc : Nat) (w : World) (hk : I64 k) (hn : I64 n) (h7 : k % 7 = 3) :
    Calls Tryd.prog 38 #[.agg #[.int .i64 k, .int .i64 n, .slice po pl.length pc]] w (RetMk (.mk 3 (tblS.getD (n % 11).toNat ⟨#[]⟩) [] [] 0) w) := by
  have F1 := Lib.hid (fun w => within_is k 7 3 hk (by decide) (by decide) h7 w)
  obtain ⟨s, hs⟩ : ∃ s : Nat, n % 11 = (s : Int) := ⟨(n % 11).toNat, by omega⟩
  have hs5 : s < 11 := by omega
  have F2 := Lib.hid (fun w => within_is n 11 s hn (by decide) (by decide) hs w)
  have e : (n % 11).toNat = s := by omega
  rw [e]
  have R1 := Lib.hid (LW_new w #[.int .i64 k, .int .i64 n, .slice po pl.length pc] tblS)
  have hC := tcells_get _ _ tblS (LW_texts w #[.int .i64 k, .int .i64 n, .slice po pl.length pc] tblS) s hs5
  generalize tblS.getD s ⟨#[]⟩ = tx at hC ⊢
  have HB := Lib.hid (LW_below w #[.int .i64 k, .int .i64 n, .slice po pl.length pc] tblS)
  have HP := Lib.hid (fun t => leaf_new (fun g => w.heap.size ≤ g) t)
  clear hk hn h7 hs e
  go_enter Tryd.func38, Tryd.ntmps38
  go_wp2_with fail
  refine (F1.out _).mono ?_
  rintro e w1 ⟨rfl, rfl⟩
  go_wp2_with fail
  refine Calls.mono (w := LW w #[.int .i64 k, .int .i64 n, .slice po pl.length pc] tblS) (F2.out _) ?_
  generalize LW w #[.int .i64 k, .int .i64 n, .slice po pl.length pc] tblS = W at R1 hC HB
  rintro e w1 ⟨rfl, rfl⟩
  go_wp2_with (refine wpList_store_row rfl 40 _ _ rfl (w.heap.size + 1) #[.int .i64 3, .string tx, .slice none 0 0, .slice none 0 0, .int .i64 0] rfl rfl 40 Z5 R1.out info40 rfl (by simp [Value.oneCell']) ?_)
  refine bodyPost_ret (results_cell_row rfl _ _ (w.heap.size + 1) 40 #[.int .i64 3, .string tx, .slice none 0 0, .slice none 0 0, .int .i64 0] (0, 0) _ rfl (setRow_heap W _ _ _ 40 _ R1.out) Tryd.underlying40 rfl info40) rfl ?_
  exact ⟨_, rfl, HP.out _ _ _, below_setRow HB.out _ _ (by omega)⟩

end Go.Proofs.YtkjcbaikebdmmaaDoor
