/- The contract of Make. -/
import Derived.Test.YthhaegncnoekbaaYAW
import Derived.Test.YthhaegncnoekbaaYAA
import Derived.Deep.Cut
import Derived.Deep.RegionHeld3
import Derived.Lib.TrimByte
import Derived.Test.YthhaegncnoekbaaYAU
set_option linter.unusedVariables false
set_option linter.unusedSimpArgs false
namespace Go.Proofs.Ythhaegncnoekbaa
open Go.RowKit
def RetMk (d : Dt) (w : World) (e : Ending) (w' : World) : Prop := ∃ cs, e = .returned (.agg cs) ∧ Dt.At (fun g => w.heap.size ≤ g) w' d cs ∧ Below w.heap.size w w'
theorem within_is (a : Int) (n : Nat) (q : Int) (ha : I64 a) (h1 : 1 ≤ n) (h2 : n ≤ 1000) (hq : a % n = q) (w : World) : Calls Try.prog 52 #[.int .i64 a, .int .i64 n] w fun e w' => e = .returned (.int .i64 q) ∧ w = w' := by
  subst hq
  exact within2_any a n w ha.1 ha.2 (by omega) (by omega)
theorem below_setRowW {b : Nat} {a w : World} (h : Below b a w) (g : Nat) (cs : Array Value) (hg : b ≤ g) : Below b a (w.setRow g cs) :=
  h.trans ⟨rfl, rfl, rfl, by simp, fun k hk => setRow_other w g k cs (by omega)⟩
theorem leaf_new (S : Nat → Prop) (w : World) (k : Int) (t : ByteArray) : Dt.At S w (.mk k t [] [] 0) #[.int .i64 k, .string t, .slice none 0 0, .slice none 0 0, .int .i64 0] := by
  rw [At_mk]; exact ⟨_, _, rfl, .inl ⟨rfl, rfl⟩, .inl ⟨rfl, rfl⟩⟩
def tcells (l : List ByteArray) : Array Value := (l.map Value.string).toArray
theorem tcells_get (w : World) (g : Nat) (l : List ByteArray) (hg : w.heap[g]? = some (.cells (tcells l) 9 (0, 0))) (i : Nat) (hi : i < l.length) : w.cell? ⟨g, i, none⟩ = some (.string (l.getD i ⟨#[]⟩)) := by
  rw [Lib.cell_of_heap hg]
  unfold tcells
  rw [List.getElem?_toArray, List.getElem?_map, List.getElem?_eq_getElem hi, List.getD_eq_getElem?_getD, List.getElem?_eq_getElem hi]; rfl
def LW (w : World) (raw : Array Value) (l : List ByteArray) : World := ((w.alloc (.cells raw 67)).alloc (.cells Z5 29)).alloc (.cells (tcells l) 9)
theorem LW_new (w : World) (raw : Array Value) (l : List ByteArray) : (LW w raw l).heap[w.heap.size + 1]? = some (.cells Z5 29) := by
  have h := alloc_at (w.alloc (.cells raw 67)) (.cells Z5 29)
  have e : (w.alloc (.cells raw 67)).heap.size = w.heap.size + 1 := by simp
  rw [e] at h
  exact (Lib.alloc_old ((w.alloc (.cells raw 67)).alloc (.cells Z5 29)) (.cells (tcells l) 9) (w.heap.size + 1) (by simp)).trans h
theorem LW_texts (w : World) (raw : Array Value) (l : List ByteArray) : (LW w raw l).heap[w.heap.size + 1 + 1]? = some (.cells (tcells l) 9 (0, 0)) := by
  have h := alloc_at ((w.alloc (.cells raw 67)).alloc (.cells Z5 29)) (.cells (tcells l) 9)
  have e : ((w.alloc (.cells raw 67)).alloc (.cells Z5 29)).heap.size = w.heap.size + 1 + 1 := by simp
  rw [e] at h
  exact h
theorem LW_below (w : World) (raw : Array Value) (l : List ByteArray) : Below w.heap.size w (LW w raw l) :=
  (((Below.refl w.heap.size w).alloc (Nat.le_refl _) (.cells raw 67)).alloc (by simp) (.cells Z5 29)).alloc (by simp; omega) (.cells (tcells l) 9)
set_option maxHeartbeats 4000000 in
theorem make_int (k n : Int) (po : Option Addr) (pl : List Rw) (pc : Nat) (w : World) (hk : I64 k) (hn : I64 n) (h7 : k % 7 = 0) :
    Calls Try.prog 39 #[.agg #[.int .i64 k, .int .i64 n, .slice po pl.length pc]] w (RetMk (.mk 1 (tblI.getD (n % 5).toNat ⟨#[]⟩) [] [] 0) w) := by
  have F1 := Lib.hid (fun w => within_is k 7 0 hk (by decide) (by decide) h7 w)
  obtain ⟨s, hs⟩ : ∃ s : Nat, n % 5 = (s : Int) := ⟨(n % 5).toNat, by omega⟩
  have hs5 : s < 5 := by omega
  have F2 := Lib.hid (fun w => within_is n 5 s hn (by decide) (by decide) hs w)
  have e : (n % 5).toNat = s := by omega
  rw [e]
  have R1 := Lib.hid (LW_new w #[.int .i64 k, .int .i64 n, .slice po pl.length pc] tblI)
  have hC := tcells_get _ _ tblI (LW_texts w #[.int .i64 k, .int .i64 n, .slice po pl.length pc] tblI) s hs5
  generalize tblI.getD s ⟨#[]⟩ = tx at hC ⊢
  have HB := Lib.hid (LW_below w #[.int .i64 k, .int .i64 n, .slice po pl.length pc] tblI)
  have HP := Lib.hid (fun t => leaf_new (fun g => w.heap.size ≤ g) t)
  clear hk hn h7 hs e
  go_enter Try.func39, Try.ntmps39
  go_wp2_with fail
  refine (F1.out _).mono ?_
  rintro e w1 ⟨rfl, rfl⟩
  go_wp2_with fail
  refine Calls.mono (w := LW w #[.int .i64 k, .int .i64 n, .slice po pl.length pc] tblI) (F2.out _) ?_
  generalize LW w #[.int .i64 k, .int .i64 n, .slice po pl.length pc] tblI = W at R1 hC HB
  rintro e w1 ⟨rfl, rfl⟩
  go_wp2_with (refine wpList_store_row rfl 29 _ _ rfl (w.heap.size + 1) #[.int .i64 1, .string tx, .slice none 0 0, .slice none 0 0, .int .i64 0] rfl rfl 29 Z5 R1.out info40 rfl (by simp [Value.oneCell']) ?_)
  refine bodyPost_ret (results_cell_row rfl _ _ (w.heap.size + 1) 29 #[.int .i64 1, .string tx, .slice none 0 0, .slice none 0 0, .int .i64 0] (0, 0) _ rfl (setRow_heap W _ _ _ 29 _ R1.out) Try.underlying29 rfl info40) rfl ?_
  exact ⟨_, rfl, HP.out _ _ _, below_setRowW HB.out _ _ (by omega)⟩
set_option maxHeartbeats 4000000 in
theorem make_bool (k n : Int) (po : Option Addr) (pl : List Rw) (pc : Nat) (w : World) (hk : I64 k) (hn : I64 n) (h7 : k % 7 = 1) :
    Calls Try.prog 39 #[.agg #[.int .i64 k, .int .i64 n, .slice po pl.length pc]] w (RetMk (.mk 2 (tblB.getD (n % 2).toNat ⟨#[]⟩) [] [] 0) w) := by
  have F1 := Lib.hid (fun w => within_is k 7 1 hk (by decide) (by decide) h7 w)
  obtain ⟨s, hs⟩ : ∃ s : Nat, n % 2 = (s : Int) := ⟨(n % 2).toNat, by omega⟩
  have hs5 : s < 2 := by omega
  have F2 := Lib.hid (fun w => within_is n 2 s hn (by decide) (by decide) hs w)
  have e : (n % 2).toNat = s := by omega
  rw [e]
  have R1 := Lib.hid (LW_new w #[.int .i64 k, .int .i64 n, .slice po pl.length pc] tblB)
  have hC := tcells_get _ _ tblB (LW_texts w #[.int .i64 k, .int .i64 n, .slice po pl.length pc] tblB) s hs5
  generalize tblB.getD s ⟨#[]⟩ = tx at hC ⊢
  have HB := Lib.hid (LW_below w #[.int .i64 k, .int .i64 n, .slice po pl.length pc] tblB)
  have HP := Lib.hid (fun t => leaf_new (fun g => w.heap.size ≤ g) t)
  clear hk hn h7 hs e
  go_enter Try.func39, Try.ntmps39
  go_wp2_with fail
  refine (F1.out _).mono ?_
  rintro e w1 ⟨rfl, rfl⟩
  go_wp2_with fail
  refine Calls.mono (w := LW w #[.int .i64 k, .int .i64 n, .slice po pl.length pc] tblB) (F2.out _) ?_
  generalize LW w #[.int .i64 k, .int .i64 n, .slice po pl.length pc] tblB = W at R1 hC HB
  rintro e w1 ⟨rfl, rfl⟩
  go_wp2_with (refine wpList_store_row rfl 29 _ _ rfl (w.heap.size + 1) #[.int .i64 2, .string tx, .slice none 0 0, .slice none 0 0, .int .i64 0] rfl rfl 29 Z5 R1.out info40 rfl (by simp [Value.oneCell']) ?_)
  refine bodyPost_ret (results_cell_row rfl _ _ (w.heap.size + 1) 29 #[.int .i64 2, .string tx, .slice none 0 0, .slice none 0 0, .int .i64 0] (0, 0) _ rfl (setRow_heap W _ _ _ 29 _ R1.out) Try.underlying29 rfl info40) rfl ?_
  exact ⟨_, rfl, HP.out _ _ _, below_setRowW HB.out _ _ (by omega)⟩
set_option maxHeartbeats 4000000 in
theorem make_sym2 (k n : Int) (po : Option Addr) (pl : List Rw) (pc : Nat) (w : World) (hk : I64 k) (hn : I64 n) (h7 : k % 7 = 2) :
    Calls Try.prog 39 #[.agg #[.int .i64 k, .int .i64 n, .slice po pl.length pc]] w (RetMk (.mk 3 (tblS.getD (n % 11).toNat ⟨#[]⟩) [] [] 0) w) := by
  have F1 := Lib.hid (fun w => within_is k 7 2 hk (by decide) (by decide) h7 w)
  obtain ⟨s, hs⟩ : ∃ s : Nat, n % 11 = (s : Int) := ⟨(n % 11).toNat, by omega⟩
  have hs5 : s < 11 := by omega
  have F2 := Lib.hid (fun w => within_is n 11 s hn (by decide) (by decide) hs w)
  have e : (n % 11).toNat = s := by omega
  rw [e]
  have R1 := Lib.hid (LW_new w #[.int .i64 k, .int .i64 n, .slice po pl.length pc] tblS)
  have hC := tcells_get _ _ tblS (LW_texts w #[.int .i64 k, .int .i64 n, .slice po pl.length pc] tblS) s hs5
  generalize tblS.getD s ⟨#[]⟩ = tx at hC ⊢
  have HB := Lib.hid (LW_below w #[.int .i64 k, .int .i64 n, .slice po pl.length pc] tblS)
  have HP := Lib.hid (fun t => leaf_new (fun g => w.heap.size ≤ g) t)
  clear hk hn h7 hs e
  go_enter Try.func39, Try.ntmps39
  go_wp2_with fail
  refine (F1.out _).mono ?_
  rintro e w1 ⟨rfl, rfl⟩
  go_wp2_with fail
  refine Calls.mono (w := LW w #[.int .i64 k, .int .i64 n, .slice po pl.length pc] tblS) (F2.out _) ?_
  generalize LW w #[.int .i64 k, .int .i64 n, .slice po pl.length pc] tblS = W at R1 hC HB
  rintro e w1 ⟨rfl, rfl⟩
  go_wp2_with (refine wpList_store_row rfl 29 _ _ rfl (w.heap.size + 1) #[.int .i64 3, .string tx, .slice none 0 0, .slice none 0 0, .int .i64 0] rfl rfl 29 Z5 R1.out info40 rfl (by simp [Value.oneCell']) ?_)
  refine bodyPost_ret (results_cell_row rfl _ _ (w.heap.size + 1) 29 #[.int .i64 3, .string tx, .slice none 0 0, .slice none 0 0, .int .i64 0] (0, 0) _ rfl (setRow_heap W _ _ _ 29 _ R1.out) Try.underlying29 rfl info40) rfl ?_
  exact ⟨_, rfl, HP.out _ _ _, below_setRowW HB.out _ _ (by omega)⟩
set_option maxHeartbeats 4000000 in
theorem make_sym3 (k n : Int) (po : Option Addr) (pl : List Rw) (pc : Nat) (w : World) (hk : I64 k) (hn : I64 n) (h7 : k % 7 = 3) :
    Calls Try.prog 39 #[.agg #[.int .i64 k, .int .i64 n, .slice po pl.length pc]] w (RetMk (.mk 3 (tblS.getD (n % 11).toNat ⟨#[]⟩) [] [] 0) w) := by
  have F1 := Lib.hid (fun w => within_is k 7 3 hk (by decide) (by decide) h7 w)
  obtain ⟨s, hs⟩ : ∃ s : Nat, n % 11 = (s : Int) := ⟨(n % 11).toNat, by omega⟩
  have hs5 : s < 11 := by omega
  have F2 := Lib.hid (fun w => within_is n 11 s hn (by decide) (by decide) hs w)
  have e : (n % 11).toNat = s := by omega
  rw [e]
  have R1 := Lib.hid (LW_new w #[.int .i64 k, .int .i64 n, .slice po pl.length pc] tblS)
  have hC := tcells_get _ _ tblS (LW_texts w #[.int .i64 k, .int .i64 n, .slice po pl.length pc] tblS) s hs5
  generalize tblS.getD s ⟨#[]⟩ = tx at hC ⊢
  have HB := Lib.hid (LW_below w #[.int .i64 k, .int .i64 n, .slice po pl.length pc] tblS)
  have HP := Lib.hid (fun t => leaf_new (fun g => w.heap.size ≤ g) t)
  clear hk hn h7 hs e
  go_enter Try.func39, Try.ntmps39
  go_wp2_with fail
  refine (F1.out _).mono ?_
  rintro e w1 ⟨rfl, rfl⟩
  go_wp2_with fail
  refine Calls.mono (w := LW w #[.int .i64 k, .int .i64 n, .slice po pl.length pc] tblS) (F2.out _) ?_
  generalize LW w #[.int .i64 k, .int .i64 n, .slice po pl.length pc] tblS = W at R1 hC HB
  rintro e w1 ⟨rfl, rfl⟩
  go_wp2_with (refine wpList_store_row rfl 29 _ _ rfl (w.heap.size + 1) #[.int .i64 3, .string tx, .slice none 0 0, .slice none 0 0, .int .i64 0] rfl rfl 29 Z5 R1.out info40 rfl (by simp [Value.oneCell']) ?_)
  refine bodyPost_ret (results_cell_row rfl _ _ (w.heap.size + 1) 29 #[.int .i64 3, .string tx, .slice none 0 0, .slice none 0 0, .int .i64 0] (0, 0) _ rfl (setRow_heap W _ _ _ 29 _ R1.out) Try.underlying29 rfl info40) rfl ?_
  exact ⟨_, rfl, HP.out _ _ _, below_setRowW HB.out _ _ (by omega)⟩
end Go.Proofs.Ythhaegncnoekbaa
namespace Go.Proofs.Ythhaegncnoekbaa
open Go.RowKit
theorem makes_list (k n : Int) (pl : List Rw) (q : Int) (h7 : k % 7 = q) (hq : q = 4 ∨ q = 5 ∨ q = 6) : Rw.make (.mk k n pl) = .mk 4 ⟨#[]⟩ [] (Rw.makes pl) 0 := by
  rw [Rw.make, if_neg (by omega), if_neg (by omega), if_neg (by omega)]
def MInv (l : List Rw) (w : World) (raw : Array Value) (iv : Value) (wr : World) : Prop :=
  ∃ (j : Nat) (v : Value), j ≤ l.length ∧ iv = .int .i64 j ∧ wr.heap[w.heap.size + 1 + 1]? = some (.cells #[.int .i64 4, .string ⟨#[]⟩, .slice none 0 0, v, .int .i64 0] 29 (0, 0)) ∧ OwnD (w.heap.size + 1 + 1 + 1) wr v (Rw.makes (l.take j)) ∧
    wr.heap[w.heap.size + 1]? = some (.cells Z5 29 (0, 0)) ∧ wr.heap[w.heap.size]? = some (.cells raw 67 (0, 0)) ∧ Below w.heap.size w wr ∧ w.heap.size + 1 + 1 < wr.heap.size
def MW (w : World) (raw : Array Value) : World := ((w.alloc (.cells raw 67)).alloc (.cells Z5 29)).alloc (.cells #[.int .i64 4, .string ⟨#[]⟩, .slice none 0 0, .slice none 0 0, .int .i64 0] 29)
theorem MW_inv (l : List Rw) (w : World) (raw : Array Value) : MInv l w raw (.int .i64 0) (MW w raw) := by
  have e1 : (w.alloc (.cells raw 67)).heap.size = w.heap.size + 1 := by simp
  have e2 : ((w.alloc (.cells raw 67)).alloc (.cells Z5 29)).heap.size = w.heap.size + 1 + 1 := by simp
  refine ⟨0, .slice none 0 0, Nat.zero_le _, rfl, ?_, ?_, ?_, ?_, ?_, ?_⟩
  · have h := alloc_at ((w.alloc (.cells raw 67)).alloc (.cells Z5 29)) (.cells #[.int .i64 4, .string ⟨#[]⟩, .slice none 0 0, .slice none 0 0, .int .i64 0] 29)
    rw [e2] at h; exact h
  · exact OwnD.nil _ _
  · have h := alloc_at (w.alloc (.cells raw 67)) (.cells Z5 29)
    rw [e1] at h
    exact (Lib.alloc_old _ _ _ (by simp)).trans h
  · exact (Lib.alloc_old _ _ _ (by simp; omega)).trans ((Lib.alloc_old _ _ _ (by simp)).trans (alloc_at w (.cells raw 67)))
  · exact (((Below.refl w.heap.size w).alloc (Nat.le_refl _) (.cells raw 67)).alloc (by simp) (.cells Z5 29)).alloc (by simp; omega) _
  · simp [MW]
theorem RsAt.block {w : World} {b : Addr} {l : List Rw} (H : RsAt w (some b) l) {j : Nat} (h : j < l.length) : b.block < w.heap.size := by
  obtain ⟨b', k, n, po, pl, pc, e, _, c0, _⟩ := H.get j h
  injection e with e
  subst e
  have := World.block_lt_of_cell? w _ c0
  have e0 : (b.add (j * 3)).block = b.block := by unfold Addr.add; split <;> rfl
  rw [e0] at this; exact this
theorem ih_at (N : Nat) (IH : Hid (∀ (k n : Int) (pl : List Rw), 1 + Rw.cnts pl ≤ N → I64 k → I64 n → ∀ (po : Option Addr) (pc : Nat) (w : World), RsAt w po pl →
      Calls Try.prog 39 #[.agg #[.int .i64 k, .int .i64 n, .slice po pl.length pc]] w (RetMk (Rw.make (.mk k n pl)) w))) {m : Nat} (hm : m ≤ N) {k n : Int} {pl : List Rw} (h : 1 + Rw.cnts pl ≤ m) (hk : I64 k) (hn : I64 n) {w : World} {po : Option Addr} {pc : Nat} (hR : RsAt w po pl) :
    Calls Try.prog 39 #[.agg #[.int .i64 k, .int .i64 n, .slice po pl.length pc]] w (RetMk (Rw.make (.mk k n pl)) w) := IH.out k n pl (by omega) hk hn po pc w hR
theorem made_more {l : List Rw} {w : World} {raw : Array Value} {j : Nat} {v : Value} {wr : World} (hlt : j < l.length) (hl : l.length ≤ 1000000)
    (hgd : wr.heap[w.heap.size + 1 + 1]? = some (.cells #[.int .i64 4, .string ⟨#[]⟩, .slice none 0 0, v, .int .i64 0] 29 (0, 0))) (hown : OwnD (w.heap.size + 1 + 1 + 1) wr v (Rw.makes (l.take j)))
    (hgz : wr.heap[w.heap.size + 1]? = some (.cells Z5 29 (0, 0))) (hgr : wr.heap[w.heap.size]? = some (.cells raw 67 (0, 0))) (hbel : Below w.heap.size w wr) (hbs : w.heap.size + 1 + 1 < wr.heap.size)
    {d : Dt} (hd : l[j].make = d) {cs : Array Value} {w7 : World} (hat : Dt.At (fun g => wr.drew.heap.size ≤ g) w7 d cs) (hb : Below wr.drew.heap.size wr.drew w7) (h5 : cs.size = 5) :
    ∃ xs, (w7.alloc (.cells cs 29)).ownsRow (w.heap.size + 1 + 1 + 1) 29 5 v j xs ∧ w.heap.size + 1 + 1 + 1 ≤ (w7.alloc (.cells cs 29)).heap.size ∧ ∀ v' w9, w9.ownsRow (w.heap.size + 1 + 1 + 1) 29 5 v' (j + 1) (xs ++ cs.toList) → (w7.alloc (.cells cs 29)).grownBy w9 v.ownBlock →
      (v'.ownBlock = v.ownBlock ∨ v'.ownBlock = some (w7.alloc (.cells cs 29)).heap.size) →
      Below (w.heap.size + 1 + 1) wr w9 ∧ w9.heap[w.heap.size + 1 + 1]? = some (.cells #[.int .i64 4, .string ⟨#[]⟩, .slice none 0 0, v, .int .i64 0] 29 (0, 0)) ∧ Below (w.heap.size + 1 + 1) wr (w9.setCell ⟨w.heap.size + 1 + 1, 3, none⟩ v') ∧
        MInv l w raw (.int .i64 ((j : Int) + 1)) (w9.setCell ⟨w.heap.size + 1 + 1, 3, none⟩ v') := by
  have hb' : Below wr.heap.size wr w7 := (Below.refl wr.heap.size wr).drew.trans hb
  have hs7 := hb'.size
  have hb8 : Below wr.heap.size wr (w7.alloc (.cells cs 29)) := hb'.alloc hb'.size _
  obtain ⟨xs, hown8, hx8⟩ := OwnD.below hown hb8
  have hlen : (Rw.makes (l.take j)).length = j := by rw [makes_length, List.length_take]; omega
  rw [hlen] at hown8
  have hvl : ∀ k, v.ownBlock = some k → w.heap.size + 1 + 1 + 1 ≤ k ∧ k < wr.heap.size := by
    obtain ⟨ys, ho, _⟩ := hown
    exact ho.lt
  have hz8 : (w7.alloc (.cells cs 29)).heap.size = w7.heap.size + 1 := by simp
  refine ⟨xs, hown8, by rw [hz8]; omega, fun v' w9 hown9 hg9 hv9 => ?_⟩
  have hB9 : Below (w.heap.size + 1 + 1 + 1) wr w9 := (hb8.mono (by omega)).grown hg9 (by rw [hz8]; omega) (fun k hk => (hvl k hk).1)
  have g9 : w9.heap[w.heap.size + 1 + 1]? = some (.cells #[.int .i64 4, .string ⟨#[]⟩, .slice none 0 0, v, .int .i64 0] 29 (0, 0)) := by rw [hB9.block _ (by omega)]; exact hgd
  have hB10 : Below (w.heap.size + 1 + 1) wr (w9.setCell ⟨w.heap.size + 1 + 1, 3, none⟩ v') := (hB9.mono (Nat.le_succ _)).setCell (p := ⟨w.heap.size + 1 + 1, 3, none⟩) (Nat.le_refl _) v'
  refine ⟨hB9.mono (by omega), g9, hB10, j + 1, v', by omega, by congr 1, ?_, ?_, ?_, ?_, ?_, ?_⟩
  · exact heap_setCell_same w9 _ 3 _ 29 v' g9
  · refine OwnD.setCell ?_ (by show w.heap.size + 1 + 1 < _; omega) _
    rw [makes_take l j hlt, hd]
    have hlx : xs.length = j * 5 := hown8.1
    refine OwnD.snoc hx8 (by rw [hlen]; exact hlx) h5 ?_ (by rw [hlen]; exact hown9) hg9 hv9
    have h1 := Dt.At.bound d cs hat
    have h2 := Dt.At.keeps (Keeps.of_below ((Below.refl w7.heap.size w7).alloc (Nat.le_refl _) (.cells cs 29))) d cs h1
    refine Dt.At.mono (fun g hg => ⟨?_, ?_⟩) d cs h2
    · have : wr.heap.size ≤ g := hg.1; omega
    · intro e
      have := (hvl g e).2
      have : wr.heap.size ≤ g := hg.1
      omega
  · rw [hB10.block _ (by omega)]; exact hgz
  · rw [hB10.block _ (by omega)]; exact hgr
  · exact hbel.trans (hB10.mono (by omega))
  · have := hB10.size; omega
theorem list_new {w wr : World} {v : Value} {ds : List Dt} {cs : Array Value} (h : OwnD (w.heap.size + 1 + 1 + 1) wr v ds) (hgz : wr.heap[w.heap.size + 1]? = some (.cells Z5 29 (0, 0))) :
    Dt.At (fun g => w.heap.size ≤ g) (wr.setRow (w.heap.size + 1) cs) (.mk 4 ⟨#[]⟩ [] ds 0) #[.int .i64 4, .string ⟨#[]⟩, .slice none 0 0, v, .int .i64 0] := by
  rw [At_mk]
  refine ⟨_, _, rfl, .inl ⟨rfl, rfl⟩, ?_⟩
  refine LAt.mono (LAt.keeps h.at ?_) (fun g (hg : w.heap.size + 1 + 1 + 1 ≤ g) => by omega)
  intro g c T fz hs hg _
  exact ⟨fz, by rw [setRow_other wr _ g _ (by have : w.heap.size + 1 + 1 + 1 ≤ g := hs; omega)]; exact hg⟩
def RetMk1 (l : List Rw) (w : World) := RetMk (.mk 4 ⟨#[]⟩ [] (Rw.makes l) 0) w
set_option maxHeartbeats 4000000 in
theorem make_list (N : Nat) (hN : N ≤ 1000000) (ih : ∀ (k n : Int) (pl : List Rw), 1 + Rw.cnts pl ≤ N → I64 k → I64 n → ∀ (po : Option Addr) (pc : Nat) (w : World), RsAt w po pl →
      Calls Try.prog 39 #[.agg #[.int .i64 k, .int .i64 n, .slice po pl.length pc]] w (RetMk (Rw.make (.mk k n pl)) w))
    (k n : Int) (l : List Rw) (q : Int) (hk : I64 k) (h7 : k % 7 = q) (hq : q = 4 ∨ q = 5 ∨ q = 6) (hl : Rw.cnts l ≤ N) (ao : Option Addr) (ac : Nat) (w : World) (hR : RsAt w ao l) :
    Calls Try.prog 39 #[.agg #[.int .i64 k, .int .i64 n, .slice ao l.length ac]] w (RetMk1 l w) := by
  have F1 := Lib.hid (fun w => within_is k 7 q hk (by decide) (by decide) h7 w)
  have z0 : (q == 0) = false := by rw [beq_eq_false_iff_ne]; omega
  have z1 : (q == 1) = false := by rw [beq_eq_false_iff_ne]; omega
  have z2 : (q == 2) = false := by rw [beq_eq_false_iff_ne]; omega
  have z3 : (q == 3) = false := by rw [beq_eq_false_iff_ne]; omega
  have hll := length_cnts l
  have hl1 : l.length ≤ 1000000 := by omega
  have IH := Lib.hid ih
  have HR := Lib.hid hR
  have HC := Lib.hid hl
  clear hk h7 hq ih hR hl hll
  go_enter Try.func39, Try.ntmps39
  go_wp2_with fail
  refine (F1.out _).mono ?_
  rintro e w1 ⟨rfl, rfl⟩
  go_wp2_with (first | (refine wpList_store_row rfl 29 _ _ rfl (w.heap.size + 1 + 1) #[.int .i64 4, .string ⟨#[]⟩, .slice none 0 0, .slice none 0 0, .int .i64 0] rfl rfl 29 Z5 (by have := alloc_at ((w.alloc (.cells #[.int .i64 k, .int .i64 n, .slice ao l.length ac] 67)).alloc (.cells Z5 29)) (.cells Z5 29); simp only [World.heap_size_alloc] at this; exact this) info40 rfl (by simp [Value.oneCell']) ?_))
  have HS := Lib.hid (MW_inv l w #[.int .i64 k, .int .i64 n, .slice ao l.length ac])
  go_loopw [4] (fun iv wr => MInv l w #[.int .i64 k, .int .i64 n, .slice ao l.length ac] iv wr) (fun iv _ => l.length - (intOf iv).toNat)
  case atStart => exact HS.out
  case round =>
    clear HS
    obtain ⟨j, v, hj, rfl, hgd, hown, hgz, hgr, hbel, hbs⟩ := hrel
    have HO := Lib.hid hown
    have HB := Lib.hid hbel
    have GZ := Lib.hid hgz
    have GD := Lib.hid hgd
    have GR := Lib.hid hgr
    have cr : wr.cell? ⟨w.heap.size, 2, none⟩ = some (.slice ao l.length ac) := by rw [Lib.cell_of_heap hgr]; rfl
    clear hown hbel hgz hgd hgr
    by_cases hlt : j < l.length
    · have q1 : decide ((j : Int) < (l.length : Int)) = true := decide_eq_true (by omega)
      obtain ⟨b, k', n', po, pl, pc, rfl, hlj, c0, c1, c2, i1, i2, hpl⟩ := (HR.out.below HB.out).get j hlt
      have hcj := cnts_get l j hlt
      rw [hlj] at hcj
      simp only [Rw.cnt] at hcj
      have hd : l[j].make = (Rw.mk k' n' pl).make := by rw [hlj]
      have HX := Lib.hid (ih_at N IH HC.out hcj i1 i2 (w := wr.drew) (po := po) (pc := pc) (hpl.below (Below.refl _ _).drew))
      have C0 := Lib.hid c0
      have C1 := Lib.hid c1
      have C2 := Lib.hid c2
      have bl : b.block < w.heap.size := RsAt.block HR.out hlt
      have CR := Lib.hid cr
      go_upto_region 13 with fail
      clear cr c0 c1 c2 hlj i1 i2 hpl IH q1
      refine wp_region_noPanic ?_
      refine wp_region_held_drew (S := Below (w.heap.size + 1 + 1) wr) (by kernel_rfl) ((Below.refl _ _).drew) (fun hHeld => ?_)
      refine qtk (i := 0) (v := Value.pointer (some ⟨w.heap.size + 1 + 1, 3, none⟩)) rfl rfl (fun w' hw' => ?_) hHeld ?_
      · go_simp
      simp only [zt,zs,zz,Act.put,zi,zy,zx]
      refine qtk (i := 2) (v := Value.pointer (some ⟨w.heap.size, 2, none⟩)) rfl rfl (fun w' hw' => ?_) hHeld ?_
      · go_simp
      simp only [zt,zs,zz,Act.put,zi,zy,zx]
      refine qtk (i := 3) (v := Value.slice (some b) l.length ac) rfl rfl (fun w' hw' => ?_) hHeld ?_
      · have c := (hw'.cell (p := ⟨w.heap.size, 2, none⟩) (by show w.heap.size < _; omega)).trans CR.out; go_simp
      simp only [zt,zs,zz,Act.put,zi,zy,zx]
      refine qtk (i := 4) (v := Value.int .i64 j) rfl rfl (fun w' hw' => ?_) hHeld ?_
      · go_simp
      simp only [zt,zs,zz,Act.put,zi,zy,zx]
      refine qtk (i := 5) (v := Value.pointer (some (b.add (j * 3)))) rfl rfl (fun w' hw' => ?_) hHeld ?_
      · go_simp
      simp only [zt,zs,zz,Act.put,zi,zy,zx]
      refine qtk (i := 6) (v := Value.agg #[.int .i64 k', .int .i64 n', .slice po pl.length pc]) rfl rfl (fun w' hw' => ?_) hHeld ?_
      · have q0 := (hw'.cell (p := b.add (j * 3)) (by rw [add_block]; omega)).trans C0.out; have q1 := (hw'.cell (p := ⟨(b.add (j * 3)).block, (b.add (j * 3)).off + 1, none⟩) (by show (b.add (j * 3)).block < _; rw [add_block]; omega)).trans C1.out; have q2 := (hw'.cell (p := ⟨(b.add (j * 3)).block, (b.add (j * 3)).off + 2, none⟩) (by show (b.add (j * 3)).block < _; rw [add_block]; omega)).trans C2.out; go_simp
      simp only [zt,zs,zz,Act.put,zi,zy,zx]
      refine wpAnyH_ready (rs := [1, 7]) (by kernel_rfl) (by simp) ?_
      refine (AllReadyH.cons rfl (fun K hK => ?_) (AllReadyH.cons rfl (fun K hK => ?_) AllReadyH.nil))
      · skip
        have c45 := (show wr.cell? ⟨w.heap.size + 1 + 1, 3, none⟩ = some v by rw [Lib.cell_of_heap GD.out]; rfl)
        go_simp
        refine hK.out _ _ hHeld (fun hHeld => ?_)
        clear hK K c45
        try simp only [zt,zs,zz,Act.put,zi,zy,zx]
        refine wpAnyH_ready (rs := [7]) (by kernel_rfl) (by simp) ?_
        refine (AllReadyH.cons rfl (fun K hK => ?_) AllReadyH.nil)
        go_simp
        refine HX.out.mono ?_
        rintro e w7 ⟨cs, rfl, hat, hb⟩
        obtain ⟨k5, t5, mv5, lv5, p5, rfl, o1, o2⟩ := At_form hat
        obtain ⟨xs, hown8, hz8, hnx⟩ := made_more hlt hl1 GD.out HO.out GZ.out GR.out HB.out hbs hd hat hb rfl
        have HN := Lib.hid hnx
        have HO8 := Lib.hid hown8
        have hb7 : Below (w.heap.size + 1 + 1 + 1) wr w7 := ((Below.refl wr.heap.size wr).drew.trans hb).mono (by omega)
        have HB7 := Lib.hid hb7
        have hS7 := hb7.mono (show w.heap.size + 1 + 1 ≤ w.heap.size + 1 + 1 + 1 by omega)
        have hz7 := hb7.size
        refine hK.out _ _ hS7 (fun hHeld => ?_)
        clear hK K hat hb hown8 hnx hb7 hS7
        try simp only [zt,zs,zz,Act.put,zi,zy,zx]
        refine wpAnyH_ready (rs := [8]) (by kernel_rfl) (by simp) ?_
        refine (AllReadyH.cons rfl (fun K hK => ?_) AllReadyH.nil)
        go_simp
        refine hK.out _ _ (hHeld.alloc (by omega) _) (fun hHeld => ?_)
        clear hK K
        try simp only [zt,zs,zz,Act.put,zi,zy,zx]
        refine wpAnyH_ready (rs := [9]) (by kernel_rfl) (by simp) ?_
        refine (AllReadyH.cons rfl (fun K hK => ?_) AllReadyH.nil)
        rw [if_pos (by rfl)]
        refine wp_app (Operand.tmp 45) (Operand.tmp 52) rfl (w.heap.size + 1 + 1 + 1) v j xs rfl HO8.out w7.heap.size 1 rfl [.int .i64 k5, .string t5, mv5, lv5, .int .i64 p5] rfl (fun i u hu => ?_) (by simp; exact ⟨rfl, rfl, o1, o2, rfl⟩) (by omega) hz8 ?_
        · rw [Lib.cell_of_heap (alloc_at w7 (.cells #[.int .i64 k5, .string t5, mv5, lv5, .int .i64 p5] 29))]; simpa using hu
        intro v' w9 hown9 hg9 hv9
        obtain ⟨so, sn, sc, rfl⟩ := own_form hown9
        obtain ⟨hS9, g9, hS10, hM⟩ := HN.out _ w9 hown9 hg9 hv9
        have HM := Lib.hid hM
        have HS := Lib.hid hS10
        have cc : w9.cell? ⟨w.heap.size + 1 + 1, 3, none⟩ = some v := by rw [Lib.cell_of_heap g9]; rfl
        have cf := frozen_of_row w9 (w.heap.size + 1 + 1) 3 _ 29 g9
        refine hK.out _ _ hS9 (fun hHeld => ?_)
        clear hK K hown9 hg9 hv9 hS10 hM g9 HN HO8 hS9
        try simp only [zt,zs,zz,Act.put,zi,zy,zx]
        refine qtk (i := 10) (v := Value.pointer (some ⟨w.heap.size + 1 + 1, 3, none⟩)) rfl rfl (fun w' hw' => ?_) hHeld ?_
        · go_simp
        simp only [zt,zs,zz,Act.put,zi,zy,zx]
        refine wpAnyH_ready (rs := [11]) (by kernel_rfl) (by simp) ?_
        refine (AllReadyH.cons rfl (fun K hK => ?_) AllReadyH.nil)
        go_simp
        refine hK.out _ _ HS.out (fun hHeld => ?_)
        clear hK K cc cf
        try simp only [zt,zs,zz,Act.put,zi,zy,zx]
        refine wpAnyH_done (by kernel_rfl) ?_ _
        refine NoPanic.normal ?_
        clear hHeld
        go_wp2_with fail
        go_roundw
        case rel => exact HM.out
        case measure => simp [intOf]; omega
      · skip
        go_simp
        refine HX.out.mono ?_
        rintro e w7 ⟨cs, rfl, hat, hb⟩
        obtain ⟨k5, t5, mv5, lv5, p5, rfl, o1, o2⟩ := At_form hat
        obtain ⟨xs, hown8, hz8, hnx⟩ := made_more hlt hl1 GD.out HO.out GZ.out GR.out HB.out hbs hd hat hb rfl
        have HN := Lib.hid hnx
        have HO8 := Lib.hid hown8
        have hb7 : Below (w.heap.size + 1 + 1 + 1) wr w7 := ((Below.refl wr.heap.size wr).drew.trans hb).mono (by omega)
        have HB7 := Lib.hid hb7
        have hS7 := hb7.mono (show w.heap.size + 1 + 1 ≤ w.heap.size + 1 + 1 + 1 by omega)
        have hz7 := hb7.size
        refine hK.out _ _ hS7 (fun hHeld => ?_)
        clear hK K hat hb hown8 hnx hb7 hS7
        try simp only [zt,zs,zz,Act.put,zi,zy,zx]
        refine wpAnyH_ready (rs := [1, 8]) (by kernel_rfl) (by simp) ?_
        refine (AllReadyH.cons rfl (fun K hK => ?_) (AllReadyH.cons rfl (fun K hK => ?_) AllReadyH.nil))
        · skip
          have c45 := (show w7.cell? ⟨w.heap.size + 1 + 1, 3, none⟩ = some v by rw [HB7.out.cell (p := ⟨w.heap.size + 1 + 1, 3, none⟩) (by show w.heap.size + 1 + 1 < _; omega), Lib.cell_of_heap GD.out]; rfl)
          go_simp
          refine hK.out _ _ hHeld (fun hHeld => ?_)
          clear hK K c45
          try simp only [zt,zs,zz,Act.put,zi,zy,zx]
          refine wpAnyH_ready (rs := [8]) (by kernel_rfl) (by simp) ?_
          refine (AllReadyH.cons rfl (fun K hK => ?_) AllReadyH.nil)
          go_simp
          refine hK.out _ _ (hHeld.alloc (by omega) _) (fun hHeld => ?_)
          clear hK K
          try simp only [zt,zs,zz,Act.put,zi,zy,zx]
          refine wpAnyH_ready (rs := [9]) (by kernel_rfl) (by simp) ?_
          refine (AllReadyH.cons rfl (fun K hK => ?_) AllReadyH.nil)
          rw [if_pos (by rfl)]
          refine wp_app (Operand.tmp 45) (Operand.tmp 52) rfl (w.heap.size + 1 + 1 + 1) v j xs rfl HO8.out w7.heap.size 1 rfl [.int .i64 k5, .string t5, mv5, lv5, .int .i64 p5] rfl (fun i u hu => ?_) (by simp; exact ⟨rfl, rfl, o1, o2, rfl⟩) (by omega) hz8 ?_
          · rw [Lib.cell_of_heap (alloc_at w7 (.cells #[.int .i64 k5, .string t5, mv5, lv5, .int .i64 p5] 29))]; simpa using hu
          intro v' w9 hown9 hg9 hv9
          obtain ⟨so, sn, sc, rfl⟩ := own_form hown9
          obtain ⟨hS9, g9, hS10, hM⟩ := HN.out _ w9 hown9 hg9 hv9
          have HM := Lib.hid hM
          have HS := Lib.hid hS10
          have cc : w9.cell? ⟨w.heap.size + 1 + 1, 3, none⟩ = some v := by rw [Lib.cell_of_heap g9]; rfl
          have cf := frozen_of_row w9 (w.heap.size + 1 + 1) 3 _ 29 g9
          refine hK.out _ _ hS9 (fun hHeld => ?_)
          clear hK K hown9 hg9 hv9 hS10 hM g9 HN HO8 hS9
          try simp only [zt,zs,zz,Act.put,zi,zy,zx]
          refine qtk (i := 10) (v := Value.pointer (some ⟨w.heap.size + 1 + 1, 3, none⟩)) rfl rfl (fun w' hw' => ?_) hHeld ?_
          · go_simp
          simp only [zt,zs,zz,Act.put,zi,zy,zx]
          refine wpAnyH_ready (rs := [11]) (by kernel_rfl) (by simp) ?_
          refine (AllReadyH.cons rfl (fun K hK => ?_) AllReadyH.nil)
          go_simp
          refine hK.out _ _ HS.out (fun hHeld => ?_)
          clear hK K cc cf
          try simp only [zt,zs,zz,Act.put,zi,zy,zx]
          refine wpAnyH_done (by kernel_rfl) ?_ _
          refine NoPanic.normal ?_
          clear hHeld
          go_wp2_with fail
          go_roundw
          case rel => exact HM.out
          case measure => simp [intOf]; omega
        · skip
          go_simp
          refine hK.out _ _ (hHeld.alloc (by omega) _) (fun hHeld => ?_)
          clear hK K
          try simp only [zt,zs,zz,Act.put,zi,zy,zx]
          refine wpAnyH_ready (rs := [1]) (by kernel_rfl) (by simp) ?_
          refine (AllReadyH.cons rfl (fun K hK => ?_) AllReadyH.nil)
          have c45 := (show (w7.alloc (.cells #[.int .i64 k5, .string t5, mv5, lv5, .int .i64 p5] 29)).cell? ⟨w.heap.size + 1 + 1, 3, none⟩ = some v by rw [(HB7.out.alloc (by omega) _).cell (p := ⟨w.heap.size + 1 + 1, 3, none⟩) (by show w.heap.size + 1 + 1 < _; omega), Lib.cell_of_heap GD.out]; rfl)
          go_simp
          refine hK.out _ _ hHeld (fun hHeld => ?_)
          clear hK K c45
          try simp only [zt,zs,zz,Act.put,zi,zy,zx]
          refine wpAnyH_ready (rs := [9]) (by kernel_rfl) (by simp) ?_
          refine (AllReadyH.cons rfl (fun K hK => ?_) AllReadyH.nil)
          rw [if_pos (by rfl)]
          refine wp_app (Operand.tmp 45) (Operand.tmp 52) rfl (w.heap.size + 1 + 1 + 1) v j xs rfl HO8.out w7.heap.size 1 rfl [.int .i64 k5, .string t5, mv5, lv5, .int .i64 p5] rfl (fun i u hu => ?_) (by simp; exact ⟨rfl, rfl, o1, o2, rfl⟩) (by omega) hz8 ?_
          · rw [Lib.cell_of_heap (alloc_at w7 (.cells #[.int .i64 k5, .string t5, mv5, lv5, .int .i64 p5] 29))]; simpa using hu
          intro v' w9 hown9 hg9 hv9
          obtain ⟨so, sn, sc, rfl⟩ := own_form hown9
          obtain ⟨hS9, g9, hS10, hM⟩ := HN.out _ w9 hown9 hg9 hv9
          have HM := Lib.hid hM
          have HS := Lib.hid hS10
          have cc : w9.cell? ⟨w.heap.size + 1 + 1, 3, none⟩ = some v := by rw [Lib.cell_of_heap g9]; rfl
          have cf := frozen_of_row w9 (w.heap.size + 1 + 1) 3 _ 29 g9
          refine hK.out _ _ hS9 (fun hHeld => ?_)
          clear hK K hown9 hg9 hv9 hS10 hM g9 HN HO8 hS9
          try simp only [zt,zs,zz,Act.put,zi,zy,zx]
          refine qtk (i := 10) (v := Value.pointer (some ⟨w.heap.size + 1 + 1, 3, none⟩)) rfl rfl (fun w' hw' => ?_) hHeld ?_
          · go_simp
          simp only [zt,zs,zz,Act.put,zi,zy,zx]
          refine wpAnyH_ready (rs := [11]) (by kernel_rfl) (by simp) ?_
          refine (AllReadyH.cons rfl (fun K hK => ?_) AllReadyH.nil)
          go_simp
          refine hK.out _ _ HS.out (fun hHeld => ?_)
          clear hK K cc cf
          try simp only [zt,zs,zz,Act.put,zi,zy,zx]
          refine wpAnyH_done (by kernel_rfl) ?_ _
          refine NoPanic.normal ?_
          clear hHeld
          go_wp2_with fail
          go_roundw
          case rel => exact HM.out
          case measure => simp [intOf]; omega
    · obtain rfl : j = l.length := by omega
      have HO' := HO.out
      rw [List.take_length] at HO'
      have HQ := Lib.hid HO'
      have q1 : decide ((l.length : Int) < (l.length : Int)) = false := decide_eq_false (by omega)
      clear HO HO' cr hlt
      have cr : wr.cell? ⟨w.heap.size, 2, none⟩ = some (.slice ao l.length ac) := by rw [Lib.cell_of_heap GR.out]; rfl
      go_wp2_with (first | (refine wpList_load_row rfl 29 _ rfl (w.heap.size + 1 + 1) rfl 29 #[.int .i64 4, .string ⟨#[]⟩, .slice none 0 0, v, .int .i64 0] (0, 0) _ GD.out Try.underlying29 rfl info40 ?_) | (refine wpList_store_row rfl 29 _ _ rfl (w.heap.size + 1) #[.int .i64 4, .string ⟨#[]⟩, .slice none 0 0, v, .int .i64 0] rfl rfl 29 Z5 GZ.out info40 rfl (by simp [Value.oneCell']; exact HQ.out.at.one) ?_))
      refine bodyPost_ret (results_cell_row rfl _ _ (w.heap.size + 1) 29 #[.int .i64 4, .string ⟨#[]⟩, .slice none 0 0, v, .int .i64 0] (0, 0) _ rfl (setRow_heap wr _ _ _ 29 _ GZ.out) Try.underlying29 rfl info40) rfl ?_
      exact ⟨_, rfl, list_new HQ.out GZ.out, below_setRowW HB.out _ _ (by omega)⟩
theorem make_any (N : Nat) (hN : N ≤ 1000000) : ∀ (k n : Int) (pl : List Rw), 1 + Rw.cnts pl ≤ N → I64 k → I64 n → ∀ (po : Option Addr) (pc : Nat) (w : World), RsAt w po pl →
      Calls Try.prog 39 #[.agg #[.int .i64 k, .int .i64 n, .slice po pl.length pc]] w (RetMk (Rw.make (.mk k n pl)) w) := by
  induction N with
  | zero => intro k n pl h; omega
  | succ N ih =>
    intro k n pl h hk hn po pc w hR
    have h0 := Int.emod_nonneg k (show (7 : Int) ≠ 0 by decide)
    have h6 := Int.emod_lt_of_pos k (show (0 : Int) < 7 by decide)
    obtain ⟨q, h7⟩ : ∃ q, k % 7 = q := ⟨_, rfl⟩
    rw [h7] at h0 h6
    by_cases hq : q = 4 ∨ q = 5 ∨ q = 6
    · rw [makes_list k n pl q h7 hq]
      exact make_list N (by omega) (ih (by omega)) k n pl q hk h7 hq (by omega) po pc w hR
    · by_cases q0 : q = 0
      · subst q0; rw [Rw.make, if_pos h7]; exact make_int k n po pl pc w hk hn h7
      · by_cases q1 : q = 1
        · subst q1; rw [Rw.make, if_neg (by omega), if_pos h7]; exact make_bool k n po pl pc w hk hn h7
        · by_cases q2 : q = 2
          · subst q2; rw [Rw.make, if_neg (by omega), if_neg (by omega), if_pos (by omega)]; exact make_sym2 k n po pl pc w hk hn h7
          · have q3 : q = 3 := by omega
            subst q3; rw [Rw.make, if_neg (by omega), if_neg (by omega), if_pos (by omega)]; exact make_sym3 k n po pl pc w hk hn h7
end Go.Proofs.Ythhaegncnoekbaa
namespace Go.Proofs.Ythhaegncnoekbaa
open Go.RowKit
theorem wpList_wanted {P : Program} {ops : Array Oper} {Q : Exit → Act → World → Prop} {a : Act} {w : World} {rest : List Oper} {o : Oper} (hw : Region.wanted o (yielded ops a.tmps) = true) (h : ∀ K : Act → World → Prop, (∀ a w, wpList P ops Q rest a w → K a w) → o.wp P a w K Q) : wpList P ops Q (o :: rest) a w :=
  wpList_step fun K hK => by rw [if_pos hw]; exact h K hK
def RetAll (l : List Rw) (w : World) (e : Ending) (w' : World) : Prop := ∃ v, e = .returned v ∧ OwnD w.heap.size w' v (Rw.makes l) ∧ Below w.heap.size w w'
def AInv (l : List Rw) (w : World) (sv iv : Value) (wr : World) : Prop := ∃ j : Nat, j ≤ l.length ∧ iv = .int .i64 j ∧ OwnD w.heap.size wr sv (Rw.makes (l.take j)) ∧ Below w.heap.size w wr
set_option maxHeartbeats 4000000 in
set_option maxRecDepth 100000 in
theorem all_any (l : List Rw) (hl : Rw.cnts l ≤ 1000000) (ao : Option Addr) (ac : Nat) (w : World) (hR : RsAt w ao l) :
    Calls Try.prog 16 #[.slice ao l.length ac] w (RetAll l w) := by
  have hll := length_cnts l
  have hl1 : l.length ≤ 1000000 := by omega
  have HR := Lib.hid hR
  have HC := Lib.hid hl
  clear hR hl hll
  go_enter Try.func16, Try.ntmps16
  go_wp2_with fail
  go_loopw [3, 4] (fun sv iv wr => AInv l w sv iv wr) (fun _ iv _ => l.length - (intOf iv).toNat)
  case atStart => exact ⟨0, Nat.zero_le _, rfl, OwnD.nil _ _, Below.refl _ _⟩
  case round =>
    obtain ⟨j, hj, rfl, hown, hbel⟩ := hrel
    have HO := Lib.hid hown
    have HB := Lib.hid hbel
    clear hown hbel
    by_cases hlt : j < l.length
    · have q1 : decide ((j : Int) < (l.length : Int)) = true := decide_eq_true (by omega)
      obtain ⟨b, k', n', po, pl, pc, rfl, hlj, c0, c1, c2, i1, i2, hpl⟩ := (HR.out.below HB.out).get j hlt
      have hcj := cnts_get l j hlt
      have hd : l[j].make = (Rw.mk k' n' pl).make := by rw [hlj]
      rw [hlj] at hcj
      simp only [Rw.cnt] at hcj
      have hlm : (Rw.makes (l.take j)).length = j := by rw [makes_length, List.length_take]; omega
      have HX := Lib.hid (make_any 1000000 (by decide) k' n' pl (by have := HC.out; omega) i1 i2 po pc wr hpl)
      have HT := Lib.hid (makes_take l j hlt)
      have HD := Lib.hid hd
      have HLM := Lib.hid hlm
      clear hd hlj hcj i1 i2 hpl hlm
      go_wp2_with fail
      refine HX.out.mono ?_
      rintro e w7 ⟨cs, rfl, hat, hb⟩
      obtain ⟨k5, t5, mv5, lv5, p5, rfl, o1, o2⟩ := At_form hat
      obtain ⟨xs, hown8, hz8, hnx⟩ := all_more HO.out (by rw [HLM.out]; omega) HB.out.size hat hb rfl
      rw [HLM.out] at hown8 hnx
      have HN := Lib.hid hnx
      have HO8 := Lib.hid hown8
      clear hat hb hown8 hnx c0 c1 c2
      go_wp2_with (refine wpList_wanted (by rfl) fun K hK => ?_; refine wp_app (Operand.tmp 11) (Operand.tmp 17) rfl w.heap.size u3 j xs rfl HO8.out w7.heap.size 1 rfl [.int .i64 k5, .string t5, mv5, lv5, .int .i64 p5] rfl (fun i u hu => by rw [Lib.cell_of_heap (alloc_at w7 (.cells #[.int .i64 k5, .string t5, mv5, lv5, .int .i64 p5] 29))]; simpa using hu) (by simp; exact ⟨rfl, rfl, o1, o2, rfl⟩) (by omega) hz8 ?_; intro v' w9 hown9 hg9 hv9; have HM := Lib.hid (HN.out v' w9 hown9 hg9 hv9); clear hown9 hg9 hv9 HN HO8; refine hK _ _ ?_; clear hK K)
      go_roundw
      case rel =>
        refine ⟨j + 1, by omega, by go_num, ?_, HB.out.trans HM.out.1⟩
        rw [HT.out, HD.out]
        exact HM.out.2
      case measure => simp [intOf]; omega
    · obtain rfl : j = l.length := by omega
      have q1 : decide ((l.length : Int) < (l.length : Int)) = false := decide_eq_false (by omega)
      go_wp2_with fail
      go_ret
      refine ⟨_, rfl, ?_, HB.out⟩
      have := HO.out
      rw [List.take_length] at this
      exact this
end Go.Proofs.Ythhaegncnoekbaa
namespace Go.Proofs.Ythhaegncnoekbaa
open Go.RowKit
theorem size_list (t : ByteArray) : t.data.toList.length = t.size := by rw [Array.length_toList]; rfl
theorem getD_le (l : List ByteArray) (m : Nat) (h : ∀ t ∈ l, t.size ≤ m) (i : Nat) : (l.getD i ⟨#[]⟩).size ≤ m := by
  rw [List.getD_eq_getElem?_getD]
  cases hq : l[i]? with
  | none => exact Nat.zero_le _
  | some t => simp; exact h t (List.mem_of_getElem? hq)
theorem tblI_le : ∀ t ∈ tblI, t.size ≤ 30 := by decide
theorem tblB_le : ∀ t ∈ tblB, t.size ≤ 30 := by decide
theorem tblS_le : ∀ t ∈ tblS, t.size ≤ 30 := by decide
theorem leaf_txt (k : Int) (t : ByteArray) (ms : List Int) (l : List Dt) (p : Int) (hk : k ≠ 4) : (Dt.mk k t ms l p).txt = t.data.toList := by simp [Dt.txt, hk]
theorem txts_txtr (l : List Dt) : (Dt.txts l).length ≤ (Dt.txtr l).length := by cases l <;> simp [Dt.txts, Dt.txtr]
mutual
theorem make_txt : ∀ (r : Rw), r.make.txt.length + 1 ≤ 41 * r.cnt
  | .mk k n l => by
    rw [Rw.make]
    have hc : 41 ≤ 41 * (Rw.mk k n l).cnt := by simp only [Rw.cnt]; omega
    split
    · rw [leaf_txt _ _ _ _ _ (by decide), size_list]; have := getD_le _ _ tblI_le (n % 5).toNat; omega
    · split
      · rw [leaf_txt _ _ _ _ _ (by decide), size_list]; have := getD_le _ _ tblB_le (n % 2).toNat; omega
      · split
        · rw [leaf_txt _ _ _ _ _ (by decide), size_list]; have := getD_le _ _ tblS_le (n % 11).toNat; omega
        · have h1 := makes_txt l
          have h2 := txts_txtr (Rw.makes l)
          simp only [Dt.txt, if_true, List.length_cons, List.length_append, List.length_nil, Rw.cnt]
          omega
theorem makes_txt : ∀ (l : List Rw), (Dt.txtr (Rw.makes l)).length ≤ 41 * Rw.cnts l
  | [] => by simp [Rw.makes, Dt.txtr]
  | r :: l => by
    have h1 := make_txt r
    have h2 := makes_txt l
    simp only [Rw.makes, Dt.txtr, Rw.cnts, List.length_cons, List.length_append]
    omega
end
mutual
theorem make_size : ∀ (r : Rw), r.make.size ≤ r.cnt
  | .mk k n l => by
    have h1 := makes_size l
    rw [Rw.make]
    split
    · simp only [Dt.size, Dt.sizes, Rw.cnt]; omega
    · split
      · simp only [Dt.size, Dt.sizes, Rw.cnt]; omega
      · split
        · simp only [Dt.size, Dt.sizes, Rw.cnt]; omega
        · simp only [Dt.size, Rw.cnt]; omega
theorem makes_size : ∀ (l : List Rw), Dt.sizes (Rw.makes l) ≤ Rw.cnts l
  | [] => by simp [Rw.makes, Dt.sizes]
  | r :: l => by
    have h1 := make_size r
    have h2 := makes_size l
    simp only [Rw.makes, Dt.sizes, Rw.cnts]
    omega
end
end Go.Proofs.Ythhaegncnoekbaa
namespace Go.Proofs.Ythhaegncnoekbaa
open Go Go.RowKit
theorem getD_size (l : List ByteArray) (h : ∀ t ∈ l, t.size ≤ 30) (i : Nat) : (l.getD i ⟨#[]⟩).size ≤ 1000000 := Nat.le_trans (getD_le l 30 h i) (by decide)
mutual
theorem make_wf : ∀ (r : Rw), r.make.wf
  | .mk k n l => by
    rw [Rw.make]
    split
    · exact (wf_mk ..).2 ⟨fun _ => rfl, getD_size _ tblI_le _, trivial, fun m hm => by cases hm⟩
    · split
      · exact (wf_mk ..).2 ⟨fun _ => rfl, getD_size _ tblB_le _, trivial, fun m hm => by cases hm⟩
      · split
        · exact (wf_mk ..).2 ⟨fun _ => rfl, getD_size _ tblS_le _, trivial, fun m hm => by cases hm⟩
        · exact (wf_mk ..).2 ⟨fun h => absurd rfl h, by decide, makes_wf l, fun m hm => by cases hm⟩
theorem makes_wf : ∀ (l : List Rw), wfs (Rw.makes l)
  | [] => by rw [Rw.makes]; trivial
  | r :: l => by rw [Rw.makes]; exact ⟨make_wf r, makes_wf l⟩
end
theorem list_wf (l : List Rw) : (Dt.mk 4 ⟨#[]⟩ [] (Rw.makes l) 0).wf := (wf_mk ..).2 ⟨fun h => absurd rfl h, by decide, makes_wf l, fun m hm => by cases hm⟩
theorem list_size (l : List Rw) : (Dt.mk 4 ⟨#[]⟩ [] (Rw.makes l) 0).size ≤ 1 + Rw.cnts l := by simp only [Dt.size]; have := makes_size l; omega
theorem list_at {S : Nat → Prop} {w : World} {lv : Value} {l : List Dt} (h : LAt S w lv l) : Dt.At S w (.mk 4 ⟨#[]⟩ [] l 0) #[.int .i64 4, .string ⟨#[]⟩, .slice none 0 0, lv, .int .i64 0] := by
  rw [At_mk]; exact ⟨_, _, rfl, .inl ⟨rfl, rfl⟩, h⟩
theorem own_three {B : Nat} {w : World} (hB : B ≤ w.heap.size) {d1 d2 d3 : Dt} {a1 a2 a3 a4 a5 b1 b2 b3 b4 b5 c1 c2 c3 c4 c5 : Value} (h1 : Dt.At (fun g => B ≤ g) w d1 #[a1, a2, a3, a4, a5]) (h2 : Dt.At (fun g => B ≤ g) w d2 #[b1, b2, b3, b4, b5]) (h3 : Dt.At (fun g => B ≤ g) w d3 #[c1, c2, c3, c4, c5]) :
    OwnD B (w.alloc (.cells #[a1, a2, a3, a4, a5, b1, b2, b3, b4, b5, c1, c2, c3, c4, c5] 29)) (.slice (some ⟨w.heap.size, 0, none⟩) 3 3) [d1, d2, d3] := by
  have key : ∀ (d : Dt) (cs : Array Value), Dt.At (fun g => B ≤ g) w d cs → Dt.At (fun g => B ≤ g ∧ (Value.slice (some ⟨w.heap.size, 0, none⟩) 3 3).ownBlock ≠ some g) (w.alloc (.cells #[a1, a2, a3, a4, a5, b1, b2, b3, b4, b5, c1, c2, c3, c4, c5] 29)) d cs := by
    intro d cs h
    have h1 := Dt.At.bound d cs h
    refine Dt.At.mono (fun g hg => ⟨hg.1, fun e => ?_⟩) _ _ (Dt.At.keeps (Keeps.of_below ((Below.refl _ _).alloc (Nat.le_refl _) _)) _ _ h1)
    simp only [Value.ownBlock, Option.some.injEq] at e
    have := hg.2; omega
  refine ⟨[a1, a2, a3, a4, a5, b1, b2, b3, b4, b5, c1, c2, c3, c4, c5], ⟨rfl, .inr ⟨_, 3, _, rfl, hB, alloc_at _ _, Nat.le_refl _, by unfold maxLen; decide, rfl, rfl⟩⟩, fun j hj => ?_⟩
  rcases (show j = 0 ∨ j = 1 ∨ j = 2 by simp at hj; omega) with rfl | rfl | rfl
  · exact ⟨_, rfl, fun i hi => by rcases (show i = 0 ∨ i = 1 ∨ i = 2 ∨ i = 3 ∨ i = 4 by omega) with rfl | rfl | rfl | rfl | rfl <;> rfl, key _ _ h1⟩
  · exact ⟨_, rfl, fun i hi => by rcases (show i = 0 ∨ i = 1 ∨ i = 2 ∨ i = 3 ∨ i = 4 by omega) with rfl | rfl | rfl | rfl | rfl <;> rfl, key _ _ h2⟩
  · exact ⟨_, rfl, fun i hi => by rcases (show i = 0 ∨ i = 1 ∨ i = 2 ∨ i = 3 ∨ i = 4 by omega) with rfl | rfl | rfl | rfl | rfl <;> rfl, key _ _ h3⟩
theorem own3 {S : Nat → Prop} {B : Nat} {w : World} (hB : B ≤ w.heap.size) {d1 d2 d3 : Dt} {a1 a2 a3 a4 a5 b1 b2 b3 b4 b5 c1 c2 c3 c4 c5 : Value} (h1 : Dt.At S w d1 #[a1, a2, a3, a4, a5]) (h2 : Dt.At S w d2 #[b1, b2, b3, b4, b5]) (h3 : Dt.At S w d3 #[c1, c2, c3, c4, c5]) :
    OwnS S B (w.alloc (.cells #[a1, a2, a3, a4, a5, b1, b2, b3, b4, b5, c1, c2, c3, c4, c5] 29)) (.slice (some ⟨w.heap.size, 0, none⟩) 3 3) [d1, d2, d3] := by
  have key : ∀ (d : Dt) (cs : Array Value), Dt.At S w d cs → Dt.At S (w.alloc (.cells #[a1, a2, a3, a4, a5, b1, b2, b3, b4, b5, c1, c2, c3, c4, c5] 29)) d cs :=
    fun d cs h => Dt.At.keeps (Keeps.of_below ((Below.refl _ _).alloc (Nat.le_refl _) _)) _ _ h
  refine ⟨[a1, a2, a3, a4, a5, b1, b2, b3, b4, b5, c1, c2, c3, c4, c5], ⟨rfl, .inr ⟨_, 3, _, rfl, hB, alloc_at _ _, Nat.le_refl _, by unfold maxLen; decide, rfl, rfl⟩⟩, fun j hj => ?_⟩
  rcases (show j = 0 ∨ j = 1 ∨ j = 2 by simp at hj; omega) with rfl | rfl | rfl
  · exact ⟨_, rfl, fun i hi => by rcases (show i = 0 ∨ i = 1 ∨ i = 2 ∨ i = 3 ∨ i = 4 by omega) with rfl | rfl | rfl | rfl | rfl <;> rfl, key _ _ h1⟩
  · exact ⟨_, rfl, fun i hi => by rcases (show i = 0 ∨ i = 1 ∨ i = 2 ∨ i = 3 ∨ i = 4 by omega) with rfl | rfl | rfl | rfl | rfl <;> rfl, key _ _ h2⟩
  · exact ⟨_, rfl, fun i hi => by rcases (show i = 0 ∨ i = 1 ∨ i = 2 ∨ i = 3 ∨ i = 4 by omega) with rfl | rfl | rfl | rfl | rfl <;> rfl, key _ _ h3⟩
theorem OwnS.more9 {S : Nat → Prop} {B : Nat} {w : World} {v : Value} {ds : List Dt} {d : Dt} {cs : Array Value} (h : OwnS S B w v ds) (h5 : cs.size = 5) (hd : Dt.At S w d cs) (hS : ∀ x, v.ownBlock = some x → ¬ S x) :
    ∃ xs, w.ownsRow B 29 5 v ds.length xs ∧ ∀ v' w9, w9.ownsRow B 29 5 v' (ds.length + 1) (xs ++ cs.toList) → w.grownBy w9 v.ownBlock → OwnS S B w9 v' (ds ++ [d]) := by
  obtain ⟨xs, ho, hx⟩ := h
  refine ⟨xs, ho, fun v' w9 h9 hg => ⟨_, by simpa using h9, fun j hj => ?_⟩⟩
  have hk : Keeps S w w9 := Keeps.of_grown hg (fun g hs e => hS g e.symm hs)
  have hl : xs.length = ds.length * 5 := ho.1
  by_cases hlt : j < ds.length
  · obtain ⟨c, c5, c1, c3⟩ := hx j hlt
    refine ⟨c, c5, fun i hi => ?_, ?_⟩
    · rw [List.getElem?_append_left (by omega)]; exact c1 i hi
    · rw [List.getElem_append_left hlt]; exact Dt.At.keeps hk _ _ c3
  · have hj' : j = ds.length := by simp at hj; omega
    subst hj'
    refine ⟨cs, h5, fun i hi => ?_, ?_⟩
    · rw [List.getElem?_append_right (by omega), show 5 * ds.length + i - xs.length = i by omega]; simp
    · rw [List.getElem_append_right (by omega)]
      simp
      exact Dt.At.keeps hk _ _ hd
theorem OwnS.low9 {S : Nat → Prop} {B : Nat} {w : World} {v : Value} {ds : List Dt} (h : OwnS S B w v ds) : LAt (fun g => g < w.heap.size) w v ds := by
  obtain ⟨xs, hown, hd⟩ := h
  rcases hown.2 with ⟨rfl, hz⟩ | ⟨g, cap, cur, rfl, hbg, hg, hnc, hcm, hcs, htake⟩
  · exact .inl ⟨rfl, List.length_eq_zero_iff.1 hz⟩
  · refine .inr ⟨g, 0, cap, cur, (0, 0), rfl, (Array.getElem?_eq_some_iff.1 hg).1, hg, Dts.At.of_get _ _ _ (fun j hj => ?_), hnc⟩
    obtain ⟨cs, h5, h1, h2⟩ := hd j hj
    refine ⟨cs, fun i hi => ?_, Dt.At.low _ _ h2⟩
    rw [← h1 i hi, ← htake, List.getElem?_take, if_pos (by omega)]
    simp
theorem makes_ok (m : List Rw) (h : Rw.cnts m ≤ 60) : ∀ d ∈ Rw.makes m, d.wf ∧ d.size ≤ 9000 := by
  intro d hd
  obtain ⟨j, hj, rfl⟩ := List.getElem_of_mem hd
  have h2 := size_get (Rw.makes m) j hj
  have h3 := makes_size m
  exact ⟨wfs_get (makes_wf m) j hj, by omega⟩
end Go.Proofs.Ythhaegncnoekbaa
namespace Go.Proofs.Ythhaegncnoekbaa
open Go Go.RowKit
mutual
def Dt.wfb : Dt → Bool
  | .mk k t ms l p => (k == 4 || l.isEmpty) && decide (t.size ≤ 1000000) && ms.isEmpty && wfsb l
def wfsb : List Dt → Bool
  | [] => true
  | d :: r => d.wfb && wfsb r
end
mutual
theorem wfb_is : ∀ (d : Dt), d.wfb = true → d.wf
  | .mk k t ms l p, h => by
    rw [Dt.wfb] at h
    simp only [Bool.and_eq_true, Bool.or_eq_true, beq_iff_eq, decide_eq_true_eq, List.isEmpty_iff] at h
    obtain ⟨⟨⟨h1, h2⟩, h3⟩, h4⟩ := h
    exact (wf_mk ..).2 ⟨fun hk => h1.elim (fun e => absurd e hk) id, h2, wfsb_is l h4, fun m hm => by rw [h3] at hm; cases hm⟩
theorem wfsb_is : ∀ (l : List Dt), wfsb l = true → wfs l
  | [], _ => trivial
  | d :: r, h => by
    rw [wfsb, Bool.and_eq_true] at h
    exact ⟨wfb_is d h.1, wfsb_is r h.2⟩
end
end Go.Proofs.Ythhaegncnoekbaa
