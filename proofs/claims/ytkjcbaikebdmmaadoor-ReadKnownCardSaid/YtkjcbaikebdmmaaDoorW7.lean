/- The contract of Make, at lists too; of All. -/
import Derived.Test.YtkjcbaikebdmmaaDoorW6
import Derived.Deep.Cut
namespace Go.Proofs.YtkjcbaikebdmmaaDoor
open Go.RowKit
set_option linter.unusedVariables false
set_option linter.unusedSimpArgs false

theorem makes_list (k n : Int) (pl : List Rw) (q : Int) (h7 : k % 7 = q) (hq : q = 4 ∨ q = 5 ∨ q = 6) : Rw.make (.mk k n pl) = .mk 4 ⟨#[]⟩ [] (Rw.makes pl) 0 := by
  rw [Rw.make, if_neg (by omega), if_neg (by omega), if_neg (by omega)]

/-- The loop of Make, and of All: so many are made, and are held by a row of the call's own. -/
def MInv (l : List Rw) (w : World) (raw : Array Value) (iv : Value) (wr : World) : Prop :=
  ∃ (j : Nat) (v : Value), j ≤ l.length ∧ iv = .int .i64 j ∧ wr.heap[w.heap.size + 1 + 1]? = some (.cells #[.int .i64 4, .string ⟨#[]⟩, .slice none 0 0, v, .int .i64 0] 40 (0, 0)) ∧ OwnD (w.heap.size + 1 + 1 + 1) wr v (Rw.makes (l.take j)) ∧
    wr.heap[w.heap.size + 1]? = some (.cells Z5 40 (0, 0)) ∧ wr.heap[w.heap.size]? = some (.cells raw 74 (0, 0)) ∧ Below w.heap.size w wr ∧ w.heap.size + 1 + 1 < wr.heap.size
theorem RsAt.form {w : World} {ao : Option Addr} {l : List Rw} (H : RsAt w ao l) : True := trivial
/-- The world in which the list is made. -/
def MW (w : World) (raw : Array Value) : World := ((w.alloc (.cells raw 74)).alloc (.cells Z5 40)).alloc (.cells #[.int .i64 4, .string ⟨#[]⟩, .slice none 0 0, .slice none 0 0, .int .i64 0] 40)
theorem MW_inv (l : List Rw) (w : World) (raw : Array Value) : MInv l w raw (.int .i64 0) (MW w raw) := by
  have e1 : (w.alloc (.cells raw 74)).heap.size = w.heap.size + 1 := by simp
  have e2 : ((w.alloc (.cells raw 74)).alloc (.cells Z5 40)).heap.size = w.heap.size + 1 + 1 := by simp
  refine ⟨0, .slice none 0 0, Nat.zero_le _, rfl, ?_, ?_, ?_, ?_, ?_, ?_⟩
  · have h := alloc_at ((w.alloc (.cells raw 74)).alloc (.cells Z5 40)) (.cells #[.int .i64 4, .string ⟨#[]⟩, .slice none 0 0, .slice none 0 0, .int .i64 0] 40)
    rw [e2] at h; exact h
  · exact OwnD.nil _ _
  · have h := alloc_at (w.alloc (.cells raw 74)) (.cells Z5 40)
    rw [e1] at h
    exact (Lib.alloc_old _ _ _ (by simp)).trans h
  · exact (Lib.alloc_old _ _ _ (by simp; omega)).trans ((Lib.alloc_old _ _ _ (by simp)).trans (alloc_at w (.cells raw 74)))
  · exact (((Below.refl w.heap.size w).alloc (Nat.le_refl _) (.cells raw 74)).alloc (by simp) (.cells Z5 40)).alloc (by simp; omega) _
  · simp [MW]
theorem RsAt.block {w : World} {b : Addr} {l : List Rw} (H : RsAt w (some b) l) {j : Nat} (h : j < l.length) : b.block < w.heap.size := by
  obtain ⟨b', k, n, po, pl, pc, e, _, c0, _⟩ := H.get j h
  injection e with e
  subst e
  have := World.block_lt_of_cell? w _ c0
  have e0 : (b.add (j * 3)).block = b.block := by unfold Addr.add; split <;> rfl
  rw [e0] at this; exact this
theorem ih_at (N : Nat) (IH : Hid (∀ (k n : Int) (pl : List Rw), 1 + Rw.cnts pl ≤ N → I64 k → I64 n → ∀ (po : Option Addr) (pc : Nat) (w : World), RsAt w po pl →
      Calls Tryd.prog 38 #[.agg #[.int .i64 k, .int .i64 n, .slice po pl.length pc]] w (RetMk (Rw.make (.mk k n pl)) w))) {m : Nat} (hm : m ≤ N) {k n : Int} {pl : List Rw} (h : 1 + Rw.cnts pl ≤ m) (hk : I64 k) (hn : I64 n) {w : World} {po : Option Addr} {pc : Nat} (hR : RsAt w po pl) :
    Calls Tryd.prog 38 #[.agg #[.int .i64 k, .int .i64 n, .slice po pl.length pc]] w (RetMk (Rw.make (.mk k n pl)) w) := IH.out k n pl (by omega) hk hn po pc w hR
/-- A round of Make's loop. -/
theorem made_more {l : List Rw} {w : World} {raw : Array Value} {j : Nat} {v : Value} {wr : World} (hlt : j < l.length) (hl : l.length ≤ 1000000)
    (hgd : wr.heap[w.heap.size + 1 + 1]? = some (.cells #[.int .i64 4, .string ⟨#[]⟩, .slice none 0 0, v, .int .i64 0] 40 (0, 0))) (hown : OwnD (w.heap.size + 1 + 1 + 1) wr v (Rw.makes (l.take j)))
    (hgz : wr.heap[w.heap.size + 1]? = some (.cells Z5 40 (0, 0))) (hgr : wr.heap[w.heap.size]? = some (.cells raw 74 (0, 0))) (hbel : Below w.heap.size w wr) (hbs : w.heap.size + 1 + 1 < wr.heap.size)
    {d : Dt} (hd : l[j].make = d) {cs : Array Value} {w7 : World} (hat : Dt.At (fun g => wr.drew.heap.size ≤ g) w7 d cs) (hb : Below wr.drew.heap.size wr.drew w7) (h5 : cs.size = 5) :
    ∃ xs, (w7.alloc (.cells cs 40)).ownsRow (w.heap.size + 1 + 1 + 1) 40 5 v j xs ∧ w.heap.size + 1 + 1 + 1 ≤ (w7.alloc (.cells cs 40)).heap.size ∧ ∀ v' w9, w9.ownsRow (w.heap.size + 1 + 1 + 1) 40 5 v' (j + 1) (xs ++ cs.toList) → (w7.alloc (.cells cs 40)).grownBy w9 v.ownBlock →
      (v'.ownBlock = v.ownBlock ∨ v'.ownBlock = some (w7.alloc (.cells cs 40)).heap.size) →
      Below (w.heap.size + 1 + 1) wr w9 ∧ w9.heap[w.heap.size + 1 + 1]? = some (.cells #[.int .i64 4, .string ⟨#[]⟩, .slice none 0 0, v, .int .i64 0] 40 (0, 0)) ∧ Below (w.heap.size + 1 + 1) wr (w9.setCell ⟨w.heap.size + 1 + 1, 3, none⟩ v') ∧
        MInv l w raw (.int .i64 ((j : Int) + 1)) (w9.setCell ⟨w.heap.size + 1 + 1, 3, none⟩ v') := by
  have hb' : Below wr.heap.size wr w7 := (Below.refl wr.heap.size wr).drew.trans hb
  have hs7 := hb'.size
  have hb8 : Below wr.heap.size wr (w7.alloc (.cells cs 40)) := hb'.alloc hb'.size _
  obtain ⟨xs, hown8, hx8⟩ := OwnD.below hown hb8
  have hlen : (Rw.makes (l.take j)).length = j := by rw [makes_length, List.length_take]; omega
  rw [hlen] at hown8
  have hvl : ∀ k, v.ownBlock = some k → w.heap.size + 1 + 1 + 1 ≤ k ∧ k < wr.heap.size := by
    obtain ⟨ys, ho, _⟩ := hown
    exact ho.lt
  have hz8 : (w7.alloc (.cells cs 40)).heap.size = w7.heap.size + 1 := by simp
  refine ⟨xs, hown8, by rw [hz8]; omega, fun v' w9 hown9 hg9 hv9 => ?_⟩
  have hB9 : Below (w.heap.size + 1 + 1 + 1) wr w9 := (hb8.mono (by omega)).grown hg9 (by rw [hz8]; omega) (fun k hk => (hvl k hk).1)
  have g9 : w9.heap[w.heap.size + 1 + 1]? = some (.cells #[.int .i64 4, .string ⟨#[]⟩, .slice none 0 0, v, .int .i64 0] 40 (0, 0)) := by rw [hB9.block _ (by omega)]; exact hgd
  have hB10 : Below (w.heap.size + 1 + 1) wr (w9.setCell ⟨w.heap.size + 1 + 1, 3, none⟩ v') := (hB9.mono (Nat.le_succ _)).setCell (p := ⟨w.heap.size + 1 + 1, 3, none⟩) (Nat.le_refl _) v'
  refine ⟨hB9.mono (by omega), g9, hB10, j + 1, v', by omega, by congr 1, ?_, ?_, ?_, ?_, ?_, ?_⟩
  · exact heap_setCell_same w9 _ 3 _ 40 v' g9
  · refine OwnD.setCell ?_ (by show w.heap.size + 1 + 1 < _; omega) _
    rw [makes_take l j hlt, hd]
    have hlx : xs.length = j * 5 := hown8.1
    refine OwnD.snoc hx8 (by rw [hlen]; exact hlx) h5 ?_ (by rw [hlen]; exact hown9) hg9 hv9
    have h1 := Dt.At.bound d cs hat
    have h2 := Dt.At.keeps (Keeps.of_below ((Below.refl w7.heap.size w7).alloc (Nat.le_refl _) (.cells cs 40))) d cs h1
    refine Dt.At.mono (fun g hg => ⟨?_, ?_⟩) d cs h2
    · have : wr.heap.size ≤ g := hg.1; omega
    · intro e
      have := (hvl g e).2
      have : wr.heap.size ≤ g := hg.1
      omega
  · rw [hB10.block _ (by omega)]; exact hgz
  · rw [hB10.block _ (by omega)]; exact hgr
  · exact hbel.trans (hB10.mono (by omega))
  · have := hB10.size; omega
theorem list_new {w wr : World} {v : Value} {ds : List Dt} {cs : Array Value} (h : OwnD (w.heap.size + 1 + 1 + 1) wr v ds) (hgz : wr.heap[w.heap.size + 1]? = some (.cells Z5 40 (0, 0))) :
    Dt.At (fun g => w.heap.size ≤ g) (wr.setRow (w.heap.size + 1) cs) (.mk 4 ⟨#[]⟩ [] ds 0) #[.int .i64 4, .string ⟨#[]⟩, .slice none 0 0, v, .int .i64 0] := by
  rw [At_mk]
  refine ⟨_, _, rfl, .inl ⟨rfl, rfl⟩, ?_⟩
  refine LAt.mono (LAt.keeps h.at ?_) (fun g (hg : w.heap.size + 1 + 1 + 1 ≤ g) => by omega)
  intro g c T fz hs hg _
  exact ⟨fz, by rw [setRow_other wr _ g _ (by have : w.heap.size + 1 + 1 + 1 ≤ g := hs; omega)]; exact hg⟩
def RetMk1 (l : List Rw) (w : World) := RetMk (.mk 4 ⟨#[]⟩ [] (Rw.makes l) 0) w

set_option maxHeartbeats 4000000 in
theorem make_list (N : Nat) (hN : N ≤ 1000000) (ih : ∀ (k n : Int) (pl : List Rw), 1 + Rw.cnts pl ≤ N → I64 k → I64 n → ∀ (po : Option Addr) (pc : Nat) (w : World), RsAt w po pl →
      Calls Tryd.prog 38 #[.agg #[.int .i64 k, .int .i64 n, .slice po pl.length pc]] w (RetMk (Rw.make (.mk k n pl)) w))
    (k n : Int) (l : List Rw) (q : Int) (hk : I64 k) (h7 : k % 7 = q) (hq : q = 4 ∨ q = 5 ∨ q = 6) (hl : Rw.cnts l ≤ N) (ao : Option Addr) (ac : Nat) (w : World) (hR : RsAt w ao l) :
    Calls Tryd.prog 38 #[.agg #[.int .i64 k, .int .i64 n, .slice ao l.length ac]] w (RetMk1 l w) := by
  have F1 := Lib.hid (fun w => within_is k 7 q hk (by decide) (by decide) h7 w)
  have z0 : (q == 0) = false := by rw [beq_eq_false_iff_ne]; omega
  have z1 : (q == 1) = false := by rw [beq_eq_false_iff_ne]; omega
  have z2 : (q == 2) = false := by rw [beq_eq_false_iff_ne]; omega
  have z3 : (q == 3) = false := by rw [beq_eq_false_iff_ne]; omega
  have hll := length_cnts l
  have hl1 : l.length ≤ 1000000 := by omega
  have IH := Lib.hid ih
  have HR := Lib.hid hR
  have HC := Lib.hid hl
  clear hk h7 hq ih hR hl hll
  go_enter Tryd.func38, Tryd.ntmps38
  go_wp2_with fail
  refine (F1.out _).mono ?_
  rintro e w1 ⟨rfl, rfl⟩
  go_wp2_with (first | (refine wpList_store_row rfl 40 _ _ rfl (w.heap.size + 1 + 1) #[.int .i64 4, .string ⟨#[]⟩, .slice none 0 0, .slice none 0 0, .int .i64 0] rfl rfl 40 Z5 (by have := alloc_at ((w.alloc (.cells #[.int .i64 k, .int .i64 n, .slice ao l.length ac] 74)).alloc (.cells Z5 40)) (.cells Z5 40); simp only [World.heap_size_alloc] at this; exact this) info40 rfl (by simp [Value.oneCell']) ?_))
  have HS := Lib.hid (MW_inv l w #[.int .i64 k, .int .i64 n, .slice ao l.length ac])
  go_loopw [4] (fun iv wr => MInv l w #[.int .i64 k, .int .i64 n, .slice ao l.length ac] iv wr) (fun iv _ => l.length - (intOf iv).toNat)
  case atStart => exact HS.out
  case round =>
    clear HS
    obtain ⟨j, v, hj, rfl, hgd, hown, hgz, hgr, hbel, hbs⟩ := hrel
    have HO := Lib.hid hown
    have HB := Lib.hid hbel
    have GZ := Lib.hid hgz
    have GD := Lib.hid hgd
    have GR := Lib.hid hgr
    have cr : wr.cell? ⟨w.heap.size, 2, none⟩ = some (.slice ao l.length ac) := by rw [Lib.cell_of_heap hgr]; rfl
    clear hown hbel hgz hgd hgr
    by_cases hlt : j < l.length
    · have q1 : decide ((j : Int) < (l.length : Int)) = true := decide_eq_true (by omega)
      obtain ⟨b, k', n', po, pl, pc, rfl, hlj, c0, c1, c2, i1, i2, hpl⟩ := (HR.out.below HB.out).get j hlt
      have hcj := cnts_get l j hlt
      rw [hlj] at hcj
      simp only [Rw.cnt] at hcj
      have hd : l[j].make = (Rw.mk k' n' pl).make := by rw [hlj]
      have HX := Lib.hid (ih_at N IH HC.out hcj i1 i2 (w := wr.drew) (po := po) (pc := pc) (hpl.below (Below.refl _ _).drew))
      have C0 := Lib.hid c0
      have C1 := Lib.hid c1
      have C2 := Lib.hid c2
      have bl : b.block < w.heap.size := RsAt.block HR.out hlt
      have CR := Lib.hid cr
      go_upto_region 13 with fail
      clear cr c0 c1 c2 hlj i1 i2 hpl IH q1
      refine wp_region_noPanic ?_
      refine wp_region_held_drew (S := Below (w.heap.size + 1 + 1) wr) (by kernel_rfl) ((Below.refl _ _).drew) (fun hHeld => ?_)
      refine wpAnyH_take (i := 0) (v := Value.pointer (some ⟨w.heap.size + 1 + 1, 3, none⟩)) rfl (by kernel_rfl) (by kernel_rfl) (by kernel_rfl) (fun _ _ _ h => h) (Or.inl ⟨rfl, fun w' hw' => ?_⟩) hHeld ?_
      · go_simp
      simp only [List.getElem_toArray, List.getElem_cons_succ, List.getElem_cons_zero, Act.put, List.setIfInBounds_toArray, List.set_cons_zero, List.set_cons_succ]
      refine wpAnyH_take (i := 2) (v := Value.pointer (some ⟨w.heap.size, 2, none⟩)) rfl (by kernel_rfl) (by kernel_rfl) (by kernel_rfl) (fun _ _ _ h => h) (Or.inl ⟨rfl, fun w' hw' => ?_⟩) hHeld ?_
      · go_simp
      simp only [List.getElem_toArray, List.getElem_cons_succ, List.getElem_cons_zero, Act.put, List.setIfInBounds_toArray, List.set_cons_zero, List.set_cons_succ]
      refine wpAnyH_take (i := 3) (v := Value.slice (some b) l.length ac) rfl (by kernel_rfl) (by kernel_rfl) (by kernel_rfl) (fun _ _ _ h => h) (Or.inl ⟨rfl, fun w' hw' => ?_⟩) hHeld ?_
      · have c := (hw'.cell (p := ⟨w.heap.size, 2, none⟩) (by show w.heap.size < _; omega)).trans CR.out; go_simp
      simp only [List.getElem_toArray, List.getElem_cons_succ, List.getElem_cons_zero, Act.put, List.setIfInBounds_toArray, List.set_cons_zero, List.set_cons_succ]
      refine wpAnyH_take (i := 4) (v := Value.int .i64 j) rfl (by kernel_rfl) (by kernel_rfl) (by kernel_rfl) (fun _ _ _ h => h) (Or.inl ⟨rfl, fun w' hw' => ?_⟩) hHeld ?_
      · go_simp
      simp only [List.getElem_toArray, List.getElem_cons_succ, List.getElem_cons_zero, Act.put, List.setIfInBounds_toArray, List.set_cons_zero, List.set_cons_succ]
      refine wpAnyH_take (i := 5) (v := Value.pointer (some (b.add (j * 3)))) rfl (by kernel_rfl) (by kernel_rfl) (by kernel_rfl) (fun _ _ _ h => h) (Or.inl ⟨rfl, fun w' hw' => ?_⟩) hHeld ?_
      · go_simp
      simp only [List.getElem_toArray, List.getElem_cons_succ, List.getElem_cons_zero, Act.put, List.setIfInBounds_toArray, List.set_cons_zero, List.set_cons_succ]
      refine wpAnyH_take (i := 6) (v := Value.agg #[.int .i64 k', .int .i64 n', .slice po pl.length pc]) rfl (by kernel_rfl) (by kernel_rfl) (by kernel_rfl) (fun _ _ _ h => h) (Or.inl ⟨rfl, fun w' hw' => ?_⟩) hHeld ?_
      · have q0 := (hw'.cell (p := b.add (j * 3)) (by rw [add_block]; omega)).trans C0.out; have q1 := (hw'.cell (p := ⟨(b.add (j * 3)).block, (b.add (j * 3)).off + 1, none⟩) (by show (b.add (j * 3)).block < _; rw [add_block]; omega)).trans C1.out; have q2 := (hw'.cell (p := ⟨(b.add (j * 3)).block, (b.add (j * 3)).off + 2, none⟩) (by show (b.add (j * 3)).block < _; rw [add_block]; omega)).trans C2.out; go_simp
      simp only [List.getElem_toArray, List.getElem_cons_succ, List.getElem_cons_zero, Act.put, List.setIfInBounds_toArray, List.set_cons_zero, List.set_cons_succ]
      refine wpAnyH_ready (rs := [1, 7]) (by kernel_rfl) (by simp) ?_
      refine (AllReadyH.cons rfl (fun K hK => ?_) (AllReadyH.cons rfl (fun K hK => ?_) AllReadyH.nil))
      · skip
        have c45 := (show wr.cell? ⟨w.heap.size + 1 + 1, 3, none⟩ = some v by rw [Lib.cell_of_heap GD.out]; rfl)
        go_simp
        refine hK.out _ _ hHeld (fun hHeld => ?_)
        clear hK K c45
        try simp only [List.getElem_toArray, List.getElem_cons_succ, List.getElem_cons_zero, Act.put, List.setIfInBounds_toArray, List.set_cons_zero, List.set_cons_succ]
        refine wpAnyH_ready (rs := [7]) (by kernel_rfl) (by simp) ?_
        refine (AllReadyH.cons rfl (fun K hK => ?_) AllReadyH.nil)
        go_simp
        refine HX.out.mono ?_
        rintro e w7 ⟨cs, rfl, hat, hb⟩
        obtain ⟨k5, t5, mv5, lv5, p5, rfl, o1, o2⟩ := At_form hat
        obtain ⟨xs, hown8, hz8, hnx⟩ := made_more hlt hl1 GD.out HO.out GZ.out GR.out HB.out hbs hd hat hb rfl
        have HN := Lib.hid hnx
        have HO8 := Lib.hid hown8
        have hb7 : Below (w.heap.size + 1 + 1 + 1) wr w7 := ((Below.refl wr.heap.size wr).drew.trans hb).mono (by omega)
        have HB7 := Lib.hid hb7
        have hS7 := hb7.mono (show w.heap.size + 1 + 1 ≤ w.heap.size + 1 + 1 + 1 by omega)
        have hz7 := hb7.size
        refine hK.out _ _ hS7 (fun hHeld => ?_)
        clear hK K hat hb hown8 hnx hb7 hS7
        try simp only [List.getElem_toArray, List.getElem_cons_succ, List.getElem_cons_zero, Act.put, List.setIfInBounds_toArray, List.set_cons_zero, List.set_cons_succ]
        refine wpAnyH_ready (rs := [8]) (by kernel_rfl) (by simp) ?_
        refine (AllReadyH.cons rfl (fun K hK => ?_) AllReadyH.nil)
        go_simp
        refine hK.out _ _ (hHeld.alloc (by omega) _) (fun hHeld => ?_)
        clear hK K
        try simp only [List.getElem_toArray, List.getElem_cons_succ, List.getElem_cons_zero, Act.put, List.setIfInBounds_toArray, List.set_cons_zero, List.set_cons_succ]
        refine wpAnyH_ready (rs := [9]) (by kernel_rfl) (by simp) ?_
        refine (AllReadyH.cons rfl (fun K hK => ?_) AllReadyH.nil)
        rw [if_pos (by rfl)]
        refine wp_app (Operand.tmp 45) (Operand.tmp 52) rfl (w.heap.size + 1 + 1 + 1) v j xs rfl HO8.out w7.heap.size 1 rfl [.int .i64 k5, .string t5, mv5, lv5, .int .i64 p5] rfl (fun i u hu => ?_) (by simp; exact ⟨rfl, rfl, o1, o2, rfl⟩) (by omega) hz8 ?_
        · rw [Lib.cell_of_heap (alloc_at w7 (.cells #[.int .i64 k5, .string t5, mv5, lv5, .int .i64 p5] 40))]; simpa using hu
        intro v' w9 hown9 hg9 hv9
        obtain ⟨so, sn, sc, rfl⟩ := own_form hown9
        obtain ⟨hS9, g9, hS10, hM⟩ := HN.out _ w9 hown9 hg9 hv9
        have HM := Lib.hid hM
        have HS := Lib.hid hS10
        have cc : w9.cell? ⟨w.heap.size + 1 + 1, 3, none⟩ = some v := by rw [Lib.cell_of_heap g9]; rfl
        have cf := frozen_of_row w9 (w.heap.size + 1 + 1) 3 _ 40 g9
        refine hK.out _ _ hS9 (fun hHeld => ?_)
        clear hK K hown9 hg9 hv9 hS10 hM g9 HN HO8 hS9
        try simp only [List.getElem_toArray, List.getElem_cons_succ, List.getElem_cons_zero, Act.put, List.setIfInBounds_toArray, List.set_cons_zero, List.set_cons_succ]
        refine wpAnyH_take (i := 10) (v := Value.pointer (some ⟨w.heap.size + 1 + 1, 3, none⟩)) rfl (by kernel_rfl) (by kernel_rfl) (by kernel_rfl) (fun _ _ _ h => h) (Or.inl ⟨rfl, fun w' hw' => ?_⟩) hHeld ?_
        · go_simp
        simp only [List.getElem_toArray, List.getElem_cons_succ, List.getElem_cons_zero, Act.put, List.setIfInBounds_toArray, List.set_cons_zero, List.set_cons_succ]
        refine wpAnyH_ready (rs := [11]) (by kernel_rfl) (by simp) ?_
        refine (AllReadyH.cons rfl (fun K hK => ?_) AllReadyH.nil)
        go_simp
        refine hK.out _ _ HS.out (fun hHeld => ?_)
        clear hK K cc cf
        try simp only [List.getElem_toArray, List.getElem_cons_succ, List.getElem_cons_zero, Act.put, List.setIfInBounds_toArray, List.set_cons_zero, List.set_cons_succ]
        refine wpAnyH_done (by kernel_rfl) ?_ _
        refine NoPanic.normal ?_
        clear hHeld
        go_wp2_with fail
        go_roundw
        case rel => exact HM.out
        case measure => simp [intOf]; omega
      · skip
        go_simp
        refine HX.out.mono ?_
        rintro e w7 ⟨cs, rfl, hat, hb⟩
        obtain ⟨k5, t5, mv5, lv5, p5, rfl, o1, o2⟩ := At_form hat
        obtain ⟨xs, hown8, hz8, hnx⟩ := made_more hlt hl1 GD.out HO.out GZ.out GR.out HB.out hbs hd hat hb rfl
        have HN := Lib.hid hnx
        have HO8 := Lib.hid hown8
        have hb7 : Below (w.heap.size + 1 + 1 + 1) wr w7 := ((Below.refl wr.heap.size wr).drew.trans hb).mono (by omega)
        have HB7 := Lib.hid hb7
        have hS7 := hb7.mono (show w.heap.size + 1 + 1 ≤ w.heap.size + 1 + 1 + 1 by omega)
        have hz7 := hb7.size
        refine hK.out _ _ hS7 (fun hHeld => ?_)
        clear hK K hat hb hown8 hnx hb7 hS7
        try simp only [List.getElem_toArray, List.getElem_cons_succ, List.getElem_cons_zero, Act.put, List.setIfInBounds_toArray, List.set_cons_zero, List.set_cons_succ]
        refine wpAnyH_ready (rs := [1, 8]) (by kernel_rfl) (by simp) ?_
        refine (AllReadyH.cons rfl (fun K hK => ?_) (AllReadyH.cons rfl (fun K hK => ?_) AllReadyH.nil))
        · skip
          have c45 := (show w7.cell? ⟨w.heap.size + 1 + 1, 3, none⟩ = some v by rw [HB7.out.cell (p := ⟨w.heap.size + 1 + 1, 3, none⟩) (by show w.heap.size + 1 + 1 < _; omega), Lib.cell_of_heap GD.out]; rfl)
          go_simp
          refine hK.out _ _ hHeld (fun hHeld => ?_)
          clear hK K c45
          try simp only [List.getElem_toArray, List.getElem_cons_succ, List.getElem_cons_zero, Act.put, List.setIfInBounds_toArray, List.set_cons_zero, List.set_cons_succ]
          refine wpAnyH_ready (rs := [8]) (by kernel_rfl) (by simp) ?_
          refine (AllReadyH.cons rfl (fun K hK => ?_) AllReadyH.nil)
          go_simp
          refine hK.out _ _ (hHeld.alloc (by omega) _) (fun hHeld => ?_)
          clear hK K
          try simp only [List.getElem_toArray, List.getElem_cons_succ, List.getElem_cons_zero, Act.put, List.setIfInBounds_toArray, List.set_cons_zero, List.set_cons_succ]
          refine wpAnyH_ready (rs := [9]) (by kernel_rfl) (by simp) ?_
          refine (AllReadyH.cons rfl (fun K hK => ?_) AllReadyH.nil)
          rw [if_pos (by rfl)]
          refine wp_app (Operand.tmp 45) (Operand.tmp 52) rfl (w.heap.size + 1 + 1 + 1) v j xs rfl HO8.out w7.heap.size 1 rfl [.int .i64 k5, .string t5, mv5, lv5, .int .i64 p5] rfl (fun i u hu => ?_) (by simp; exact ⟨rfl, rfl, o1, o2, rfl⟩) (by omega) hz8 ?_
          · rw [Lib.cell_of_heap (alloc_at w7 (.cells #[.int .i64 k5, .string t5, mv5, lv5, .int .i64 p5] 40))]; simpa using hu
          intro v' w9 hown9 hg9 hv9
          obtain ⟨so, sn, sc, rfl⟩ := own_form hown9
          obtain ⟨hS9, g9, hS10, hM⟩ := HN.out _ w9 hown9 hg9 hv9
          have HM := Lib.hid hM
          have HS := Lib.hid hS10
          have cc : w9.cell? ⟨w.heap.size + 1 + 1, 3, none⟩ = some v := by rw [Lib.cell_of_heap g9]; rfl
          have cf := frozen_of_row w9 (w.heap.size + 1 + 1) 3 _ 40 g9
          refine hK.out _ _ hS9 (fun hHeld => ?_)
          clear hK K hown9 hg9 hv9 hS10 hM g9 HN HO8 hS9
          try simp only [List.getElem_toArray, List.getElem_cons_succ, List.getElem_cons_zero, Act.put, List.setIfInBounds_toArray, List.set_cons_zero, List.set_cons_succ]
          refine wpAnyH_take (i := 10) (v := Value.pointer (some ⟨w.heap.size + 1 + 1, 3, none⟩)) rfl (by kernel_rfl) (by kernel_rfl) (by kernel_rfl) (fun _ _ _ h => h) (Or.inl ⟨rfl, fun w' hw' => ?_⟩) hHeld ?_
          · go_simp
          simp only [List.getElem_toArray, List.getElem_cons_succ, List.getElem_cons_zero, Act.put, List.setIfInBounds_toArray, List.set_cons_zero, List.set_cons_succ]
          refine wpAnyH_ready (rs := [11]) (by kernel_rfl) (by simp) ?_
          refine (AllReadyH.cons rfl (fun K hK => ?_) AllReadyH.nil)
          go_simp
          refine hK.out _ _ HS.out (fun hHeld => ?_)
          clear hK K cc cf
          try simp only [List.getElem_toArray, List.getElem_cons_succ, List.getElem_cons_zero, Act.put, List.setIfInBounds_toArray, List.set_cons_zero, List.set_cons_succ]
          refine wpAnyH_done (by kernel_rfl) ?_ _
          refine NoPanic.normal ?_
          clear hHeld
          go_wp2_with fail
          go_roundw
          case rel => exact HM.out
          case measure => simp [intOf]; omega
        · skip
          go_simp
          refine hK.out _ _ (hHeld.alloc (by omega) _) (fun hHeld => ?_)
          clear hK K
          try simp only [List.getElem_toArray, List.getElem_cons_succ, List.getElem_cons_zero, Act.put, List.setIfInBounds_toArray, List.set_cons_zero, List.set_cons_succ]
          refine wpAnyH_ready (rs := [1]) (by kernel_rfl) (by simp) ?_
          refine (AllReadyH.cons rfl (fun K hK => ?_) AllReadyH.nil)
          have c45 := (show (w7.alloc (.cells #[.int .i64 k5, .string t5, mv5, lv5, .int .i64 p5] 40)).cell? ⟨w.heap.size + 1 + 1, 3, none⟩ = some v by rw [(HB7.out.alloc (by omega) _).cell (p := ⟨w.heap.size + 1 + 1, 3, none⟩) (by show w.heap.size + 1 + 1 < _; omega), Lib.cell_of_heap GD.out]; rfl)
          go_simp
          refine hK.out _ _ hHeld (fun hHeld => ?_)
          clear hK K c45
          try simp only [List.getElem_toArray, List.getElem_cons_succ, List.getElem_cons_zero, Act.put, List.setIfInBounds_toArray, List.set_cons_zero, List.set_cons_succ]
          refine wpAnyH_ready (rs := [9]) (by kernel_rfl) (by simp) ?_
          refine (AllReadyH.cons rfl (fun K hK => ?_) AllReadyH.nil)
          rw [if_pos (by rfl)]
          refine wp_app (Operand.tmp 45) (Operand.tmp 52) rfl (w.heap.size + 1 + 1 + 1) v j xs rfl HO8.out w7.heap.size 1 rfl [.int .i64 k5, .string t5, mv5, lv5, .int .i64 p5] rfl (fun i u hu => ?_) (by simp; exact ⟨rfl, rfl, o1, o2, rfl⟩) (by omega) hz8 ?_
          · rw [Lib.cell_of_heap (alloc_at w7 (.cells #[.int .i64 k5, .string t5, mv5, lv5, .int .i64 p5] 40))]; simpa using hu
          intro v' w9 hown9 hg9 hv9
          obtain ⟨so, sn, sc, rfl⟩ := own_form hown9
          obtain ⟨hS9, g9, hS10, hM⟩ := HN.out _ w9 hown9 hg9 hv9
          have HM := Lib.hid hM
          have HS := Lib.hid hS10
          have cc : w9.cell? ⟨w.heap.size + 1 + 1, 3, none⟩ = some v := by rw [Lib.cell_of_heap g9]; rfl
          have cf := frozen_of_row w9 (w.heap.size + 1 + 1) 3 _ 40 g9
          refine hK.out _ _ hS9 (fun hHeld => ?_)
          clear hK K hown9 hg9 hv9 hS10 hM g9 HN HO8 hS9
          try simp only [List.getElem_toArray, List.getElem_cons_succ, List.getElem_cons_zero, Act.put, List.setIfInBounds_toArray, List.set_cons_zero, List.set_cons_succ]
          refine wpAnyH_take (i := 10) (v := Value.pointer (some ⟨w.heap.size + 1 + 1, 3, none⟩)) rfl (by kernel_rfl) (by kernel_rfl) (by kernel_rfl) (fun _ _ _ h => h) (Or.inl ⟨rfl, fun w' hw' => ?_⟩) hHeld ?_
          · go_simp
          simp only [List.getElem_toArray, List.getElem_cons_succ, List.getElem_cons_zero, Act.put, List.setIfInBounds_toArray, List.set_cons_zero, List.set_cons_succ]
          refine wpAnyH_ready (rs := [11]) (by kernel_rfl) (by simp) ?_
          refine (AllReadyH.cons rfl (fun K hK => ?_) AllReadyH.nil)
          go_simp
          refine hK.out _ _ HS.out (fun hHeld => ?_)
          clear hK K cc cf
          try simp only [List.getElem_toArray, List.getElem_cons_succ, List.getElem_cons_zero, Act.put, List.setIfInBounds_toArray, List.set_cons_zero, List.set_cons_succ]
          refine wpAnyH_done (by kernel_rfl) ?_ _
          refine NoPanic.normal ?_
          clear hHeld
          go_wp2_with fail
          go_roundw
          case rel => exact HM.out
          case measure => simp [intOf]; omega
    · obtain rfl : j = l.length := by omega
      have HO' := HO.out
      rw [List.take_length] at HO'
      have HQ := Lib.hid HO'
      have q1 : decide ((l.length : Int) < (l.length : Int)) = false := decide_eq_false (by omega)
      clear HO HO' cr hlt
      have cr : wr.cell? ⟨w.heap.size, 2, none⟩ = some (.slice ao l.length ac) := by rw [Lib.cell_of_heap GR.out]; rfl
      go_wp2_with (first | (refine wpList_load_row rfl 40 _ rfl (w.heap.size + 1 + 1) rfl 40 #[.int .i64 4, .string ⟨#[]⟩, .slice none 0 0, v, .int .i64 0] (0, 0) _ GD.out Tryd.underlying40 rfl info40 ?_) | (refine wpList_store_row rfl 40 _ _ rfl (w.heap.size + 1) #[.int .i64 4, .string ⟨#[]⟩, .slice none 0 0, v, .int .i64 0] rfl rfl 40 Z5 GZ.out info40 rfl (by simp [Value.oneCell']; exact HQ.out.at.one) ?_))
      refine bodyPost_ret (results_cell_row rfl _ _ (w.heap.size + 1) 40 #[.int .i64 4, .string ⟨#[]⟩, .slice none 0 0, v, .int .i64 0] (0, 0) _ rfl (setRow_heap wr _ _ _ 40 _ GZ.out) Tryd.underlying40 rfl info40) rfl ?_
      exact ⟨_, rfl, list_new HQ.out GZ.out, below_setRow HB.out _ _ (by omega)⟩

theorem make_any (N : Nat) (hN : N ≤ 1000000) : ∀ (k n : Int) (pl : List Rw), 1 + Rw.cnts pl ≤ N → I64 k → I64 n → ∀ (po : Option Addr) (pc : Nat) (w : World), RsAt w po pl →
      Calls Tryd.prog 38 #[.agg #[.int .i64 k, .int .i64 n, .slice po pl.length pc]] w (RetMk (Rw.make (.mk k n pl)) w) := by
  induction N with
  | zero => intro k n pl h; omega
  | succ N ih =>
    intro k n pl h hk hn po pc w hR
    have h0 := Int.emod_nonneg k (show (7 : Int) ≠ 0 by decide)
    have h6 := Int.emod_lt_of_pos k (show (0 : Int) < 7 by decide)
    obtain ⟨q, h7⟩ : ∃ q, k % 7 = q := ⟨_, rfl⟩
    rw [h7] at h0 h6
    by_cases hq : q = 4 ∨ q = 5 ∨ q = 6
    · rw [makes_list k n pl q h7 hq]
      exact make_list N (by omega) (ih (by omega)) k n pl q hk h7 hq (by omega) po pc w hR
    · by_cases q0 : q = 0
      · subst q0; rw [Rw.make, if_pos h7]; exact make_int k n po pl pc w hk hn h7
      · by_cases q1 : q = 1
        · subst q1; rw [Rw.make, if_neg (by omega), if_pos h7]; exact make_bool k n po pl pc w hk hn h7
        · by_cases q2 : q = 2
          · subst q2; rw [Rw.make, if_neg (by omega), if_neg (by omega), if_pos (by omega)]; exact make_sym2 k n po pl pc w hk hn h7
          · have q3 : q = 3 := by omega
            subst q3; rw [Rw.make, if_neg (by omega), if_neg (by omega), if_pos (by omega)]; exact make_sym3 k n po pl pc w hk hn h7
end Go.Proofs.YtkjcbaikebdmmaaDoor
