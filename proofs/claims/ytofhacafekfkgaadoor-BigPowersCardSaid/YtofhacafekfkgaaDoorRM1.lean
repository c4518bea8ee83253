/- The document's product. -/
import Derived.Test.YtofhacafekfkgaaDoorRM0
import Derived.Test.YtofhacafekfkgaaDoorV0
import Derived.Deep.RegionHeld3
import Derived.Deep.Cut
import Derived.Deep.Draws
import Derived.Laws.Externs
namespace Go.Proofs.YtofhacafekfkgaaDoor
open Go.RowKit Go.BigM
set_option linter.unusedVariables false
set_option linter.unusedSimpArgs false
/-- Numbers as cells. -/
def IV (l : List Nat) : Array Value := (l.map fun (a : Nat) => Value.int .i64 (a : Int)).toArray
theorem IV_size (l : List Nat) : (IV l).size = l.length := by simp [IV]
theorem IV_get (l : List Nat) (j : Nat) (h : j < l.length) : (IV l)[j]? = some (.int .i64 ((l.getD j 0 : Nat) : Int)) := by
  unfold IV
  rw [List.getElem?_toArray, List.getElem?_map, List.getElem?_eq_getElem h, List.getD_eq_getElem?_getD, List.getElem?_eq_getElem h]; rfl
theorem IV_set (l : List Nat) (j v : Nat) : (IV l).setIfInBounds j (.int .i64 (v : Int)) = IV (l.set j v) := by
  unfold IV
  rw [List.setIfInBounds_toArray, ← List.map_set]
theorem made_IV (n : Nat) : madeCells (Value.int .i64 0).cells n = IV (List.replicate n 0) := by
  apply Array.ext
  · rw [size_madeCells, IV_size, List.length_replicate]
  · intro i h1 h2
    simp [madeCells, IV, Value.cells, Nat.mod_one]
theorem run_make_ints (n : Nat) (hn : n ≤ 1000) (w : World) :
    (Instr.makeSlice 22 (.int .i64 n) (.int .i64 n)).run Tryd.prog w = .ok (.slice (some ⟨w.heap.size, 0, none⟩) n n) (w.alloc (.cells (IV (List.replicate n 0)) 3)) := by
  obtain ⟨i, hi, hz, h1, h2⟩ := info_of infoI3
  have := run_make (P := Tryd.prog) w 22 3 i (.int .i64 0) Tryd.underlying22 hi hz .i64 .i64 n n (by omega) (Int.le_refl _) (by rw [h2]; omega) (by omega)
  rw [h1, Nat.mul_one, made_IV, Int.toNat_natCast] at this
  exact this
/-- A row of numbers in a block. -/
def NRw (w : World) (g : Nat) (l : List Nat) : Prop := w.heap[g]? = some (.cells (IV l) 3 (0, 0))
theorem NRw.cell {w : World} {g : Nat} {l : List Nat} (h : NRw w g l) (j : Nat) (hj : j < l.length) : w.cell? ⟨g, j, none⟩ = some (.int .i64 ((l.getD j 0 : Nat) : Int)) := by
  rw [cell_of_row w g j _ _ _ h]; exact IV_get l j hj
theorem NRw.put {w : World} {g : Nat} {l : List Nat} (h : NRw w g l) (j v : Nat) : NRw (w.setCell ⟨g, j, none⟩ (.int .i64 (v : Int))) g (l.set j v) := by
  have := heap_setCell_same w g j _ 3 (.int .i64 (v : Int)) h
  rw [IV_set] at this
  exact this
theorem NRw.isL {w : World} {g : Nat} {l : List Nat} (h : NRw w g l) (hl : l.length ≤ 1000) : IsL w (.slice (some ⟨g, 0, none⟩) l.length l.length) l := by
  refine ⟨_, _, rfl, Nat.le_refl _, by unfold maxLen; omega, .inr ⟨g, rfl, fun i hi => ?_⟩⟩
  rw [h.cell i hi, List.getD_eq_getElem?_getD, List.getElem?_eq_getElem hi]; rfl
def MoInv (x y : List Nat) (w : World) (g : Nat) (iv : Value) (wr : World) : Prop :=
  ∃ (i : Nat) (out : List Nat), i ≤ x.length ∧ iv = .int .i64 (i : Int) ∧ MOut x y out i ∧ NRw wr g out ∧ Below w.heap.size w wr
def MiInv (x y : List Nat) (w : World) (g i : Nat) (cv kv : Value) (wr : World) : Prop :=
  ∃ (k c : Nat) (out : List Nat), kv = .int .i64 (k : Int) ∧ cv = .int .i64 (c : Int) ∧ MIn x y out i k c ∧ NRw wr g out ∧ Below w.heap.size w wr
theorem MiInv.drew {x y : List Nat} {w : World} {g i : Nat} {cv kv : Value} {wr : World} (h : MiInv x y w g i cv kv wr) : MiInv x y w g i cv kv wr.drew := by
  obtain ⟨k, c, out, h1, h2, h3, h4, h5⟩ := h
  exact ⟨k, c, out, h1, h2, h3, h4, h5.drew⟩
theorem IsL.ptr {w : World} {v : Value} {L : List Nat} (h : IsL w v L) : ∃ ao cap, v = .slice ao L.length cap ∧ ∀ (j : Nat), j < L.length → ∃ g, ao = some ⟨g, 0, none⟩ ∧ w.cell? ⟨g, j, none⟩ = some (.int .i64 ((L.getD j 0 : Nat) : Int)) := by
  obtain ⟨ao, cap, rfl, h1, h2, h3⟩ := h
  refine ⟨ao, cap, rfl, fun j hj => ?_⟩
  rcases h3 with rfl | ⟨g, rfl, h⟩
  · simp at hj
  · exact ⟨g, rfl, by rw [h j hj, List.getD_eq_getElem?_getD, List.getElem?_eq_getElem hj]; rfl⟩
set_option maxHeartbeats 8000000 in
set_option maxRecDepth 100000 in
theorem refmul_any (s t : ByteArray) (hs : Canon s.data.toList) (ht : Canon t.data.toList) (w : World) :
    Calls Tryd.prog 23 #[.string s, .string t] w (RetXt (low s.data.toList != low t.data.toList) (dval (strip s.data.toList) * dval (strip t.data.toList)) w) := by
  have F1 := Lib.hid (rdigits_any s hs w)
  have F2 := Lib.hid (fun w => rdigits_any t ht w)
  obtain ⟨x, hx⟩ : ∃ x, x = dgs s.data.toList := ⟨_, rfl⟩
  obtain ⟨y, hy⟩ : ∃ y, y = dgs t.data.toList := ⟨_, rfl⟩
  have tx : Tens x := by rw [hx]; exact (tens_rdg hs.2.2.1).take _
  have ty : Tens y := by rw [hy]; exact (tens_rdg ht.2.2.1).take _
  have vx : nval x = dval (strip s.data.toList) := by rw [hx, nval_dgs]
  have vy : nval y = dval (strip t.data.toList) := by rw [hy, nval_dgs]
  have lx : x.length ≤ 200 := by rw [hx]; exact Nat.le_trans (dgs_len _) hs.2.1
  have ly : y.length ≤ 200 := by rw [hy]; exact Nat.le_trans (dgs_len _) ht.2.1
  rw [← vx, ← vy]
  obtain ⟨b1, hb1⟩ : ∃ b, low s.data.toList = b := ⟨_, rfl⟩
  obtain ⟨b2, hb2⟩ : ∃ b, low t.data.toList = b := ⟨_, rfl⟩
  rw [hb1, hb2]
  unfold RetDg at F1 F2
  rw [hb1, ← hx] at F1
  rw [hb2, ← hy] at F2
  have TX := Lib.hid tx
  have TY := Lib.hid ty
  clear vx vy hx hy hb1 hb2 hs ht tx ty
  go_enter Tryd.func23, Tryd.ntmps23
  go_wp2_with fail
  refine F1.out.mono ?_
  rintro e w1 ⟨u1, rfl, hu1, hbw1⟩
  obtain ⟨ax, cx, rfl, -⟩ := hu1.ptr
  have HB1 := Lib.hid hbw1
  have HX1 := Lib.hid hu1
  clear hbw1 hu1 F1
  go_wp2_with fail
  refine (F2.out _).mono ?_
  rintro e w2 ⟨u2, rfl, hu2, hbw2⟩
  obtain ⟨ay, cy, rfl, -⟩ := hu2.ptr
  have HB2 := Lib.hid (HB1.out.trans (hbw2.mono HB1.out.size))
  have HX2 := Lib.hid (HX1.out.below hbw2)
  have HY2 := Lib.hid hu2
  clear hbw2 hu2 F2 HX1 HB1
  obtain ⟨p, hp⟩ : ∃ p, p = x.length := ⟨_, rfl⟩
  obtain ⟨q, hq⟩ : ∃ q, q = y.length := ⟨_, rfl⟩
  obtain ⟨N, hN⟩ : ∃ N, N = p + q + 1 := ⟨_, rfl⟩
  rw [← hp] at lx HX2
  rw [← hq] at ly HY2
  simp only [← hp, ← hq]
  have hmk := run_make_ints N (by omega) w2
  have hNi : ((p : Int) + (q : Int) + 1) = (N : Int) := by omega
  have HP := Lib.hid hp
  have HQ := Lib.hid hq
  have HN := Lib.hid hN
  have h0 : MoInv x y w2 w2.heap.size (.int .i64 0) (w2.alloc (.cells (IV (List.replicate N 0)) 3)) :=
    ⟨0, _, Nat.zero_le _, rfl, by rw [hN, hp, hq]; exact MOut.start x y, heap_alloc_new w2 (.cells (IV (List.replicate N 0)) 3), (Below.refl _ _).alloc (Nat.le_refl _) _⟩
  have H0 := Lib.hid h0
  clear hp hq hN h0
  go_wp2_with fail
  clear hmk hNi
  obtain ⟨g0, hg0⟩ : ∃ g0, w2.heap.size = g0 := ⟨_, rfl⟩
  rw [hg0] at H0
  simp only [hg0]
  generalize w2.alloc (.cells (IV (List.replicate N 0)) 3) = W0 at H0 ⊢
  go_loopw [11] (fun iv wr => MoInv x y w2 g0 iv wr) (fun iv _ => p - (intOf iv).toNat)
  case atStart => exact H0.out
  case round =>
    clear H0
    obtain ⟨i, out, hi, rfl, hmo, hrow, hbel⟩ := hrel
    rw [← HP.out] at hi
    have HB := Lib.hid hbel
    have HMO := Lib.hid hmo
    have HRW := Lib.hid hrow
    clear hmo hrow hbel
    by_cases hip : i < p
    · have q1 : decide ((i : Int) < (p : Int)) = true := decide_eq_true (by omega)
      have hix : i < x.length := by rw [← HP.out]; exact hip
      have H1 : Hid (MiInv x y w2 g0 i (.int .i64 0) (.int .i64 0) wr) := ⟨0, 0, out, rfl, rfl, HMO.out.inner, HRW.out, HB.out⟩
      obtain ⟨ax', cx', ex, hxp⟩ := HX2.out.ptr
      injection ex with ex1 ex2 ex3
      clear ex2
      obtain ⟨gx, hax, hxi⟩ := hxp i hix
      subst ex1 ex3
      subst hax
      have hgx : gx < w2.heap.size := World.block_lt_of_cell? w2 _ hxi
      obtain ⟨xi, hxid⟩ : ∃ xi, x.getD i 0 = xi := ⟨_, rfl⟩
      have hxi9 : xi ≤ 9 := by rw [← hxid]; exact TX.out.getD i
      rw [hxid] at hxi
      have HXI0 := Lib.hid hxi
      have HXD := Lib.hid hxid
      clear HMO HRW hxp hxi hxid
      go_wp2_with fail
      go_loopw [12, 13] (fun cv kv wr => MiInv x y w2 g0 i cv kv wr) (fun _ kv _ => q + 2 - (intOf kv).toNat)
      case atStart => exact H1.out
      case round =>
        clear H1 HB
        obtain ⟨k, c, out2, rfl, rfl, hmi, hrow, hbel⟩ := hrel
        have HMI0 := Lib.hid hmi
        have HRW := Lib.hid hrow
        have HB := Lib.hid hbel
        have hlen := hmi.len
        have hkle := hmi.kle
        have hc9 := hmi.carry
        rw [← HP.out, ← HQ.out, ← HN.out] at hlen
        rw [← HQ.out] at hkle
        by_cases hgo : k < q ∨ 0 < c
        · obtain ⟨n, hn⟩ : ∃ n, n = out2.getD (i + k) 0 + c + (if k < y.length then x.getD i 0 * y.getD k 0 else 0) := ⟨_, rfl⟩
          obtain ⟨hst, hn99, hik⟩ := hmi.step hix (by rw [← HQ.out]; exact hgo) hn TX.out TY.out
          obtain ⟨ik, hikd⟩ : ∃ ik, ik = i + k := ⟨_, rfl⟩
          rw [← hikd] at hst hn hik
          have hcell := hrow.cell ik hik
          have hfz := frozen_of_row wr g0 ik _ 3 hrow
          obtain ⟨o1, ho1⟩ : ∃ o1, out2.getD ik 0 = o1 := ⟨_, rfl⟩
          rw [ho1] at hn hcell
          have hiki : (i : Int) + (k : Int) = (ik : Int) := by omega
          have hikN : ik < N := by rw [← hlen]; exact hik
          have ho9 : o1 ≤ 99 := by omega
          have hbW : Below w2.heap.size w2 (wr.setCell ⟨g0, ik, none⟩ (.int .i64 ((n % 10 : Nat) : Int))) := hbel.setCell (p := ⟨g0, ik, none⟩) (by show w2.heap.size ≤ g0; omega) _
          have hrow2 := hrow.put ik (n % 10)
          have HREL : Hid (MiInv x y w2 g0 i (.int .i64 ((n / 10 : Nat) : Int)) (.int .i64 ((k : Int) + 1)) (wr.setCell ⟨g0, ik, none⟩ (.int .i64 ((n % 10 : Nat) : Int)))) :=
            ⟨k + 1, n / 10, _, by go_num, rfl, hst, hrow2, hbW⟩
          have HMS : Hid (k ≤ q) := by
            show k ≤ q
            rcases Nat.lt_or_ge q k with h | h
            · have h2 := hmi.last (by rw [← HQ.out]; omega)
              omega
            · exact h
          obtain ⟨n0, hn0⟩ : ∃ n0, n0 = o1 + c := ⟨_, rfl⟩
          have hn0i : (o1 : Int) + (c : Int) = (n0 : Int) := by omega
          obtain ⟨r10, hr10⟩ : ∃ r10, n % 10 = r10 := ⟨_, rfl⟩
          obtain ⟨d10, hd10⟩ : ∃ d10, n / 10 = d10 := ⟨_, rfl⟩
          rw [hr10, hd10] at HREL
          have hd1 : (n : Int) % 10 = (r10 : Int) := by omega
          have hd2 : (n : Int) / 10 = (d10 : Int) := by omega
          clear hr10 hd10
          clear hst hrow2 hbW hmi hrow hbel ho1 hikd
          by_cases hkq : k < q
          · have hky : k < y.length := by rw [← HQ.out]; exact hkq
            have q2 : decide ((k : Int) < (q : Int)) = true := decide_eq_true (by omega)
            obtain ⟨ay', cy', ey, hyp⟩ := HY2.out.ptr
            injection ey with ey1 ey2 ey3
            clear ey2
            obtain ⟨gy, hay, hyk⟩ := hyp k hky
            subst ey1 ey3
            subst hay
            have hgy : gy < w2.heap.size := World.block_lt_of_cell? w2 _ hyk
            obtain ⟨yk, hykd⟩ : ∃ yk, y.getD k 0 = yk := ⟨_, rfl⟩
            have hyk9 : yk ≤ 9 := by rw [← hykd]; exact TY.out.getD k
            rw [hykd] at hyk hn
            rw [if_pos hky, HXD.out] at hn
            obtain ⟨m, hm⟩ : ∃ m, m = xi * yk := ⟨_, rfl⟩
            have hm81 : m ≤ 81 := by rw [hm]; exact Nat.le_trans (Nat.mul_le_mul hxi9 hyk9) (by decide)
            have HMI : Hid ((xi : Int) * (yk : Int) = (m : Int)) := by show _ = _; rw [hm]; exact (Int.natCast_mul xi yk).symm
            have hmi2 := HMI.out
            rw [← hm] at hn
            have HNI : Hid ((n0 : Int) + (m : Int) = (n : Int)) := by show _ = _; omega
            have HXIw := Lib.hid ((HB.out.cell (p := ⟨gx, i, none⟩) hgx).trans HXI0.out)
            have HYKw := Lib.hid ((HB.out.cell (p := ⟨gy, k, none⟩) hgy).trans hyk)
            have hsz := HB.out.size
            clear hyp hyk hykd hm hn hn0 hmi2
            go_upto_region 13 with fail
            refine wp_region_noPanic ?_
            refine wp_region_held_drew (S := Below wr.heap.size wr) (by kernel_rfl) ((Below.refl _ _).drew) (fun hHeld => ?_)
            refine wpAnyH_take (i := 0) (v := Value.int .i64 (n0 : Int)) rfl (by kernel_rfl) (by kernel_rfl) (by kernel_rfl) (fun _ _ _ h => h) (Or.inl ⟨rfl, fun w' hw' => ?_⟩) hHeld ?_
            · go_simp
            simp only [List.getElem_toArray, List.getElem_cons_succ, List.getElem_cons_zero, Act.put, List.setIfInBounds_toArray, List.set_cons_zero, List.set_cons_succ]
            refine wpAnyH_take (i := 1) (v := Value.slice (some ⟨gx, 0, none⟩) p cx) rfl (by kernel_rfl) (by kernel_rfl) (by kernel_rfl) (fun _ _ _ h => h) (Or.inl ⟨rfl, fun w' hw' => ?_⟩) hHeld ?_
            · go_simp
            simp only [List.getElem_toArray, List.getElem_cons_succ, List.getElem_cons_zero, Act.put, List.setIfInBounds_toArray, List.set_cons_zero, List.set_cons_succ]
            refine wpAnyH_take (i := 2) (v := Value.int .i64 i) rfl (by kernel_rfl) (by kernel_rfl) (by kernel_rfl) (fun _ _ _ h => h) (Or.inl ⟨rfl, fun w' hw' => ?_⟩) hHeld ?_
            · go_simp
            simp only [List.getElem_toArray, List.getElem_cons_succ, List.getElem_cons_zero, Act.put, List.setIfInBounds_toArray, List.set_cons_zero, List.set_cons_succ]
            refine wpAnyH_take (i := 3) (v := Value.pointer (some ⟨gx, i, none⟩)) rfl (by kernel_rfl) (by kernel_rfl) (by kernel_rfl) (fun _ _ _ h => h) (Or.inl ⟨rfl, fun w' hw' => ?_⟩) hHeld ?_
            · go_simp
            simp only [List.getElem_toArray, List.getElem_cons_succ, List.getElem_cons_zero, Act.put, List.setIfInBounds_toArray, List.set_cons_zero, List.set_cons_succ]
            refine wpAnyH_take (i := 4) (v := Value.int .i64 (xi : Int)) rfl (by kernel_rfl) (by kernel_rfl) (by kernel_rfl) (fun _ _ _ h => h) (Or.inl ⟨rfl, fun w' hw' => ?_⟩) hHeld ?_
            · have q9 := (hw'.cell (p := ⟨gx, i, none⟩) (by show gx < wr.heap.size; omega)).trans HXIw.out; go_simp
            simp only [List.getElem_toArray, List.getElem_cons_succ, List.getElem_cons_zero, Act.put, List.setIfInBounds_toArray, List.set_cons_zero, List.set_cons_succ]
            refine wpAnyH_take (i := 5) (v := Value.slice (some ⟨gy, 0, none⟩) q cy) rfl (by kernel_rfl) (by kernel_rfl) (by kernel_rfl) (fun _ _ _ h => h) (Or.inl ⟨rfl, fun w' hw' => ?_⟩) hHeld ?_
            · go_simp
            simp only [List.getElem_toArray, List.getElem_cons_succ, List.getElem_cons_zero, Act.put, List.setIfInBounds_toArray, List.set_cons_zero, List.set_cons_succ]
            refine wpAnyH_take (i := 6) (v := Value.int .i64 k) rfl (by kernel_rfl) (by kernel_rfl) (by kernel_rfl) (fun _ _ _ h => h) (Or.inl ⟨rfl, fun w' hw' => ?_⟩) hHeld ?_
            · go_simp
            simp only [List.getElem_toArray, List.getElem_cons_succ, List.getElem_cons_zero, Act.put, List.setIfInBounds_toArray, List.set_cons_zero, List.set_cons_succ]
            refine wpAnyH_take (i := 7) (v := Value.pointer (some ⟨gy, k, none⟩)) rfl (by kernel_rfl) (by kernel_rfl) (by kernel_rfl) (fun _ _ _ h => h) (Or.inl ⟨rfl, fun w' hw' => ?_⟩) hHeld ?_
            · go_simp
            simp only [List.getElem_toArray, List.getElem_cons_succ, List.getElem_cons_zero, Act.put, List.setIfInBounds_toArray, List.set_cons_zero, List.set_cons_succ]
            refine wpAnyH_take (i := 8) (v := Value.int .i64 (yk : Int)) rfl (by kernel_rfl) (by kernel_rfl) (by kernel_rfl) (fun _ _ _ h => h) (Or.inl ⟨rfl, fun w' hw' => ?_⟩) hHeld ?_
            · have q9 := (hw'.cell (p := ⟨gy, k, none⟩) (by show gy < wr.heap.size; omega)).trans HYKw.out; go_simp
            simp only [List.getElem_toArray, List.getElem_cons_succ, List.getElem_cons_zero, Act.put, List.setIfInBounds_toArray, List.set_cons_zero, List.set_cons_succ]
            refine wpAnyH_take (i := 9) (v := Value.int .i64 (m : Int)) rfl (by kernel_rfl) (by kernel_rfl) (by kernel_rfl) (fun _ _ _ h => h) (Or.inl ⟨rfl, fun w' hw' => ?_⟩) hHeld ?_
            · go_simp; rw [HMI.out]; exact IntWalk.i64_in _ ⟨by omega, by omega⟩
            simp only [List.getElem_toArray, List.getElem_cons_succ, List.getElem_cons_zero, Act.put, List.setIfInBounds_toArray, List.set_cons_zero, List.set_cons_succ]
            refine wpAnyH_take (i := 10) (v := Value.int .i64 (n : Int)) rfl (by kernel_rfl) (by kernel_rfl) (by kernel_rfl) (fun _ _ _ h => h) (Or.inl ⟨rfl, fun w' hw' => ?_⟩) hHeld ?_
            · go_simp; rw [HNI.out]; exact IntWalk.i64_in _ ⟨by omega, by omega⟩
            simp only [List.getElem_toArray, List.getElem_cons_succ, List.getElem_cons_zero, Act.put, List.setIfInBounds_toArray, List.set_cons_zero, List.set_cons_succ]
            refine wpAnyH_take (i := 11) (v := Value.int .i64 (n : Int)) rfl (by kernel_rfl) (by kernel_rfl) (by kernel_rfl) (fun _ _ _ h => h) (Or.inl ⟨rfl, fun w' hw' => ?_⟩) hHeld ?_
            · go_simp
            simp only [List.getElem_toArray, List.getElem_cons_succ, List.getElem_cons_zero, Act.put, List.setIfInBounds_toArray, List.set_cons_zero, List.set_cons_succ]
            refine wpAnyH_done (by kernel_rfl) ?_ _
            refine NoPanic.normal ?_
            clear hHeld
            go_wp2_with fail
            refine ⟨HREL.out.drew, ?_⟩
            have := HMS.out
            simp [intOf]; omega
          · have q2 : decide ((k : Int) < (q : Int)) = false := decide_eq_false (by omega)
            have q3 : decide ((0 : Int) < (c : Int)) = true := decide_eq_true (by omega)
            have hky : ¬ k < y.length := by rw [← HQ.out]; exact hkq
            rw [if_neg hky] at hn
            have hnn : n = n0 := by omega
            subst hnn
            clear hn hn0
            go_wp2_with fail
            refine ⟨HREL.out, ?_⟩
            have := HMS.out
            simp [intOf]; omega
        · have q2 : decide ((k : Int) < (q : Int)) = false := decide_eq_false (by omega)
          have q3 : decide ((0 : Int) < (c : Int)) = false := decide_eq_false (by omega)
          have HREL : Hid (MoInv x y w2 g0 (.int .i64 ((i : Int) + 1)) wr) := ⟨i + 1, out2, by omega, by go_num, hmi.done (by rw [← HQ.out]; omega) (by omega) hix, hrow, hbel⟩
          clear hmi hrow hbel hlen
          go_wp2_with fail
          go_roundw
          case rel => exact HREL.out
          case measure => simp [intOf]; omega
    · have q1 : decide ((i : Int) < (p : Int)) = false := decide_eq_false (by omega)
      have hol : out.length = N := by rw [HMO.out.len, ← HP.out, ← HQ.out, ← HN.out]
      have hNle : out.length ≤ 1000 := by have h1 := HN.out; omega
      have hil := HRW.out.isL hNle
      rw [hol] at hil
      have FX := Lib.hid (rtext_any out HMO.out.tens _ (b1 != b2) wr hil (by omega))
      clear hNle
      have hv : nval out = nval x * nval y := by rw [HMO.out.val, List.take_of_length_le (by rw [← HP.out]; omega)]
      rw [hv] at FX
      clear HMO HRW hil hol hv
      go_wp2_with fail
      refine FX.out.mono ?_
      rintro e w9 ⟨rfl, hb⟩
      have HBB := Lib.hid (HB2.out.trans ((HB.out.trans (hb.mono HB.out.size)).mono HB2.out.size))
      clear hb
      go_wp2_with fail
      go_ret2
      exact ⟨rfl, HBB.out⟩
end Go.Proofs.YtofhacafekfkgaaDoor
