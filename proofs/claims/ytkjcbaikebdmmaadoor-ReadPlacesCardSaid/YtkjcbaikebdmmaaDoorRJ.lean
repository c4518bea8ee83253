/- The walk of ReadJoins. -/
import Derived.Test.YtkjcbaikebdmmaaDoorRB
namespace Go.Proofs.YtkjcbaikebdmmaaDoor
open Go.RowKit Go.BigM
set_option linter.unusedVariables false
set_option linter.unusedSimpArgs false
/-- Where the text of the one at a place begins. -/
def offs : List Dt → Nat → Nat
  | [], _ => 0
  | _ :: _, 0 => 0
  | d :: l, j + 1 => d.txt.length + 1 + offs l j
theorem plcs_get : ∀ (l : List Dt) (p j : Nat) (h : j < l.length) (h2 : j < (Dt.plcs p l).length), (Dt.plcs p l)[j] = l[j].plc (p + offs l j)
  | [], p, j, h, _ => by simp at h
  | d :: l, p, 0, h, _ => rfl
  | d :: l, p, j + 1, h, h2 => by
    have := plcs_get l (p + d.txt.length + 1) j (by simpa using h) (by rw [plcs_length]; simpa using h)
    simp only [Dt.plcs, List.getElem_cons_succ, offs]
    rw [this]
    congr 1
    omega
theorem offs_le : ∀ (l : List Dt) (j : Nat), offs l j ≤ (Dt.txte l).length
  | [], _ => Nat.le_refl _
  | _ :: _, 0 => Nat.zero_le _
  | d :: l, j + 1 => by have := offs_le l j; simp only [offs, Dt.txte, List.length_append, List.length_cons]; omega
theorem plc_place (d : Dt) (p : Nat) : (d.plc p).place = p := by cases d; rfl
theorem At_place {S : Nat → Prop} {w : World} {d : Dt} {k : Int} {t : ByteArray} {mv lv : Value} {p : Int} (h : Dt.At S w d #[.int .i64 k, .string t, mv, lv, .int .i64 p]) : p = d.place := by
  obtain ⟨k', t', ms, l, p'⟩ := d
  rw [At_mk] at h
  obtain ⟨_, _, e, _, _⟩ := h
  simp at e
  exact e.2.2.2.2
theorem rd_join (l m : List Rw) (hl : Rw.dps l ≤ 21) (hm : Rw.dps m ≤ 21) (n : Nat) (hn : n = (Dt.txte (Rw.makes l)).length) : ∃ k, rd (Dt.txte (Rw.makes l) ++ (10 :: Dt.txte (Rw.makes m))) k .next 0 ⟨0, false, []⟩ [] = some (.ok (Dt.plcs 0 (Rw.makes l) ++ Dt.plcs (n + 1) (Rw.makes m))) := by
  have h1 := wrs_plce (Rw.makes l) 0 (makes_rdb l)
  have h2 := wrs_plce (Rw.makes m) (n + 1) (makes_rdb m)
  have h3 := Wrs.append (m := Dt.plcs (n + 1) (Rw.makes m)) (b := 10 :: Dt.txte (Rw.makes m)) h1 (Wrs.gap (g := [10]) (Gap.blank (by simp)) (by simpa [← hn] using h2)) (NoSign.cons (by decide))
  refine rd_wrs h3 ?_
  have hd : ∀ (a b : List Dt), Dt.deps (a ++ b) = max (Dt.deps a) (Dt.deps b) := by
    intro a b
    induction a with
    | nil => simp [Dt.deps]
    | cons d a ih => simp only [List.cons_append, Dt.deps, ih]; omega
  rw [hd, plcs_dep, plcs_dep]
  have := makes_dep l
  have := makes_dep m
  omega
theorem lat_left {S : Nat → Prop} {w : World} {ao : Option Addr} {n cap : Nat} {a b : List Dt} (h : LAt S w (.slice ao n cap) (a ++ b)) (j : Nat) (hj : j < a.length) :
    ∃ g o k t mv lv p, ao = some ⟨g, o, none⟩ ∧ Dt.At S w a[j] #[.int .i64 k, .string t, mv, lv, .int .i64 p] ∧
      w.cell? ⟨g, o + j * 5, none⟩ = some (.int .i64 k) ∧ w.cell? ⟨g, o + j * 5 + 1, none⟩ = some (.string t) ∧ w.cell? ⟨g, o + j * 5 + 2, none⟩ = some mv ∧
      w.cell? ⟨g, o + j * 5 + 3, none⟩ = some lv ∧ w.cell? ⟨g, o + j * 5 + 4, none⟩ = some (.int .i64 p) := by
  obtain ⟨g, o, k, t, mv, lv, p, e, _, _, h1, h2, h3, h4, h5, h6, _⟩ := h.get j (by simp; omega)
  rw [List.getElem_append_left hj] at h1
  exact ⟨g, o, k, t, mv, lv, p, e, h1, h2, h3, h4, h5, h6⟩
theorem lat_right {S : Nat → Prop} {w : World} {ao : Option Addr} {n cap : Nat} {a b : List Dt} (h : LAt S w (.slice ao n cap) (a ++ b)) (i j : Nat) (hi : i = a.length + j) (hj : j < b.length) :
    ∃ g o k t mv lv p, ao = some ⟨g, o, none⟩ ∧ Dt.At S w b[j] #[.int .i64 k, .string t, mv, lv, .int .i64 p] ∧
      w.cell? ⟨g, o + i * 5, none⟩ = some (.int .i64 k) ∧ w.cell? ⟨g, o + i * 5 + 1, none⟩ = some (.string t) ∧ w.cell? ⟨g, o + i * 5 + 2, none⟩ = some mv ∧
      w.cell? ⟨g, o + i * 5 + 3, none⟩ = some lv ∧ w.cell? ⟨g, o + i * 5 + 4, none⟩ = some (.int .i64 p) := by
  subst hi
  obtain ⟨g, o, k, t, mv, lv, p, e, _, _, h1, h2, h3, h4, h5, h6, _⟩ := h.get (a.length + j) (by simp; omega)
  rw [List.getElem_append_right (by omega)] at h1
  simp only [Nat.add_sub_cancel_left] at h1
  exact ⟨g, o, k, t, mv, lv, p, e, h1, h2, h3, h4, h5, h6⟩
set_option maxHeartbeats 8000000 in
set_option maxRecDepth 100000 in
theorem joins_walk (l : List Rw) (ao : Option Addr) (ac : Nat) (m : List Rw) (bo : Option Addr) (bc : Nat) (w : World) (hR : RsAt w ao l) (hR2 : RsAt w bo m) : Calls Tryd.prog 10 #[.slice ao l.length ac, .slice bo m.length bc] w (RetBool true w) := by
  have BB := Lib.hid (Below.refl w.heap.size w)
  have HR := Lib.hid hR
  have HR2 := Lib.hid hR2
  clear hR hR2
  go_enter Tryd.func10, Tryd.ntmps10
  go_wp2_with (go_at_call 13; refine (known_any _).mono ?_; rintro e w1 ⟨rfl, hb⟩; replace BB := Lib.hid (BB.out.trans (hb.mono BB.out.size)); clear hb)
  refine (few_any l ao ac _ (HR.out.below BB.out)).mono ?_
  rintro e w2 ⟨r, rfl, hr, rfl⟩
  cases r with
  | false =>
    go_wp2_with fail
    go_ret
    exact ⟨rfl, BB.out⟩
  | true =>
    obtain ⟨hc, hdp⟩ := hr rfl
    clear hr
    go_wp2_with fail
    refine (few_any m bo bc _ (HR2.out.below BB.out)).mono ?_
    rintro e w2 ⟨r, rfl, hr2, rfl⟩
    cases r with
    | false =>
      go_wp2_with fail
      go_ret
      exact ⟨rfl, BB.out⟩
    | true =>
      obtain ⟨hc2, hdp2⟩ := hr2 rfl
      have FA := Lib.hid (all_any l (by omega) ao ac w1 (HR.out.below BB.out))
      have hrb := rd_back l hdp
      have hrb2 := rd_back m hdp2
      have hrj := rd_join l m hdp hdp2 _ rfl
      go_wp2_with fail
      refine FA.out.mono ?_
      rintro e w4 ⟨v4, rfl, hown, hb4⟩
      have hat := hown.at
      obtain ⟨o4, c4, rfl⟩ := hat.form
      have hsz := makes_size l
      have htx := makes_txte l
      replace BB := Lib.hid (BB.out.trans (hb4.mono BB.out.size))
      have FT := Lib.hid (text_any (Rw.makes l) (by omega) (by omega) _ o4 c4 w4 hat)
      clear hat hown hb4 FA
      go_wp2_with fail
      refine FT.out.mono ?_
      rintro e w5 ⟨rfl, hb5⟩
      replace BB := Lib.hid (BB.out.trans (hb5.mono BB.out.size))
      clear hb5 FT
      have FA := Lib.hid (all_any m (by omega) bo bc w5 (HR2.out.below BB.out))
      go_wp2_with fail
      refine FA.out.mono ?_
      rintro e w6 ⟨v6, rfl, hown, hb4⟩
      have hat := hown.at
      obtain ⟨o6, c6, rfl⟩ := hat.form
      have hsz2 := makes_size m
      have htx2 := makes_txte m
      replace BB := Lib.hid (BB.out.trans (hb4.mono BB.out.size))
      have FT := Lib.hid (text_any (Rw.makes m) (by omega) (by omega) _ o6 c6 w6 hat)
      clear hat hown hb4 FA
      go_wp2_with fail
      refine FT.out.mono ?_
      rintro e w7 ⟨rfl, hb5⟩
      replace BB := Lib.hid (BB.out.trans (hb5.mono BB.out.size))
      clear hb5 FT
      obtain ⟨ds, hds⟩ : ∃ ds, ds = Rw.makes l := ⟨_, rfl⟩
      obtain ⟨es, hes⟩ : ∃ es, es = Rw.makes m := ⟨_, rfl⟩
      rw [← hds] at hrb hrj hsz htx
      rw [← hes] at hrb2 hrj hsz2 htx2
      simp only [← hds, ← hes]
      obtain ⟨X, hX⟩ : ∃ X : ByteArray, X = ⟨(Dt.txte ds).toArray⟩ := ⟨_, rfl⟩
      obtain ⟨Y, hY⟩ : ∃ Y : ByteArray, Y = ⟨(Dt.txte es).toArray⟩ := ⟨_, rfl⟩
      rw [← hX, ← hY]
      have hXl : X.data.toList = Dt.txte ds := by rw [hX]
      have hYl : Y.data.toList = Dt.txte es := by rw [hY]
      have hXs : X.size = (Dt.txte ds).length := by rw [Lib.size_eq, hXl]
      have hYs : Y.size = (Dt.txte es).length := by rw [Lib.size_eq, hYl]
      rw [← hXs] at hrj
      have hX2 : X.size ≤ 2460 := by omega
      have hY2 : Y.size ≤ 2460 := by omega
      obtain ⟨n1, hn1⟩ := hrb
      obtain ⟨n2, hn2⟩ := hrb2
      obtain ⟨n3, hn3⟩ := hrj
      have FR1 := Lib.hid (fun w => read_any X w (by omega) n1 _ (by rw [hXl]; exact hn1))
      have FR2 := Lib.hid (fun w => read_any Y w (by omega) n2 _ (by rw [hYl]; exact hn2))
      obtain ⟨Z, hZ⟩ : ∃ Z : ByteArray, X ++ ⟨#[10]⟩ ++ Y = Z := ⟨_, rfl⟩
      have hZl : Z.data.toList = Dt.txte ds ++ (10 :: Dt.txte es) := by rw [← hZ]; simp [ByteArray.data_append, hXl, hYl]
      have hZs : Z.size ≤ 8000 := by rw [Lib.size_eq, hZl]; simp; omega
      have FR3 := Lib.hid (fun w => read_any Z w hZs n3 _ (by rw [hZl]; exact hn3))
      have hss : Dt.sizes ds ≤ 60 := by omega
      have hss2 : Dt.sizes es ≤ 60 := by omega
      have hlen := length_sizes ds
      have hlen2 := length_sizes es
      have HTX := Lib.hid htx2
      have htx3 : (Dt.txte es).length ≤ 2460 := by omega
      have HTX3 := Lib.hid htx3
      clear hn1 hn2 hn3 hX hY hXl hYl hZl hds hes hsz hsz2 htx htx2 htx3 hXs hYs hZs hdp hdp2 hr2 hc hc2
      go_wp2_with fail
      refine (FR1.out _).mono ?_
      rintro e w8 ⟨hb8, v8, rfl, hv8⟩
      replace BB := Lib.hid (BB.out.trans (hb8.mono BB.out.size))
      obtain ⟨o8, c8, rfl⟩ := hv8.form
      have p1 := plcs_length ds 0
      simp only [p1]
      rw [p1] at hv8
      have HA8 := Lib.hid hv8
      clear hb8 hv8 FR1
      go_wp2_with fail
      refine (FR2.out _).mono ?_
      rintro e w9 ⟨hb9, v9, rfl, hv9⟩
      replace BB := Lib.hid (BB.out.trans (hb9.mono BB.out.size))
      obtain ⟨o9, c9, rfl⟩ := hv9.form
      have p2 := plcs_length es 0
      simp only [p2]
      rw [p2] at hv9
      have HA9 := Lib.hid (HA8.out.keeps (Keeps.of_below hb9))
      have HB9 := Lib.hid hv9
      clear hb9 hv9 FR2 HA8
      go_wp2_with fail
      refine (FR3.out _).mono ?_
      rintro e wA ⟨hbA, vA, rfl, hvA⟩
      replace BB := Lib.hid (BB.out.trans (hbA.mono BB.out.size))
      obtain ⟨oA, cA, rfl⟩ := hvA.form
      have p3 : (Dt.plcs 0 ds ++ Dt.plcs (X.size + 1) es).length = ds.length + es.length := by rw [List.length_append, plcs_length, plcs_length]
      simp only [p3]
      rw [p3] at hvA
      have HAA := Lib.hid (HA9.out.keeps (Keeps.of_below hbA))
      have HBA := Lib.hid (HB9.out.keeps (Keeps.of_below hbA))
      have HCA := Lib.hid hvA
      clear hbA hvA FR3 HA9 HB9 p1 p2 p3 hZ
      have hi3 : ((ds.length + es.length : Nat) : Int) = (ds.length : Int) + (es.length : Int) := by omega
      obtain ⟨nd, hnd⟩ : ∃ nd, nd = ds.length := ⟨_, rfl⟩
      obtain ⟨ne, hne⟩ : ∃ ne, ne = es.length := ⟨_, rfl⟩
      rw [← hnd, ← hne] at hi3 HCA
      rw [← hnd] at HAA hlen
      rw [← hne] at HBA hlen2
      simp only [← hnd, ← hne]
      obtain ⟨N, hN⟩ : ∃ N, N = nd + ne := ⟨_, rfl⟩
      rw [← hN] at HCA hi3
      simp only [← hN]
      have HN0 := Lib.hid hN
      have HND := Lib.hid hnd
      have HNE := Lib.hid hne
      have hi4 : ((N : Int) != (nd : Int) + (ne : Int)) = false := by rw [hi3]; simp
      have hNb : N ≤ 120 := by omega
      clear hnd hne hN
      go_wp2_with fail
      clear hi3 hi4
      go_loopw [16] (fun iv wr => PlInv nd wA iv wr) (fun iv _ => nd - (intOf iv).toNat)
      case atStart => exact ⟨0, Nat.zero_le _, rfl, Below.refl _ _⟩
      case round =>
        obtain ⟨j, hj, rfl, hbw⟩ := hrel
        have HB := Lib.hid hbw
        have hsr := hbw.size
        clear hbw
        by_cases hlt : j < nd
        · have q1 : decide ((j : Int) < (nd : Int)) = true := decide_eq_true (by omega)
          have hlp : j < (Dt.plcs 0 ds).length := by rw [plcs_length, ← HND.out]; exact hlt
          obtain ⟨g, o, k5, t5, mv5, lv5, p5, rfl, hS, -, hat, e0, e1, e2, e3, e4, -, -⟩ := (HAA.out.keeps (Keeps.of_below HB.out)).get j hlp
          obtain ⟨g2, o2, k6, t6, mv6, lv6, p6, rfl, hat2, f0, f1, f2, f3, f4⟩ := lat_left (HCA.out.keeps (Keeps.of_below HB.out)) j hlp
          have hg : g < wr.heap.size := World.block_lt_of_cell? wr _ e0
          have hg2 : g2 < wr.heap.size := World.block_lt_of_cell? wr _ f0
          have hsj := size_get ds j (by rw [← HND.out]; exact hlt)
          have hsj2 : ((Dt.plcs 0 ds)[j]).size ≤ 60 := by
            have h1 := same_size _ _ (Dt.sim.same _ _ (Dt.sims.get (Dt.sims.plcs ds 0) j (by rw [← HND.out]; exact hlt) hlp))
            omega
          have HX' := places_refl 1000000 (by decide) (Dt.plcs 0 ds)[j] (by omega) _ _ _ _ wr.drew (Dt.At.keeps (Keeps.of_below (Below.refl _ _).drew) _ _ hat) (Dt.At.keeps (Keeps.of_below (Below.refl _ _).drew) _ _ hat2)
          have HX := Lib.hid HX'
          have E0 := Lib.hid e0
          have E1 := Lib.hid e1
          have E2 := Lib.hid e2
          have E3 := Lib.hid e3
          have E4 := Lib.hid e4
          have F0 := Lib.hid f0
          have F1 := Lib.hid f1
          have F2 := Lib.hid f2
          have F3 := Lib.hid f3
          have F4 := Lib.hid f4
          clear HX' hat hat2 hS e0 e1 e2 e3 e4 f0 f1 f2 f3 f4 hsj hsj2
          have hnn : j < N := by have := HN0.out; omega
          go_upto_region 14 with fail
          clear q1
          refine wp_region_noPanic ?_
          refine wp_region_held_drew (S := Below wr.heap.size wr) (by kernel_rfl) ((Below.refl _ _).drew) (fun hHeld => ?_)
          refine wpAnyH_take (i := 0) (v := Value.slice (some ⟨g, o, none⟩) nd c8) rfl (by kernel_rfl) (by kernel_rfl) (by kernel_rfl) (fun _ _ _ h => h) (Or.inl ⟨rfl, fun w' hw' => ?_⟩) hHeld ?_
          · go_simp
          simp only [List.getElem_toArray, List.getElem_cons_succ, List.getElem_cons_zero, Act.put, List.setIfInBounds_toArray, List.set_cons_zero, List.set_cons_succ]
          refine wpAnyH_take (i := 1) (v := Value.int .i64 j) rfl (by kernel_rfl) (by kernel_rfl) (by kernel_rfl) (fun _ _ _ h => h) (Or.inl ⟨rfl, fun w' hw' => ?_⟩) hHeld ?_
          · go_simp
          simp only [List.getElem_toArray, List.getElem_cons_succ, List.getElem_cons_zero, Act.put, List.setIfInBounds_toArray, List.set_cons_zero, List.set_cons_succ]
          refine wpAnyH_take (i := 2) (v := Value.pointer (some ⟨g, o + j * 5, none⟩)) rfl (by kernel_rfl) (by kernel_rfl) (by kernel_rfl) (fun _ _ _ h => h) (Or.inl ⟨rfl, fun w' hw' => ?_⟩) hHeld ?_
          · go_simp
          simp only [List.getElem_toArray, List.getElem_cons_succ, List.getElem_cons_zero, Act.put, List.setIfInBounds_toArray, List.set_cons_zero, List.set_cons_succ]
          refine wpAnyH_take (i := 3) (v := Value.agg #[.int .i64 k5, .string t5, mv5, lv5, .int .i64 p5]) rfl (by kernel_rfl) (by kernel_rfl) (by kernel_rfl) (fun _ _ _ h => h) (Or.inl ⟨rfl, fun w' hw' => ?_⟩) hHeld ?_
          · have qE0 := (hw'.cell (p := ⟨g, o + j * 5, none⟩) (by show g < wr.heap.size; omega)).trans E0.out; have qE1 := (hw'.cell (p := ⟨g, o + j * 5 + 1, none⟩) (by show g < wr.heap.size; omega)).trans E1.out; have qE2 := (hw'.cell (p := ⟨g, o + j * 5 + 2, none⟩) (by show g < wr.heap.size; omega)).trans E2.out; have qE3 := (hw'.cell (p := ⟨g, o + j * 5 + 3, none⟩) (by show g < wr.heap.size; omega)).trans E3.out; have qE4 := (hw'.cell (p := ⟨g, o + j * 5 + 4, none⟩) (by show g < wr.heap.size; omega)).trans E4.out; go_simp
          simp only [List.getElem_toArray, List.getElem_cons_succ, List.getElem_cons_zero, Act.put, List.setIfInBounds_toArray, List.set_cons_zero, List.set_cons_succ]
          refine wpAnyH_take (i := 4) (v := Value.slice (some ⟨g2, o2, none⟩) N cA) rfl (by kernel_rfl) (by kernel_rfl) (by kernel_rfl) (fun _ _ _ h => h) (Or.inl ⟨rfl, fun w' hw' => ?_⟩) hHeld ?_
          · go_simp
          simp only [List.getElem_toArray, List.getElem_cons_succ, List.getElem_cons_zero, Act.put, List.setIfInBounds_toArray, List.set_cons_zero, List.set_cons_succ]
          refine wpAnyH_take (i := 5) (v := Value.int .i64 j) rfl (by kernel_rfl) (by kernel_rfl) (by kernel_rfl) (fun _ _ _ h => h) (Or.inl ⟨rfl, fun w' hw' => ?_⟩) hHeld ?_
          · go_simp
          simp only [List.getElem_toArray, List.getElem_cons_succ, List.getElem_cons_zero, Act.put, List.setIfInBounds_toArray, List.set_cons_zero, List.set_cons_succ]
          refine wpAnyH_take (i := 6) (v := Value.pointer (some ⟨g2, o2 + j * 5, none⟩)) rfl (by kernel_rfl) (by kernel_rfl) (by kernel_rfl) (fun _ _ _ h => h) (Or.inl ⟨rfl, fun w' hw' => ?_⟩) hHeld ?_
          · go_simp
          simp only [List.getElem_toArray, List.getElem_cons_succ, List.getElem_cons_zero, Act.put, List.setIfInBounds_toArray, List.set_cons_zero, List.set_cons_succ]
          refine wpAnyH_take (i := 7) (v := Value.agg #[.int .i64 k6, .string t6, mv6, lv6, .int .i64 p6]) rfl (by kernel_rfl) (by kernel_rfl) (by kernel_rfl) (fun _ _ _ h => h) (Or.inl ⟨rfl, fun w' hw' => ?_⟩) hHeld ?_
          · have qF0 := (hw'.cell (p := ⟨g2, o2 + j * 5, none⟩) (by show g2 < wr.heap.size; omega)).trans F0.out; have qF1 := (hw'.cell (p := ⟨g2, o2 + j * 5 + 1, none⟩) (by show g2 < wr.heap.size; omega)).trans F1.out; have qF2 := (hw'.cell (p := ⟨g2, o2 + j * 5 + 2, none⟩) (by show g2 < wr.heap.size; omega)).trans F2.out; have qF3 := (hw'.cell (p := ⟨g2, o2 + j * 5 + 3, none⟩) (by show g2 < wr.heap.size; omega)).trans F3.out; have qF4 := (hw'.cell (p := ⟨g2, o2 + j * 5 + 4, none⟩) (by show g2 < wr.heap.size; omega)).trans F4.out; go_simp
          simp only [List.getElem_toArray, List.getElem_cons_succ, List.getElem_cons_zero, Act.put, List.setIfInBounds_toArray, List.set_cons_zero, List.set_cons_succ]
          refine wpAnyH_ready (rs := [8]) (by kernel_rfl) (by simp) ?_
          refine (AllReadyH.cons rfl (fun K hK => ?_) AllReadyH.nil)
          go_simp
          refine HX.out.mono ?_
          rintro e w7 ⟨rfl, hb⟩
          have hS7 : Below wr.heap.size wr w7 := (Below.refl wr.heap.size wr).drew.trans hb
          have HS7 := Lib.hid hS7
          refine hK.out _ _ hS7 (fun hHeld => ?_)
          clear hK K hb hS7
          try simp only [List.getElem_toArray, List.getElem_cons_succ, List.getElem_cons_zero, Act.put, List.setIfInBounds_toArray, List.set_cons_zero, List.set_cons_succ]
          refine wpAnyH_take (i := 9) (v := Value.bool false) rfl (by kernel_rfl) (by kernel_rfl) (by kernel_rfl) (fun _ _ _ h => h) (Or.inl ⟨rfl, fun w' hw' => ?_⟩) hHeld ?_
          · go_simp
          simp only [List.getElem_toArray, List.getElem_cons_succ, List.getElem_cons_zero, Act.put, List.setIfInBounds_toArray, List.set_cons_zero, List.set_cons_succ]
          refine wpAnyH_done (by kernel_rfl) ?_ _
          refine NoPanic.normal ?_
          clear hHeld
          have HN := Lib.hid (HB.out.trans (HS7.out.mono HB.out.size))
          go_wp2_with fail
          go_roundw
          case rel => exact ⟨j + 1, by omega, by go_num, HN.out⟩
          case measure => simp [intOf]; omega
        · obtain rfl : j = nd := by omega
          have q1 : decide ((j : Int) < (j : Int)) = false := decide_eq_false (by omega)
          replace BB := Lib.hid (BB.out.trans (HB.out.mono BB.out.size))
          have HBB := Lib.hid (HBA.out.keeps (Keeps.of_below HB.out))
          have HCB := Lib.hid (HCA.out.keeps (Keeps.of_below HB.out))
          clear HB hsr HAA HBA HCA hlt
          go_wp2_with fail
          have HW0 := Lib.hid (Below.refl wr.heap.size wr)
          generalize hw00 : wr = w00 at BB HBB HCB HW0
          go_loopw [17] (fun iv wr => PlInv ne w00 iv wr) (fun iv _ => ne - (intOf iv).toNat)
          case atStart => exact ⟨0, Nat.zero_le _, rfl, Below.refl _ _⟩
          case round =>
            clear hw00 HW0
            obtain ⟨i, hi, rfl, hbw⟩ := hrel
            have HB := Lib.hid hbw
            have hsr := hbw.size
            clear hbw
            by_cases hlt : i < ne
            · have q2 : decide ((i : Int) < (ne : Int)) = true := decide_eq_true (by omega)
              have hie : i < es.length := by rw [← HNE.out]; exact hlt
              have hlp : i < (Dt.plcs 0 es).length := by rw [plcs_length]; exact hie
              have hlq : i < (Dt.plcs (X.size + 1) es).length := by rw [plcs_length]; exact hie
              obtain ⟨q, hq⟩ : ∃ q, q = j + i := ⟨_, rfl⟩
              obtain ⟨g, o, k5, t5, mv5, lv5, p5, rfl, hS, -, hat, e0, e1, e2, e3, e4, o5, o7⟩ := (HBB.out.keeps (Keeps.of_below HB.out)).get i hlp
              obtain ⟨g2, o2, k6, t6, mv6, lv6, p6, rfl, hat2, f0, f1, f2, f3, f4⟩ := lat_right (HCB.out.keeps (Keeps.of_below HB.out)) q i (by rw [plcs_length, ← HND.out]; exact hq) hlq
              obtain ⟨o8', o9'⟩ := At_one hat2
              have hg : g < wr.heap.size := World.block_lt_of_cell? wr _ e0
              have hg2 : g2 < wr.heap.size := World.block_lt_of_cell? wr _ f0
              have hp5 := At_place hat
              have hp6 := At_place hat2
              rw [plcs_get es 0 i hie hlp, plc_place, Nat.zero_add] at hp5
              rw [plcs_get es (X.size + 1) i hie hlq, plc_place] at hp6
              have hof := offs_le es i
              have hTX := HTX3.out
              obtain ⟨z, hz⟩ : ∃ z, z = offs es i := ⟨_, rfl⟩
              rw [← hz] at hp5 hp6 hof
              have hz2 : z ≤ 2460 := by omega
              subst hp5
              have hp7 : p6 = (z : Int) + (X.size : Int) + 1 := by rw [hp6]; omega
              subst hp7
              have hsj := size_get es i hie
              have hsa : ((Dt.plcs 0 es)[i]).same (Dt.plcs (X.size + 1) es)[i] = true := Dt.sim.same _ _ (Dt.sim.trans _ _ _ (Dt.sim.symm _ _ (Dt.sims.get (Dt.sims.plcs es 0) i hie hlp)) (Dt.sims.get (Dt.sims.plcs es (X.size + 1)) i hie hlq))
              have hsz1 := same_size _ _ (Dt.sim.same _ _ (Dt.sims.get (Dt.sims.plcs es 0) i hie hlp))
              have z1 : (#[.int .i64 k6, .string t6, mv6, lv6, .int .i64 ((z : Int) + (X.size : Int) + 1)] : Array Value).all (·.oneCell') = true := by simp [Value.oneCell'] at o8' o9' ⊢; exact ⟨o8', o9'⟩
              have z2 : (#[.int .i64 0, .string ⟨#[]⟩, .slice none 0 0, .slice none 0 0, .int .i64 0] : Array Value).size = (#[.int .i64 k6, .string t6, mv6, lv6, .int .i64 ((z : Int) + (X.size : Int) + 1)] : Array Value).size := rfl
              have z5 : (wr.alloc (.cells #[.int .i64 0, .string ⟨#[]⟩, .slice none 0 0, .slice none 0 0, .int .i64 0] 40)).heap[wr.heap.size]? = some (.cells #[.int .i64 0, .string ⟨#[]⟩, .slice none 0 0, .slice none 0 0, .int .i64 0] 40 (0, 0)) := alloc_at _ _
              have hji : ((j : Int) + (i : Int)) = (q : Int) := by omega
              have hqN : q < N := by have := HN0.out; omega
              have hbW : Below wr.heap.size wr (wr.alloc (.cells #[.int .i64 k6, .string t6, mv6, lv6, .int .i64 ((z : Int) + (X.size : Int) + 1)] 40)) := (Below.refl _ _).alloc (Nat.le_refl _) _
              have hsW : (wr.alloc (.cells #[.int .i64 k6, .string t6, mv6, lv6, .int .i64 ((z : Int) + (X.size : Int) + 1)] 40)).heap.size = wr.heap.size + 1 := by simp
              have hwW := alloc_at wr (.cells #[.int .i64 k6, .string t6, mv6, lv6, .int .i64 ((z : Int) + (X.size : Int) + 1)] 40)
              have HAT := Lib.hid (Dt.At.keeps (Keeps.of_below hbW) _ _ hat)
              have HAT2 := Lib.hid (Dt.At.keeps (Keeps.of_below hbW) _ _ hat2)
              have E0 := Lib.hid ((hbW.cell (p := ⟨g, o + i * 5, none⟩) hg).trans e0)
              have E1 := Lib.hid ((hbW.cell (p := ⟨g, o + i * 5 + 1, none⟩) hg).trans e1)
              have E2 := Lib.hid ((hbW.cell (p := ⟨g, o + i * 5 + 2, none⟩) hg).trans e2)
              have E3 := Lib.hid ((hbW.cell (p := ⟨g, o + i * 5 + 3, none⟩) hg).trans e3)
              have E4 := Lib.hid ((hbW.cell (p := ⟨g, o + i * 5 + 4, none⟩) hg).trans e4)
              have HBW := Lib.hid hbW
              have HSW := Lib.hid hsW
              have HWW := Lib.hid hwW
              have HSA := Lib.hid hsa
              clear hat hat2 hS e0 e1 e2 e3 e4 hq hz hof hTX hsa hbW hwW hp6 hsW
              go_upto_region 20 with (refine wpList_store_row rfl 40 _ _ rfl wr.heap.size #[.int .i64 k6, .string t6, mv6, lv6, .int .i64 ((z : Int) + (X.size : Int) + 1)] rfl rfl 40 #[.int .i64 0, .string ⟨#[]⟩, .slice none 0 0, .slice none 0 0, .int .i64 0] z5 info40 z2 z1 ?_)
              rw [setRow_new]
              have HX' := refsame_any 1000000 (by decide) (Dt.plcs 0 es)[i] (Dt.plcs (X.size + 1) es)[i] (by omega) _ _ _ _ (wr.alloc (.cells #[.int .i64 k6, .string t6, mv6, lv6, .int .i64 ((z : Int) + (X.size : Int) + 1)] 40)).drew (Dt.At.keeps (Keeps.of_below (Below.refl _ _).drew) _ _ HAT.out) (Dt.At.keeps (Keeps.of_below (Below.refl _ _).drew) _ _ HAT2.out)
              rw [HSA.out] at HX'
              have hsW := HSW.out
              have hb0 := HWW.out
              have hg3 : g < wr.heap.size := hg
              obtain ⟨b0, hb00⟩ : ∃ b0, wr.heap.size = b0 := ⟨_, rfl⟩
              rw [hb00] at hb0 hsW hg3
              simp only [hb00]
              clear z1 z2 z5 HAT HAT2 HSA hsz1 hsj o8' o9' f0 f1 f2 f3 f4
              have hbW := HBW.out
              generalize hWW : wr.alloc (.cells #[.int .i64 k6, .string t6, mv6, lv6, .int .i64 ((z : Int) + (X.size : Int) + 1)] 40) = W at E0 E1 E2 E3 E4 HBW HSW HWW HX' hsW hb0 hbW ⊢
              clear hWW
              have HX := Lib.hid HX'
              have HB0 := Lib.hid hb0
              have HN := Lib.hid (HB.out.trans (hbW.mono HB.out.size))
              clear HX' hb0 hbW HBW HSW HWW
              refine wp_region_noPanic ?_
              refine wp_region_held_drew (S := Below W.heap.size W) (by kernel_rfl) ((Below.refl _ _).drew) (fun hHeld => ?_)
              refine wpAnyH_take (i := 0) (v := Value.slice (some ⟨g, o, none⟩) ne c9) rfl (by kernel_rfl) (by kernel_rfl) (by kernel_rfl) (fun _ _ _ h => h) (Or.inl ⟨rfl, fun w' hw' => ?_⟩) hHeld ?_
              · go_simp
              simp only [List.getElem_toArray, List.getElem_cons_succ, List.getElem_cons_zero, Act.put, List.setIfInBounds_toArray, List.set_cons_zero, List.set_cons_succ]
              refine wpAnyH_take (i := 1) (v := Value.int .i64 i) rfl (by kernel_rfl) (by kernel_rfl) (by kernel_rfl) (fun _ _ _ h => h) (Or.inl ⟨rfl, fun w' hw' => ?_⟩) hHeld ?_
              · go_simp
              simp only [List.getElem_toArray, List.getElem_cons_succ, List.getElem_cons_zero, Act.put, List.setIfInBounds_toArray, List.set_cons_zero, List.set_cons_succ]
              refine wpAnyH_take (i := 2) (v := Value.pointer (some ⟨g, o + i * 5, none⟩)) rfl (by kernel_rfl) (by kernel_rfl) (by kernel_rfl) (fun _ _ _ h => h) (Or.inl ⟨rfl, fun w' hw' => ?_⟩) hHeld ?_
              · go_simp
              simp only [List.getElem_toArray, List.getElem_cons_succ, List.getElem_cons_zero, Act.put, List.setIfInBounds_toArray, List.set_cons_zero, List.set_cons_succ]
              refine wpAnyH_take (i := 3) (v := Value.agg #[.int .i64 k5, .string t5, mv5, lv5, .int .i64 (z : Int)]) rfl (by kernel_rfl) (by kernel_rfl) (by kernel_rfl) (fun _ _ _ h => h) (Or.inl ⟨rfl, fun w' hw' => ?_⟩) hHeld ?_
              · have qE0 := (hw'.cell (p := ⟨g, o + i * 5, none⟩) (by show g < W.heap.size; omega)).trans E0.out; have qE1 := (hw'.cell (p := ⟨g, o + i * 5 + 1, none⟩) (by show g < W.heap.size; omega)).trans E1.out; have qE2 := (hw'.cell (p := ⟨g, o + i * 5 + 2, none⟩) (by show g < W.heap.size; omega)).trans E2.out; have qE3 := (hw'.cell (p := ⟨g, o + i * 5 + 3, none⟩) (by show g < W.heap.size; omega)).trans E3.out; have qE4 := (hw'.cell (p := ⟨g, o + i * 5 + 4, none⟩) (by show g < W.heap.size; omega)).trans E4.out; go_simp
              simp only [List.getElem_toArray, List.getElem_cons_succ, List.getElem_cons_zero, Act.put, List.setIfInBounds_toArray, List.set_cons_zero, List.set_cons_succ]
              refine wpAnyH_take (i := 4) rfl (by kernel_rfl) (by kernel_rfl) (by kernel_rfl) (fun _ _ _ h => h) (yieldsIf_load_mid (by rfl) _ _ rfl b0 0 rfl [.int .i64 k6, .string t6, mv6, lv6, .int .i64 ((z : Int) + (X.size : Int) + 1)] _ (fun w' hw' => box_range (show Boxed b0 _ w' from rowB hw' HB0.out)) Tryd.underlying40 rfl info40) hHeld ?_
              simp only [List.getElem_toArray, List.getElem_cons_succ, List.getElem_cons_zero, Act.put, List.setIfInBounds_toArray, List.set_cons_zero, List.set_cons_succ]
              refine wpAnyH_ready (rs := [5]) (by kernel_rfl) (by simp) ?_
              refine (AllReadyH.cons rfl (fun K hK => ?_) AllReadyH.nil)
              go_simp
              refine HX.out.mono ?_
              rintro e w7 ⟨rfl, hb⟩
              have hS7 : Below W.heap.size W w7 := (Below.refl W.heap.size W).drew.trans hb
              have HS7 := Lib.hid hS7
              refine hK.out _ _ hS7 (fun hHeld => ?_)
              clear hK K hb hS7
              try simp only [List.getElem_toArray, List.getElem_cons_succ, List.getElem_cons_zero, Act.put, List.setIfInBounds_toArray, List.set_cons_zero, List.set_cons_succ]
              refine wpAnyH_take (i := 6) (v := Value.bool false) rfl (by kernel_rfl) (by kernel_rfl) (by kernel_rfl) (fun _ _ _ h => h) (Or.inl ⟨rfl, fun w' hw' => ?_⟩) hHeld ?_
              · go_simp
              simp only [List.getElem_toArray, List.getElem_cons_succ, List.getElem_cons_zero, Act.put, List.setIfInBounds_toArray, List.set_cons_zero, List.set_cons_succ]
              refine wpAnyH_take (i := 7) (v := Value.bool false) rfl (by kernel_rfl) (by kernel_rfl) (by kernel_rfl) (fun _ _ _ h => h) (Or.inl ⟨rfl, fun w' hw' => ?_⟩) hHeld ?_
              · go_simp
              simp only [List.getElem_toArray, List.getElem_cons_succ, List.getElem_cons_zero, Act.put, List.setIfInBounds_toArray, List.set_cons_zero, List.set_cons_succ]
              refine wpAnyH_take (i := 8) (v := Value.pointer (some ⟨b0, 4, none⟩)) rfl (by kernel_rfl) (by kernel_rfl) (by kernel_rfl) (fun _ _ _ h => h) (Or.inl ⟨rfl, fun w' hw' => ?_⟩) hHeld ?_
              · go_simp
              simp only [List.getElem_toArray, List.getElem_cons_succ, List.getElem_cons_zero, Act.put, List.setIfInBounds_toArray, List.set_cons_zero, List.set_cons_succ]
              refine wpAnyH_take (i := 9) (v := Value.int .i64 ((z : Int) + (X.size : Int) + 1)) rfl (by kernel_rfl) (by kernel_rfl) (by kernel_rfl) (fun _ _ _ h => h) (Or.inl ⟨rfl, fun w' hw' => ?_⟩) hHeld ?_
              · have q9 : w'.cell? ⟨b0, 4, none⟩ = some (.int .i64 ((z : Int) + (X.size : Int) + 1)) := by (rw [Lib.cell_of_heap (rowB hw' HB0.out)]; rfl)
                go_simp
              simp only [List.getElem_toArray, List.getElem_cons_succ, List.getElem_cons_zero, Act.put, List.setIfInBounds_toArray, List.set_cons_zero, List.set_cons_succ]
              refine wpAnyH_take (i := 10) (v := Value.slice (some ⟨g, o, none⟩) ne c9) rfl (by kernel_rfl) (by kernel_rfl) (by kernel_rfl) (fun _ _ _ h => h) (Or.inl ⟨rfl, fun w' hw' => ?_⟩) hHeld ?_
              · go_simp
              simp only [List.getElem_toArray, List.getElem_cons_succ, List.getElem_cons_zero, Act.put, List.setIfInBounds_toArray, List.set_cons_zero, List.set_cons_succ]
              refine wpAnyH_take (i := 11) (v := Value.int .i64 i) rfl (by kernel_rfl) (by kernel_rfl) (by kernel_rfl) (fun _ _ _ h => h) (Or.inl ⟨rfl, fun w' hw' => ?_⟩) hHeld ?_
              · go_simp
              simp only [List.getElem_toArray, List.getElem_cons_succ, List.getElem_cons_zero, Act.put, List.setIfInBounds_toArray, List.set_cons_zero, List.set_cons_succ]
              refine wpAnyH_take (i := 12) (v := Value.pointer (some ⟨g, o + i * 5, none⟩)) rfl (by kernel_rfl) (by kernel_rfl) (by kernel_rfl) (fun _ _ _ h => h) (Or.inl ⟨rfl, fun w' hw' => ?_⟩) hHeld ?_
              · go_simp
              simp only [List.getElem_toArray, List.getElem_cons_succ, List.getElem_cons_zero, Act.put, List.setIfInBounds_toArray, List.set_cons_zero, List.set_cons_succ]
              refine wpAnyH_take (i := 13) (v := Value.pointer (some ⟨g, o + i * 5 + 4, none⟩)) rfl (by kernel_rfl) (by kernel_rfl) (by kernel_rfl) (fun _ _ _ h => h) (Or.inl ⟨rfl, fun w' hw' => ?_⟩) hHeld ?_
              · go_simp
              simp only [List.getElem_toArray, List.getElem_cons_succ, List.getElem_cons_zero, Act.put, List.setIfInBounds_toArray, List.set_cons_zero, List.set_cons_succ]
              refine wpAnyH_take (i := 14) (v := Value.int .i64 (z : Int)) rfl (by kernel_rfl) (by kernel_rfl) (by kernel_rfl) (fun _ _ _ h => h) (Or.inl ⟨rfl, fun w' hw' => ?_⟩) hHeld ?_
              · have q9 := (hw'.cell (p := ⟨g, o + i * 5 + 4, none⟩) (by show g < W.heap.size; omega)).trans E4.out; go_simp
              simp only [List.getElem_toArray, List.getElem_cons_succ, List.getElem_cons_zero, Act.put, List.setIfInBounds_toArray, List.set_cons_zero, List.set_cons_succ]
              refine wpAnyH_take (i := 15) (v := Value.string X) rfl (by kernel_rfl) (by kernel_rfl) (by kernel_rfl) (fun _ _ _ h => h) (Or.inl ⟨rfl, fun w' hw' => ?_⟩) hHeld ?_
              · go_simp
              simp only [List.getElem_toArray, List.getElem_cons_succ, List.getElem_cons_zero, Act.put, List.setIfInBounds_toArray, List.set_cons_zero, List.set_cons_succ]
              refine wpAnyH_take (i := 16) (v := Value.int .i64 (X.size : Int)) rfl (by kernel_rfl) (by kernel_rfl) (by kernel_rfl) (fun _ _ _ h => h) (Or.inl ⟨rfl, fun w' hw' => ?_⟩) hHeld ?_
              · go_simp
              simp only [List.getElem_toArray, List.getElem_cons_succ, List.getElem_cons_zero, Act.put, List.setIfInBounds_toArray, List.set_cons_zero, List.set_cons_succ]
              refine wpAnyH_take (i := 17) (v := Value.int .i64 ((z : Int) + (X.size : Int))) rfl (by kernel_rfl) (by kernel_rfl) (by kernel_rfl) (fun _ _ _ h => h) (Or.inl ⟨rfl, fun w' hw' => ?_⟩) hHeld ?_
              · go_simp; exact IntWalk.i64_in _ ⟨by omega, by omega⟩
              simp only [List.getElem_toArray, List.getElem_cons_succ, List.getElem_cons_zero, Act.put, List.setIfInBounds_toArray, List.set_cons_zero, List.set_cons_succ]
              refine wpAnyH_take (i := 18) (v := Value.int .i64 ((z : Int) + (X.size : Int) + 1)) rfl (by kernel_rfl) (by kernel_rfl) (by kernel_rfl) (fun _ _ _ h => h) (Or.inl ⟨rfl, fun w' hw' => ?_⟩) hHeld ?_
              · go_simp; exact IntWalk.i64_in _ ⟨by omega, by omega⟩
              simp only [List.getElem_toArray, List.getElem_cons_succ, List.getElem_cons_zero, Act.put, List.setIfInBounds_toArray, List.set_cons_zero, List.set_cons_succ]
              refine wpAnyH_take (i := 19) (v := Value.bool false) rfl (by kernel_rfl) (by kernel_rfl) (by kernel_rfl) (fun _ _ _ h => h) (Or.inl ⟨rfl, fun w' hw' => ?_⟩) hHeld ?_
              · go_simp
              simp only [List.getElem_toArray, List.getElem_cons_succ, List.getElem_cons_zero, Act.put, List.setIfInBounds_toArray, List.set_cons_zero, List.set_cons_succ]
              refine wpAnyH_take (i := 20) (v := Value.bool false) rfl (by kernel_rfl) (by kernel_rfl) (by kernel_rfl) (fun _ _ _ h => h) (Or.inl ⟨rfl, fun w' hw' => ?_⟩) hHeld ?_
              · go_simp
              simp only [List.getElem_toArray, List.getElem_cons_succ, List.getElem_cons_zero, Act.put, List.setIfInBounds_toArray, List.set_cons_zero, List.set_cons_succ]
              refine wpAnyH_done (by kernel_rfl) ?_ _
              refine NoPanic.normal ?_
              clear hHeld
              go_wp2_with fail
              go_roundw
              case rel => exact ⟨i + 1, by omega, by go_num, HN.out.trans (HS7.out.mono HN.out.size)⟩
              case measure => simp [intOf]; omega
            · obtain rfl : i = ne := by omega
              have q2 : decide ((i : Int) < (i : Int)) = false := decide_eq_false (by omega)
              go_wp2_with fail
              go_ret
              exact ⟨rfl, BB.out.trans (HB.out.mono BB.out.size)⟩
end Go.Proofs.YtkjcbaikebdmmaaDoor
