/- HeapShapes, walked. -/
import Derived.Test.YtogpmpnojlepoaaL2m
import Derived.Deep.CutBlock
namespace Go.Proofs.Ytogpmpnojlepoaa
open Go Go.RowKit
set_option linter.unusedVariables false
set_option linter.unusedSimpArgs false
theorem IRw.isS {w : World} {g n : Nat} {l : List Int} (h : IRw w g l) (hl : l.length = n) : IsS w (.slice (some ⟨g, 0, none⟩) n n) l := by rw [← hl]; exact block_isS h
theorem IRw.below {w w' : World} {g : Nat} {l : List Int} (h : IRw w g l) (hb : Below w.heap.size w w') : IRw w' g l := (hb.block g h.lt).trans h
theorem IRw.fr {F : Nat → Prop} {w w' : World} {g : Nat} {l : List Int} (h : IRw w g l) (hf : Fr F w w') (hn : ¬ F g) : IRw w' g l := (hf.block g h.lt hn).trans h
def NuInv (W : World) (gp gn k m : Nat) (x : Int) (iv : Value) (wr : World) : Prop :=
  ∃ j : Nat, j ≤ m ∧ iv = .int .i64 (j : Int) ∧ IRw wr gn (List.replicate j x ++ List.replicate (m - j) 0) ∧ IRw wr gp (List.replicate k 0) ∧ Below W.heap.size W wr
theorem rep_set (j m : Nat) (x : Int) (h : j < m) : (List.replicate j x ++ List.replicate (m - j) 0).set j x = List.replicate (j + 1) x ++ List.replicate (m - (j + 1)) 0 := by
  rw [List.set_append_right _ _ (by simp), List.length_replicate, Nat.sub_self, show m - j = (m - (j + 1)) + 1 by omega, List.replicate_succ, List.set_cons_zero, List.replicate_succ', List.append_assoc]
  rfl
theorem fit_rep (t : Int) (k m : Nat) (x : Int) : fitF t (List.replicate k 0) (List.replicate m x) = (decide (k ≤ 60) && decide (m ≤ 60) &&
    (if t = 2 then decide (k = 2) && decide (m = 0)
     else if t = 5 then decide (k = 1) && decide (m = 0)
     else if t = 6 then decide (k = 1) && decide (m = 1) && (decide (x = 0) || decide (x = 1))
     else decide (1 ≤ t) && decide (t ≤ 7))) := by
  unfold fitF
  rw [List.length_replicate, List.length_replicate]
  by_cases h1 : m = 1
  · subst h1; rfl
  · have e : decide (m = 1) = false := decide_eq_false h1
    rw [e]; simp
theorem any_rep (k : Nat) (os : List Ob) (h : bey os 0 = false) : (List.replicate k (0 : Int)).any (bey os) = false := by
  induction k with
  | zero => rfl
  | succ k ih => rw [List.replicate_succ, List.any_cons, h, ih]; rfl
set_option maxHeartbeats 16000000 in
set_option maxRecDepth 100000 in
theorem shapes_walk (tag p q v : Int) (w : World) (hT : I64 tag) (hP : I64 p) (hQ : I64 q) (hV : I64 v) : Calls Try.prog 5 #[.int .i64 tag, .int .i64 p, .int .i64 q, .int .i64 v] w (RetV (.bool true) w) := by
  go_enter Try.func5, Try.ntmps5
  go_wp2_with fail
  refine (known_any w).mono ?_
  rintro e wk ⟨rfl, hbk⟩
  have HBK := Lib.hid hbk
  clear hbk
  go_wp2_with fail
  refine (new_any 500 (by omega) (by omega) wk).mono ?_
  rintro e w1 ⟨rfl, hw1⟩
  have e1 : w1 = wk.alloc (.cells #[.slice none 0 0, .int .i64 ((500 : Nat) : Int)] 49) := hw1
  have H1 := Lib.hid (HL.new HBK.out 500 (by omega))
  rw [← e1] at H1
  clear hw1 e1
  obtain ⟨b, hb⟩ : ∃ b, b = wk.heap.size := ⟨_, rfl⟩
  rw [← hb] at H1 ⊢
  clear hb HBK
  go_wp2_with fail
  have F := Lib.hid (atom_more (i := 0) (m := 500) H1.out (by omega))
  refine F.out.mono ?_
  rintro e w2 ⟨rfl, G, h2⟩
  have H2 := Lib.hid h2
  clear F h2 H1
  obtain ⟨tn, htn, -, F⟩ := within_at tag 10 hT (by omega) (by omega) w2
  have F1 := Lib.hid F
  clear F hT
  obtain ⟨k0, hk0, -, F⟩ := within_at p 64 hP (by omega) (by omega) w2
  have F2 := Lib.hid F
  clear F
  obtain ⟨m0, hm0, -, F⟩ := within_at q 64 hQ (by omega) (by omega) w2
  have F3 := Lib.hid F
  clear F
  obtain ⟨j3, hj3, -, F⟩ := within_at p 3 hP (by omega) (by omega) w2
  have F4 := Lib.hid F
  clear F
  obtain ⟨k1, hk1, -, F⟩ := within_at p 4 hP (by omega) (by omega) w2
  have F5 := Lib.hid F
  clear F
  obtain ⟨m1, hm1, -, F⟩ := within_at q 3 hQ (by omega) (by omega) w2
  have F6 := Lib.hid F
  clear F hP hQ
  obtain ⟨t, ht⟩ : ∃ t : Int, t = (tn : Int) - 1 := ⟨_, rfl⟩
  have htb : -1 ≤ t ∧ t ≤ 8 := by omega
  have HTE := Lib.hid ht.symm
  clear ht
  go_wp2_with fail
  refine F1.out.mono ?_
  rintro e w3 ⟨rfl, rfl⟩
  go_wp2_with fail
  refine F2.out.mono ?_
  rintro e w3 ⟨rfl, rfl⟩
  go_wp2_with fail
  refine F3.out.mono ?_
  rintro e w3 ⟨rfl, rfl⟩
  go_upto_region 8 with fail
  simp only [HTE.out]
  clear F1 F2 F3 HTE htn
  go_wp2_with fail
  refine F4.out.mono ?_
  rintro e w3 ⟨rfl, rfl⟩
  clear F4
  go_upto_if 40 with fail
  go_cut [13, 14] from 21 (fun s13 s14 wx => ∃ k m : Nat, k < 64 ∧ m < 64 ∧ s13 = .int .i64 (k : Int) ∧ s14 = .int .i64 (m : Int) ∧ w2 = wx)
  case first =>
    by_cases hj : j3 = 0
    · subst hj
      go_wp2_with fail
      go_meet
      case rel => exact ⟨k0, m0, hk0, hm0, rfl, rfl, rfl⟩
    · have q1 : decide ((0 : Int) < (j3 : Int)) = true := decide_eq_true (by omega)
      go_wp2_with fail
      refine F5.out.mono ?_
      rintro e w3 ⟨rfl, rfl⟩
      go_wp2_with fail
      refine F6.out.mono ?_
      rintro e w3 ⟨rfl, rfl⟩
      go_wp2_with fail
      go_meet
      case rel => exact ⟨k1, m1, by omega, by omega, rfl, rfl, rfl⟩
  case rest =>
    obtain ⟨k, m, hk, hm, rfl, rfl, rfl⟩ := hcut
    clear F5 F6 hk0 hm0 hk1 hm1 hj3
    go_wp2_with fail
    go_upto_region 10 with fail
    go_cut [15, 16] from 21 (fun s15 s16 wx => ∃ gp gn : Nat, s15 = .slice (some ⟨gp, 0, none⟩) k k ∧ s16 = .slice (some ⟨gn, 0, none⟩) m m ∧ gp ≠ gn ∧ w2.heap.size ≤ gp ∧ w2.heap.size ≤ gn ∧ IRw wx gp (List.replicate k 0) ∧ IRw wx gn (List.replicate m 0) ∧ Below w2.heap.size w2 wx)
    case first =>
      refine wp_region_noPanic ?_
      refine wp_region_held_drew (S := fun _ => True) (by kernel_rfl) trivial (fun hHeld => ?_)
      have hX := (Below.refl w2.heap.size w2).drew
      generalize w2.drew = X at hX ⊢
      have hXs : w2.heap.size ≤ X.heap.size := hX.size
      refine wpAnyH_take (i := 0) (v := ?v0) rfl (by kernel_rfl) (by kernel_rfl) (by kernel_rfl) (fun _ _ _ h => h) (Or.inl ⟨rfl, fun w' hw' => ?h0⟩) hHeld ?r0
      case h0 =>
        go_simp
        try with_reducible rfl
      simp only [List.getElem_toArray, List.getElem_cons_succ, List.getElem_cons_zero, Act.put, List.setIfInBounds_toArray, List.set_cons_zero, List.set_cons_succ]
      refine wpAnyH_take (i := 2) (v := ?v1) rfl (by kernel_rfl) (by kernel_rfl) (by kernel_rfl) (fun _ _ _ h => h) (Or.inl ⟨rfl, fun w' hw' => ?h1⟩) hHeld ?r1
      case h1 =>
        go_simp
        try with_reducible rfl
      simp only [List.getElem_toArray, List.getElem_cons_succ, List.getElem_cons_zero, Act.put, List.setIfInBounds_toArray, List.set_cons_zero, List.set_cons_succ]
      refine wpAnyH_ready (rs := [1, 3]) (by kernel_rfl) (by simp) ?_
      refine (AllReadyH.cons rfl (fun K hK => ?_) (AllReadyH.cons rfl (fun K hK => ?_) AllReadyH.nil))
      · skip
        have hmk1 := run_make_ints k (by omega) X
        go_simp
        refine hK.out _ _ trivial (fun hHeld => ?_)
        clear hmk1
        clear hK K
        try simp only [List.getElem_toArray, List.getElem_cons_succ, List.getElem_cons_zero, Act.put, List.setIfInBounds_toArray, List.set_cons_zero, List.set_cons_succ]
        refine wpAnyH_take (i := 4) (v := ?v2) rfl (by kernel_rfl) (by kernel_rfl) (by kernel_rfl) (fun _ _ _ h => h) (Or.inl ⟨rfl, fun w' hw' => ?h2⟩) hHeld ?r2
        case h2 =>
          go_simp
          try with_reducible rfl
        simp only [List.getElem_toArray, List.getElem_cons_succ, List.getElem_cons_zero, Act.put, List.setIfInBounds_toArray, List.set_cons_zero, List.set_cons_succ]
        refine wpAnyH_ready (rs := [3]) (by kernel_rfl) (by simp) ?_
        refine (AllReadyH.cons rfl (fun K hK => ?_) AllReadyH.nil)
        have hmk3 := run_make_ints m (by omega) (X.alloc (.cells (ivals (List.replicate k 0)) 3))
        go_simp
        refine hK.out _ _ trivial (fun hHeld => ?_)
        clear hmk3
        clear hK K
        try simp only [List.getElem_toArray, List.getElem_cons_succ, List.getElem_cons_zero, Act.put, List.setIfInBounds_toArray, List.set_cons_zero, List.set_cons_succ]
        refine wpAnyH_take (i := 5) (v := ?v3) rfl (by kernel_rfl) (by kernel_rfl) (by kernel_rfl) (fun _ _ _ h => h) (Or.inl ⟨rfl, fun w' hw' => ?h3⟩) hHeld ?r3
        case h3 =>
          go_simp
          try with_reducible rfl
        simp only [List.getElem_toArray, List.getElem_cons_succ, List.getElem_cons_zero, Act.put, List.setIfInBounds_toArray, List.set_cons_zero, List.set_cons_succ]
        refine wpAnyH_done (by kernel_rfl) ?_ _
        refine NoPanic.normal ?_
        clear hHeld
        go_wp2_with fail
        go_meet
        case rel =>
          skip
          have z1 : (X.alloc (.cells (ivals (List.replicate k 0)) 3)).heap.size = X.heap.size + 1 := by simp
          have i1 : IRw ((X.alloc (.cells (ivals (List.replicate k 0)) 3)).alloc (.cells (ivals (List.replicate m 0)) 3)) X.heap.size (List.replicate k 0) := (Below.heap_alloc _ _ _ (by rw [z1]; omega)).trans (alloc_at X _)
          have i2 : IRw ((X.alloc (.cells (ivals (List.replicate k 0)) 3)).alloc (.cells (ivals (List.replicate m 0)) 3)) (X.heap.size + 1) (List.replicate m 0) := by rw [← z1]; exact alloc_at _ _
          exact ⟨X.heap.size, X.heap.size + 1, rfl, rfl, by omega, by omega, by omega, i1, i2, (hX.alloc hXs _).alloc (by rw [z1]; omega) _⟩
      · skip
        have hmk3 := run_make_ints m (by omega) X
        go_simp
        refine hK.out _ _ trivial (fun hHeld => ?_)
        clear hmk3
        clear hK K
        try simp only [List.getElem_toArray, List.getElem_cons_succ, List.getElem_cons_zero, Act.put, List.setIfInBounds_toArray, List.set_cons_zero, List.set_cons_succ]
        refine wpAnyH_ready (rs := [1]) (by kernel_rfl) (by simp) ?_
        refine (AllReadyH.cons rfl (fun K hK => ?_) AllReadyH.nil)
        have hmk1 := run_make_ints k (by omega) (X.alloc (.cells (ivals (List.replicate m 0)) 3))
        go_simp
        refine hK.out _ _ trivial (fun hHeld => ?_)
        clear hmk1
        clear hK K
        try simp only [List.getElem_toArray, List.getElem_cons_succ, List.getElem_cons_zero, Act.put, List.setIfInBounds_toArray, List.set_cons_zero, List.set_cons_succ]
        refine wpAnyH_take (i := 4) (v := ?v4) rfl (by kernel_rfl) (by kernel_rfl) (by kernel_rfl) (fun _ _ _ h => h) (Or.inl ⟨rfl, fun w' hw' => ?h4⟩) hHeld ?r4
        case h4 =>
          go_simp
          try with_reducible rfl
        simp only [List.getElem_toArray, List.getElem_cons_succ, List.getElem_cons_zero, Act.put, List.setIfInBounds_toArray, List.set_cons_zero, List.set_cons_succ]
        refine wpAnyH_take (i := 5) (v := ?v5) rfl (by kernel_rfl) (by kernel_rfl) (by kernel_rfl) (fun _ _ _ h => h) (Or.inl ⟨rfl, fun w' hw' => ?h5⟩) hHeld ?r5
        case h5 =>
          go_simp
          try with_reducible rfl
        simp only [List.getElem_toArray, List.getElem_cons_succ, List.getElem_cons_zero, Act.put, List.setIfInBounds_toArray, List.set_cons_zero, List.set_cons_succ]
        refine wpAnyH_done (by kernel_rfl) ?_ _
        refine NoPanic.normal ?_
        clear hHeld
        go_wp2_with fail
        go_meet
        case rel =>
          skip
          have z1 : (X.alloc (.cells (ivals (List.replicate m 0)) 3)).heap.size = X.heap.size + 1 := by simp
          have i1 : IRw ((X.alloc (.cells (ivals (List.replicate m 0)) 3)).alloc (.cells (ivals (List.replicate k 0)) 3)) X.heap.size (List.replicate m 0) := (Below.heap_alloc _ _ _ (by rw [z1]; omega)).trans (alloc_at X _)
          have i2 : IRw ((X.alloc (.cells (ivals (List.replicate m 0)) 3)).alloc (.cells (ivals (List.replicate k 0)) 3)) (X.heap.size + 1) (List.replicate k 0) := by rw [← z1]; exact alloc_at _ _
          exact ⟨X.heap.size + 1, X.heap.size, rfl, rfl, by omega, by omega, by omega, i2, i1, (hX.alloc hXs _).alloc (by rw [z1]; omega) _⟩
    case rest =>
      obtain ⟨gp, gn, rfl, rfl, hne, hgp, hgn, hrp, hrn, hbw⟩ := hcut
      have HGP := Lib.hid (⟨hne, hgp, hgn⟩ : gp ≠ gn ∧ w2.heap.size ≤ gp ∧ w2.heap.size ≤ gn)
      obtain ⟨vm, hvm, -, F⟩ := within_at v 4 hV (by omega) (by omega) w2
      have FV := Lib.hid (fun W => (within_at v 4 hV (by omega) (by omega) W))
      obtain ⟨x, hx⟩ : ∃ x : Int, x = v % 4 - 1 := ⟨_, rfl⟩
      have FX : Hid (∀ W, Calls Try.prog 13 #[.int .i64 v, .int .i64 4] W fun e w' => e = .returned (.int .i64 (v % 4)) ∧ W = w') := fun W => within_any v 4 W hV.1 hV.2 (by omega) (by omega)
      have hxb : -1 ≤ x ∧ x ≤ 2 := by omega
      have hx2 : v % 4 - 1 = x := hx.symm
      have HX : Hid (gp ≠ b ∧ G ≠ some gp ∧ gn ≠ b ∧ G ≠ some gn) := by
        have h1 := H2.out.hp.1.lt
        have h2 := H2.out.hp.1.glt
        exact ⟨by omega, fun e => by have := (h2 _ e).1; omega, by omega, fun e => by have := (h2 _ e).1; omega⟩
      have H0 : Hid (NuInv w2 gp gn k m x (.int .i64 0) wc) := ⟨0, Nat.zero_le _, rfl, by simpa using hrn, hrp, hbw⟩
      clear F FV hvm vm hV hx hne hgp hgn hrp hrn hbw
      go_wp2_with fail
      go_loopw [17] (fun iv wr => NuInv w2 gp gn k m x iv wr) (fun iv _ => m - (intOf iv).toNat)
      case atStart => exact H0.out
      case round =>
        clear H0
        obtain ⟨j, hj, rfl, hrn, hrp, hbw⟩ := hrel
        have HRN := Lib.hid hrn
        have HRP := Lib.hid hrp
        have HBW := Lib.hid hbw
        clear hrn hrp hbw
        by_cases hjm : j < m
        · have q1 : decide ((j : Int) < (m : Int)) = true := decide_eq_true (by omega)
          have F := Lib.hid (FX.out wr)
          have hc := HRN.out.cell j (by simp; omega)
          have hf := frozen_of_row wr gn j _ 3 HRN.out
          generalize (List.replicate j x ++ List.replicate (m - j) 0)[j]'(by simp; omega) = z at hc
          have HREL : Hid (NuInv w2 gp gn k m x (.int .i64 ((j : Int) + 1)) (wr.setCell ⟨gn, j, none⟩ (.int .i64 x))) := by
            refine ⟨j + 1, by omega, by go_num, ?_, ?_, HBW.out.setCell (p := ⟨gn, j, none⟩) HGP.out.2.2 _⟩
            · have := HRN.out.put j x; rw [rep_set j m x hjm] at this; exact this
            · exact (Below.heap_setCell _ _ _ _ HGP.out.1).trans HRP.out
          go_wp2_with fail
          refine F.out.mono ?_
          rintro e w4 ⟨rfl, rfl⟩
          clear F
          go_wp2_with fail
          go_roundw
          case rel => exact HREL.out
          case measure => simp [intOf]; omega
        · obtain rfl : j = m := by omega
          have q1 : decide ((j : Int) < (j : Int)) = false := decide_eq_false (by omega)
          rw [Nat.sub_self, List.replicate_zero, List.append_nil] at HRN
          have HH := Lib.hid (H2.out.below HBW.out)
          have hcn : j = 1 → wr.cell? ⟨gn, 0, none⟩ = some (.int .i64 x) := fun e => by
            have := HRN.out.cell 0 (by simp; omega)
            simpa using this
          have HCN := Lib.hid hcn
          clear HBW H2 FX hx2 hcn
          go_upto_region 15 with fail
          go_cut [18] from 21 (fun s18 wx => s18 = .bool (decide (1 ≤ t) && decide (t ≤ 7) && decide (k ≤ 60) && decide (j ≤ 60)) ∧ wr = wx)
          case first =>
            by_cases z1 : 1 ≤ t
            · by_cases z2 : t ≤ 7
              · by_cases z3 : k ≤ 60
                · have y3 : decide ((k : Int) ≤ 60) = true := decide_eq_true (by omega)
                  by_cases z4 : j ≤ 60
                  · have y4 : decide ((j : Int) ≤ 60) = true := decide_eq_true (by omega)
                    go_wp2_with fail
                    go_meet
                    case rel => exact ⟨congrArg Value.bool (by simp; omega), rfl⟩
                  · have y4 : decide ((j : Int) ≤ 60) = false := decide_eq_false (by omega)
                    go_wp2_with fail
                    go_meet
                    case rel => exact ⟨congrArg Value.bool (by simp; omega), rfl⟩
                · have y3 : decide ((k : Int) ≤ 60) = false := decide_eq_false (by omega)
                  go_wp2_with fail
                  go_meet
                  case rel => exact ⟨congrArg Value.bool (by simp; omega), rfl⟩
              · have y2 : decide (t ≤ 7) = false := decide_eq_false z2
                go_wp2_with fail
                go_meet
                case rel => exact ⟨congrArg Value.bool (by simp; omega), rfl⟩
            · have y1 : decide (1 ≤ t) = false := decide_eq_false z1
              go_wp2_with fail
              go_meet
              case rel => exact ⟨congrArg Value.bool (by simp; omega), rfl⟩
          case rest =>
            obtain ⟨rfl, rfl⟩ := hcut
            obtain ⟨c0, hc0⟩ : ∃ c0, c0 = (decide (1 ≤ t) && decide (t ≤ 7) && decide (k ≤ 60) && decide (j ≤ 60)) := ⟨_, rfl⟩
            rw [← hc0]
            have HC0 := Lib.hid hc0
            clear hc0
            go_upto_block 2 with fail
            go_cut [18] from 21 (fun s18 wx => s18 = .bool (fitF t (List.replicate k 0) (List.replicate j x)) ∧ wr = wx)
            case first =>
              by_cases h : t = 2
              · skip
                subst h
                by_cases z1 : k = 2
                · subst z1
                  by_cases z2 : j = 0
                  · subst z2
                    go_wp2_with fail
                    go_meet
                    case rel => exact ⟨congrArg Value.bool (by rw [fit_rep]; simp; try omega), rfl⟩
                  · have y2 : ((j : Int) == 0) = false := by simp; omega
                    go_wp2_with fail
                    go_meet
                    case rel => exact ⟨congrArg Value.bool (by rw [fit_rep]; simp; try omega), rfl⟩
                · have y1 : ((k : Int) == 2) = false := by simp; omega
                  go_wp2_with fail
                  go_meet
                  case rel => exact ⟨congrArg Value.bool (by rw [fit_rep]; simp; try omega), rfl⟩
              have n2 : (t == 2) = false := by simpa using h
              by_cases h' : t = 5
              · skip
                subst h'
                by_cases z1 : k = 1
                · subst z1
                  by_cases z2 : j = 0
                  · subst z2
                    go_wp2_with fail
                    go_meet
                    case rel => exact ⟨congrArg Value.bool (by rw [fit_rep]; simp; try omega), rfl⟩
                  · have y2 : ((j : Int) == 0) = false := by simp; omega
                    go_wp2_with fail
                    go_meet
                    case rel => exact ⟨congrArg Value.bool (by rw [fit_rep]; simp; try omega), rfl⟩
                · have y1 : ((k : Int) == 1) = false := by simp; omega
                  go_wp2_with fail
                  go_meet
                  case rel => exact ⟨congrArg Value.bool (by rw [fit_rep]; simp; try omega), rfl⟩
              have n5 : (t == 5) = false := by simpa using h'
              by_cases h'' : t = 6
              · skip
                subst h''
                by_cases z1 : k = 1
                · subst z1
                  by_cases z2 : j = 1
                  · subst z2
                    have hc := HCN.out rfl
                    by_cases x0 : x = 0
                    · subst x0
                      go_wp2_with fail
                      go_meet
                      case rel => exact ⟨congrArg Value.bool (by rw [fit_rep]; simp; try omega), rfl⟩
                    · have y0 : (x == 0) = false := by simpa using x0
                      by_cases x1 : x = 1
                      · subst x1
                        go_wp2_with fail
                        go_meet
                        case rel => exact ⟨congrArg Value.bool (by rw [fit_rep]; simp; try omega), rfl⟩
                      · have y1 : (x == 1) = false := by simpa using x1
                        go_wp2_with fail
                        go_meet
                        case rel => exact ⟨congrArg Value.bool (by rw [fit_rep]; simp; try omega), rfl⟩
                  · have y2 : ((j : Int) == 1) = false := by simp; omega
                    go_wp2_with fail
                    go_meet
                    case rel => exact ⟨congrArg Value.bool (by rw [fit_rep]; simp; try omega), rfl⟩
                · have y1 : ((k : Int) == 1) = false := by simp; omega
                  go_wp2_with fail
                  go_meet
                  case rel => exact ⟨congrArg Value.bool (by rw [fit_rep]; simp; try omega), rfl⟩
              have n6 : (t == 6) = false := by simpa using h''
              have HR : Hid (c0 = fitF t (List.replicate k 0) (List.replicate j x)) := by
                show _ = _
                rw [fit_rep, if_neg h, if_neg h', if_neg h'', HC0.out]
                cases decide (1 ≤ t) <;> cases decide (t ≤ 7) <;> cases decide (k ≤ 60) <;> cases decide (j ≤ 60) <;> rfl
              go_wp2_with fail
              go_meet
              case rel => exact ⟨congrArg Value.bool HR.out, rfl⟩
            case rest =>
              obtain ⟨rfl, rfl⟩ := hcut
              obtain ⟨f, hf⟩ : ∃ f, f = fitF t (List.replicate k 0) (List.replicate j x) := ⟨_, rfl⟩
              rw [← hf]
              have HP := Lib.hid (HRP.out.isS (n := k) (by simp))
              have HN := Lib.hid (HRN.out.isS (n := j) (by simp))
              have hpr : ∀ p ∈ List.replicate k (0 : Int), -9223372036854775808 ≤ p ∧ p ≤ 9223372036854775807 := fun p hp => by rw [(List.mem_replicate.1 hp).2]; omega
              have HG0 := Lib.hid HGP.out
              cases f with
              | false =>
                have F := Lib.hid (alloc_unfit HH.out.hp t _ _ _ _ HP.out HN.out (by simp; omega) (by simp; omega) hpr (.inl hf.symm))
                clear hf hpr HCN HC0
                go_wp2_with fail
                refine F.out.mono ?_
                rintro e w4 ⟨rfl, hb4⟩
                have HE := Lib.hid (HH.out.below hb4)
                clear hb4 F
                simp only [pair2]
                go_wp2_with fail
                go_ret
                exact ⟨rfl, HE.out.bel⟩
              | true =>
                obtain ⟨tn2, rfl, ht1, ht2, hkl, hjl, -⟩ := fitF_spec hf.symm
                simp only [List.length_replicate] at hkl hjl
                have F := Lib.hid (alloc_yes HH.out.hp tn2 _ _ _ _ HP.out HN.out (apart_lt rfl HX.out.1 HX.out.2.1) (apart_lt rfl HX.out.2.2.1 HX.out.2.2.2) hpr hf.symm (any_rep k _ (by decide)) (by rw [show total (atoms (0 + 1)) = 2 from by decide]; unfold sizeF; simp only [List.length_replicate]; omega))
                have e2 : total (atoms (0 + 1)) = 2 := by decide
                clear hf hpr HCN HC0
                go_wp2_with fail
                refine F.out.mono ?_
                rintro e w4 hr
                obtain ⟨rfl, G4, h4⟩ := HH.out.turn hr
                obtain ⟨-, _, -, hfr, -⟩ := hr
                have H4 := Lib.hid h4
                have R4 := Lib.hid (HRP.out.fr hfr (fun h => by rcases h with h | h; exact HX.out.1 h; exact HX.out.2.1 h))
                have N4 := Lib.hid (HRN.out.fr hfr (fun h => by rcases h with h | h; exact HX.out.2.2.1 h; exact HX.out.2.2.2 h))
                rw [e2]
                clear F h4 hfr HH e2
                simp only [pair2]
                have F18 : Hid (Calls Try.prog 18 #[.pointer (some ⟨b, 0, none⟩), .int .i64 2] w4 (RetV (.int .i64 (tn2 : Nat)) w4)) := by
                  have h := tagm_any H4.out.hp 2 (by omega) (by omega)
                  have e := tag_new (atoms (0 + 1)) tn2 (List.replicate k 0) (List.replicate j x)
                  rw [show ((total (atoms (0 + 1)) : Nat) : Int) = 2 from by decide] at e
                  rw [e] at h
                  exact h
                have F27 : Hid (∀ W, Below w4.heap.size w4 W → Calls Try.prog 27 #[.pointer (some ⟨b, 0, none⟩), .int .i64 2] W (RetI (List.replicate k 0) W)) := by
                  intro W hb
                  have h := ptrs_o (H4.out.hp.below hb) 2 (by omega) (by omega)
                  have e := ptrs_new (atoms (0 + 1)) tn2 (List.replicate k 0) (List.replicate j x)
                  rw [show ((total (atoms (0 + 1)) : Nat) : Int) = 2 from by decide] at e
                  rw [e] at h
                  exact h
                have F28 : Hid (∀ W, Below w4.heap.size w4 W → Calls Try.prog 28 #[.pointer (some ⟨b, 0, none⟩), .int .i64 2] W (RetI (List.replicate j x) W)) := by
                  intro W hb
                  have h := nums_o (H4.out.hp.below hb) 2 (by omega) (by omega)
                  have e := nums_new (atoms (0 + 1)) tn2 (List.replicate k 0) (List.replicate j x)
                  rw [show ((total (atoms (0 + 1)) : Nat) : Int) = 2 from by decide] at e
                  rw [e] at h
                  exact h
                go_wp2_with fail
                refine F18.out.mono ?_
                rintro e w5 ⟨rfl, hb5⟩
                have HB5 := Lib.hid hb5
                clear hb5 F18
                go_wp2_with fail
                refine (F27.out w5 HB5.out).mono ?_
                rintro e w6 hr
                obtain ⟨ao, c2, rfl, ho6, hb6⟩ := hr.form
                have HO6 := Lib.hid (own_isS ho6)
                have HB6 := Lib.hid (HB5.out.trans (hb6.mono HB5.out.size))
                clear hr ho6 hb6 F27 HB5
                simp only [List.length_replicate] at HO6 ⊢
                have F24 := Lib.hid (ints_eq HO6.out ((R4.out.below HB6.out).isS (n := k) (by simp)) (by simp; omega))
                go_wp2_with fail
                refine F24.out.mono ?_
                rintro e w7 ⟨rfl, hb7⟩
                have HB7 := Lib.hid (HB6.out.trans (hb7.mono HB6.out.size))
                clear hb7 F24 HB6 HO6
                go_wp2_with fail
                refine (F28.out w7 HB7.out).mono ?_
                rintro e w8 hr
                obtain ⟨ao3, c3, rfl, ho8, hb8⟩ := hr.form
                have HO8 := Lib.hid (own_isS ho8)
                have HB8 := Lib.hid (HB7.out.trans (hb8.mono HB7.out.size))
                clear hr ho8 hb8 F28 HB7
                simp only [List.length_replicate] at HO8 ⊢
                have F24 := Lib.hid (ints_eq HO8.out ((N4.out.below HB8.out).isS (n := j) (by simp)) (by simp; omega))
                go_wp2_with fail
                refine F24.out.mono ?_
                rintro e w9 ⟨rfl, hb9⟩
                have HB9 := Lib.hid (HB8.out.trans (hb9.mono HB8.out.size))
                clear hb9 F24 HB8 HO8
                go_wp2_with fail
                go_ret
                exact ⟨rfl, (H4.out.below HB9.out).bel⟩
end Go.Proofs.Ytogpmpnojlepoaa
