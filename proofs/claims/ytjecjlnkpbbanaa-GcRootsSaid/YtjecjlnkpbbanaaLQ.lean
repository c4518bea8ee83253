/- GcRoots, walked. -/
import Derived.Test.YtjecjlnkpbbanaaL25
import Derived.Test.YtjecjlnkpbbanaaG8
namespace Go.Proofs.Ytjecjlnkpbbanaa
open Go Go.RowKit
set_option linter.unusedVariables false
set_option linter.unusedSimpArgs false
def evs (n : Nat) : List Int := (List.range n).map fun j => ((2 * j : Nat) : Int)
theorem evs_len (n : Nat) : (evs n).length = n := by simp [evs]
theorem evs_more (i : Nat) : evs (2 * i) ++ [((4 * i : Nat) : Int), ((4 * i + 2 : Nat) : Int)] = evs (2 * i + 2) := by
  unfold evs
  rw [List.range_succ, List.range_succ, List.map_append, List.map_append, List.append_assoc]
  have e1 : 2 * (2 * i) = 4 * i := by omega
  have e2 : 2 * (2 * i + 1) = 4 * i + 2 := by omega
  simp only [List.map_cons, List.map_nil, List.cons_append, List.nil_append, e1, e2]
theorem evs_get {n j : Nat} (h : j < (evs n).length) : (evs n)[j] = ((2 * j : Nat) : Int) := by simp [evs]
def castF (F : List Nat) : List Int := F.map (fun (f : Nat) => ((f : Nat) : Int))
theorem castF_len (F : List Nat) : (castF F).length = F.length := by simp [castF]
theorem castF_get (F : List Nat) (j : Nat) (h : j < (castF F).length) (h2 : j < F.length) : (castF F)[j] = (F[j] : Int) := by simp [castF]
theorem Tr.start (w : World) : Tr w (.slice none 0 0) (.slice none 0 0) (.slice none 0 0) [] [] (castF []) w :=
  ⟨World.ownsRow_nil _ _ _ _, World.ownsRow_nil _ _ _ _, World.ownsRow_nil _ _ _ _, (fun k hk => by cases hk), (fun k hk => by cases hk), (fun k hk => by cases hk), Below.refl _ _⟩
def Ro1 (B : World) (b k : Nat) (lv iv : Value) (wr : World) : Prop := ∃ (i : Nat) (G : Option Nat), i ≤ k ∧ iv = .int .i64 (i : Int) ∧ HL B wr b G (PR i) 200 ∧ wr.ownsRow B.heap.size 3 1 lv (2 * i) ((evs (2 * i)).map (Value.int .i64)) ∧ Bes lv b G
def Ro2 (w2 : World) (k : Nat) (rv wv fv iv : Value) (wr : World) : Prop := ∃ (i : Nat) (R W : List Int) (F : List Nat), i ≤ 20 ∧ R.length = i ∧ W.length = i ∧ F.length ≤ i ∧ iv = .int .i64 (i : Int) ∧ Tr w2 rv wv fv R W (castF F) wr ∧ Rt k R W F
def Ro3 (F : List Nat) (h : Nat) (wi : World) (iv : Value) (wr : World) : Prop := ∃ i : Nat, i ≤ F.length ∧ iv = .int .i64 (i : Int) ∧ (∀ j, j < i → F[j]? ≠ some h) ∧ wr = wi
def Ro4 (W : World) (n : Nat) (iv : Value) (wr : World) : Prop := ∃ j : Nat, j ≤ n ∧ iv = .int .i64 (j : Int) ∧ Below W.heap.size W wr
set_option maxHeartbeats 16000000 in
set_option maxRecDepth 100000 in
theorem roots_walk (n : Int) (a : Option Addr) (len cap : Nat) (zs : List Int) (w : World) (hn : I64 n) (hA : IsRow .i64 w a len cap zs) :
    Calls Try.prog 9 #[.int .i64 n, .slice a len cap] w (RetV (.bool true) w) := by
  have HA := Lib.hid hA.arg
  have hlen := hA.arg.1
  clear hA zs
  go_enter Try.func9, Try.ntmps9
  go_wp2_with fail
  refine (known_any w).mono ?_
  rintro e wk ⟨rfl, hbk⟩
  have HBK := Lib.hid hbk
  clear hbk
  go_wp2_with fail
  refine (new_any (200 : Nat) (by omega) (by omega) wk).mono ?_
  rintro e w1 ⟨rfl, hw1⟩
  have e1 : w1 = wk.alloc (.cells #[.slice none 0 0, .int .i64 ((200 : Nat) : Int)] 75) := hw1
  have H1 := Lib.hid (HL.new HBK.out 200 (by omega))
  rw [← e1] at H1
  clear hw1 e1
  obtain ⟨b, hb⟩ : ∃ b, b = wk.heap.size := ⟨_, rfl⟩
  rw [← hb] at H1 ⊢
  clear hb HBK
  obtain ⟨k9, hk9, -, F⟩ := within_at14 n 10 hn (by omega) (by omega) w1
  have FW := Lib.hid F
  clear F hn
  obtain ⟨k, hk⟩ : ∃ k, k = 1 + k9 := ⟨_, rfl⟩
  have hkk : (1 : Int) + (k9 : Int) = (k : Int) := by omega
  have hk1 : 1 ≤ k := by omega
  have hk2 : k ≤ 10 := by omega
  clear hk
  go_wp2_with fail
  refine FW.out.mono ?_
  rintro e w2 ⟨rfl, rfl⟩
  clear FW
  have H0 : Hid (Ro1 w b k (.slice none 0 0) (.int .i64 0) w1) := ⟨0, none, Nat.zero_le _, rfl, H1.out, World.ownsRow_nil _ _ _ _, fun k hk => by cases hk⟩
  clear H1
  go_wp2_with fail
  clear hkk hk9
  go_loopw [7, 8] (fun lv iv wr => Ro1 w b k lv iv wr) (fun _ iv _ => k - (intOf iv).toNat)
  case atStart => exact H0.out
  case round =>
    clear H0
    obtain ⟨i, G, hi, rfl, hl, hown, hbe⟩ := hrel
    have HL9 := Lib.hid hl
    have HO := Lib.hid hown
    have HBE := Lib.hid hbe
    obtain ⟨lo, lc, rfl⟩ := own_sform hown
    clear hl hown hbe
    by_cases hik : i < k
    · have q1 : decide ((i : Int) < (k : Int)) = true := decide_eq_true (by omega)
      have hA1 : Below wr.heap.size wr (wr.alloc (.cells #[.int .i64 (i : Int)] 3)) := (Below.refl _ _).alloc (Nat.le_refl _) _
      have hfit1 : fitF (1 : Nat) [] [(i : Int)] = true := rfl
      have F28 := Lib.hid ((HL9.out.below hA1).alloc2 1 [] [(i : Int)] (.slice none 0 0) (.slice (some ⟨wr.heap.size, 0, none⟩) 1 1) (nil_isS _) (one_isS wr i) (apart_nil _ _) (HL9.out.apart2 (Nat.le_refl _)) (by simp) hfit1 (by rw [PR_total]; show 4 * i + 2 ≤ 200; omega) (own_below HO.out hA1) HBE.out)
      rw [PR_total] at F28
      obtain ⟨x, hx⟩ : ∃ x : Nat, x = 4 * i := ⟨_, rfl⟩
      rw [← hx] at F28
      have HX := Lib.hid hx
      clear hA1 hfit1 HL9 HO HBE hx
      go_wp2_with fail
      refine F28.out.mono ?_
      rintro e w4 ⟨rfl, G4, h4, o4, be4⟩
      have hA2 : Below w4.heap.size w4 (w4.alloc (.cells #[.int .i64 (x : Int)] 3)) := (Below.refl _ _).alloc (Nat.le_refl _) _
      have hvx : Vd (PR i ++ [newO 1 [] [(i : Int)]]) (x : Int) := by rw [HX.out, ← PR_total i]; exact ⟨_, ob_last _ _⟩
      have hfit5 : fitF (5 : Nat) [(x : Int)] [] = true := rfl
      have F29 := Lib.hid ((h4.below hA2).alloc2 5 [(x : Int)] [] (.slice (some ⟨w4.heap.size, 0, none⟩) 1 1) (.slice none 0 0) (one_isS w4 x) (nil_isS _) (h4.apart2 (Nat.le_refl _)) (apart_nil _ _) (fun p hp => by rw [List.mem_singleton.1 hp]; exact vd_ok hvx (m := 200) (by rw [PR_mid]; omega) (by omega)) hfit5 (by rw [PR_mid]; show 4 * i + 2 + 2 ≤ 200; omega) (own_below o4 hA2) be4)
      rw [PR_mid] at F29
      obtain ⟨y, hy⟩ : ∃ y : Nat, y = 4 * i + 2 := ⟨_, rfl⟩
      rw [← hy] at F29
      have HY := Lib.hid hy
      clear hA2 hvx hfit5 h4 o4 be4 F28 hy
      go_wp2_with fail
      refine F29.out.mono ?_
      rintro e w5 ⟨rfl, G5, h5, o5, be5⟩
      have H5 : Hid (HL w w5 b G5 (PR (i + 1)) 200) := by
        have e9 : PR (i + 1) = (PR i ++ [newO 1 [] [(i : Int)]]) ++ [newO 5 [(x : Int)] []] := by rw [HX.out]; rfl
        show HL _ _ _ _ _ _
        rw [e9]; exact h5
      have hA3 : Below w5.heap.size w5 (w5.alloc (.cells #[.int .i64 (x : Int), .int .i64 (y : Int)] 3)) := (Below.refl _ _).alloc (Nat.le_refl _) _
      have HSR := Lib.hid (isS_srcA (two_isS w5 x y))
      have HO5 := Lib.hid (own_below o5 hA3)
      have HO5' := Lib.hid o5
      have HBE5 := Lib.hid be5
      have HA3 := Lib.hid hA3
      have hsz3 : w.heap.size ≤ (w5.alloc (.cells #[.int .i64 (x : Int), .int .i64 (y : Int)] 3)).heap.size := by have := H5.out.bel.size; have := hA3.size; omega
      have hi9 : 2 * i + 2 ≤ 1000000000 := by omega
      obtain ⟨n2, hn2⟩ : ∃ n2, n2 = 2 * i := ⟨_, rfl⟩
      rw [← hn2] at HO5 HO5' HBE5 hi9 ⊢
      have HN2 := Lib.hid hn2
      obtain ⟨RM, hRM⟩ : ∃ RM, RM = (evs n2).map (Value.int .i64) := ⟨_, rfl⟩
      rw [← hRM] at HO5 HO5'
      have HRM := Lib.hid hRM
      clear F29 h5 o5 be5 hA3 hn2 hRM
      go_wp2_with (refine wpList_wantedR (by rfl) fun K hK => ?_; refine wp_appI (Operand.tmp 50) (Operand.tmp 53) rfl w.heap.size (.slice lo n2 lc) n2 RM rfl HO5.out (.slice (some ⟨w5.heap.size, 0, none⟩) 2 2) rfl 2 _ HSR.out hi9 hsz3 ?_; intro v9 w9 hown9 hg9 hv9; have HO9 := Lib.hid hown9; have HGR := Lib.hid (H5.out.grow HA3.out HO5'.out HBE5.out hg9 hv9); clear hown9 hg9 hv9 HO5 HSR; refine hK _ _ ?_; clear hK K)
      have HREL : Hid (Ro1 w b k v9 (.int .i64 ((i : Int) + 1)) w9) := by
        refine ⟨i + 1, G5, hik, by go_num, HGR.out.1, ?_, HGR.out.2⟩
        have h9 := HO9.out
        rw [HRM.out, HN2.out] at h9
        have e9 : (evs (2 * i)).map (Value.int .i64) ++ List.map (Value.int .i64) [(x : Int), (y : Int)] = (evs (2 * (i + 1))).map (Value.int .i64) := by
          rw [← List.map_append, HX.out, HY.out, evs_more]; rfl
        rw [e9] at h9
        exact h9
      clear HO9 HGR HO5' HBE5 HA3 H5
      go_roundw
      case rel => exact HREL.out
      case measure => simp [intOf]; omega
    · obtain rfl : i = k := by omega
      have q1 : decide ((i : Int) < (i : Int)) = false := decide_eq_false (by omega)
      have HOK := Lib.hid HL9.out.hp.2.1
      have HCL := Lib.hid HL9.out.hp.2.2.1
      obtain ⟨n2, hn2⟩ : ∃ n2, n2 = 2 * i := ⟨_, rfl⟩
      rw [← hn2] at HO ⊢
      have hn21 : 1 ≤ n2 := by omega
      have hn22 : n2 ≤ 20 := by omega
      have HN2 := Lib.hid hn2
      have H0 : Hid (Ro2 wr i (.slice none 0 0) (.slice none 0 0) (.slice none 0 0) (.int .i64 0) wr) := ⟨0, [], [], [], by omega, rfl, rfl, Nat.le_refl _, rfl, Tr.start wr, Rt.start _⟩
      have HK : Hid (∀ W, Below wr.heap.size wr W → HL w W b G (PR i) 200 ∧ W.ownsRow w.heap.size 3 1 (.slice lo n2 lc) n2 ((evs n2).map (Value.int .i64))) := fun W hb => ⟨HL9.out.below hb, own_below HO.out hb⟩
      clear HO HBE hn2
      go_wp2_with fail
      generalize wr = wz at *
      go_loopw [13, 14, 15, 16] (fun rv wv fv iv wr => Ro2 wz i rv wv fv iv wr) (fun _ _ _ iv _ => 20 - (intOf iv).toNat)
      case atStart => exact H0.out
      case round =>
        clear H0
        obtain ⟨j, R, W, F, hj, hRl, hWl, hFl, rfl, htr, hrt⟩ := hrel
        have HTR := Lib.hid htr
        have HRT := Lib.hid hrt
        obtain ⟨hk1', hk2'⟩ := HK.out wr htr.bel
        have HLr := Lib.hid hk1'
        have HOr := Lib.hid hk2'
        obtain ⟨ro, rc, rfl⟩ := own_sform htr.o1
        obtain ⟨wo, wc, rfl⟩ := own_sform htr.o2
        obtain ⟨fo, fc, rfl⟩ := own_sform htr.o3
        have HRl := Lib.hid hRl
        have HWl := Lib.hid hWl
        obtain ⟨nf, hnf⟩ : ∃ nf, nf = F.length := ⟨_, rfl⟩
        rw [← hnf] at hFl
        have HNF := Lib.hid hnf
        rw [castF_len, ← hnf]
        rw [hRl, hWl]
        clear htr hrt hk1' hk2' hRl hWl hnf
        by_cases hgo : j < len ∧ j < 20
        · obtain ⟨hjl, hj20⟩ := hgo
          have q1 : decide ((j : Int) < (len : Int)) = true := decide_eq_true (by omega)
          have q2 : decide ((j : Int) < 20) = true := decide_eq_true (by omega)
          obtain ⟨y, z, rfl, hc, hz⟩ := (HA.out.below HLr.out.bel).2 j hjl
          obtain ⟨r, hr, -, FF⟩ := within_at14 z n2 hz (by omega) (by omega) wr
          have FW := Lib.hid FF
          obtain ⟨gl, cl, e7, -, hgl, -, hcl⟩ := own_at HOr.out (by omega)
          injection e7 with e7 e8 e9
          subst e7
          clear e8 e9
          have cr := hcl r (by rw [evs_len]; exact hr)
          rw [evs_get] at cr
          have hr2k : r < 2 * i := by have := HN2.out; omega
          obtain ⟨x, hx⟩ : ∃ x : Nat, x = 2 * r := ⟨_, rfl⟩
          rw [← hx] at cr
          have HX := Lib.hid hx
          obtain ⟨h2, hh2⟩ : ∃ h2 : Nat, h2 = r / 2 := ⟨_, rfl⟩
          have HH2 := Lib.hid hh2
          have hdv : (r : Int).tdiv 2 = (h2 : Int) := by rw [Int.tdiv_eq_ediv_of_nonneg (by omega), hh2]; omega
          have hdw : IntKind.i64.wrap ((r : Int).tdiv 2) = (h2 : Int) := by rw [hdv, IntKind.wrap_i64]; omega
          have hdw2 : IntKind.i64.wrap ((r : Int) / 2) = (h2 : Int) := by rw [IntKind.wrap_i64]; omega
          have hdv2 : (r : Int) / 2 = (h2 : Int) := by omega
          have hA1 : Below wr.heap.size wr (wr.alloc (.cells #[.int .i64 (x : Int)] 3)) := (Below.refl _ _).alloc (Nat.le_refl _) _
          have HSR := Lib.hid (srcA_one (d := .int .i64 (x : Int)) (T := 3) (alloc_at wr (.cells #[.int .i64 (x : Int)] 3)) rfl 1)
          have HO1 : Hid ((wr.alloc (.cells #[.int .i64 (x : Int)] 3)).ownsRow wz.heap.size 3 1 (.slice ro j rc) j (R.map (Value.int .i64))) := by
            have := own_below HTR.out.o1 hA1
            rw [HRl.out] at this; exact this
          have hsz1 : wz.heap.size ≤ (wr.alloc (.cells #[.int .i64 (x : Int)] 3)).heap.size := by have := HTR.out.bel.size; have := hA1.size; omega
          have hj9 : j + 1 ≤ 1000000000 := by omega
          have HTR1 : Hid (Tr wz (.slice ro j rc) (.slice wo j wc) (.slice fo nf fc) R W (castF F) wr) := by
            have := HTR.out
            rw [HRl.out, HWl.out, castF_len, ← HNF.out] at this; exact this
          obtain ⟨RM, hRM⟩ : ∃ RM, RM = R.map (Value.int .i64) := ⟨_, rfl⟩
          rw [← hRM] at HO1
          have HRM := Lib.hid hRM
          clear hz FF hcl hx hA1 hh2 hRM HTR HOr
          go_wp2_with fail
          refine FW.out.mono ?_
          rintro e w4 ⟨rfl, rfl⟩
          clear FW
          go_wp2_with (refine wpList_wantedR (by rfl) fun K hK => ?_; refine wp_appI (Operand.tmp 72) (Operand.tmp 77) rfl wz.heap.size (.slice ro j rc) j RM rfl HO1.out (.slice (some ⟨wr.heap.size, 0, none⟩) 1 1) rfl 1 _ HSR.out hj9 hsz1 ?_; intro v9 w9 hown9 hg9 hv9; have HTR2 : Hid (Tr wz v9 (.slice wo j wc) (.slice fo nf fc) (R ++ [(x : Int)]) W (castF F) w9) := HTR1.out.app1 (by rw [HRl.out]) (by rw [← HRM.out]; exact hown9) hg9 hv9; clear hown9 hg9 hv9 HO1 HSR HTR1; refine hK _ _ ?_; clear hK K)
          clear cr hdv hsz1
          have H3 : Hid (Ro3 F h2 w9 (.int .i64 0) w9) := ⟨0, Nat.zero_le _, rfl, fun j hj => by omega, rfl⟩
          go_loopw [18] (fun iv wr => Ro3 F h2 w9 iv wr) (fun iv _ => nf - (intOf iv).toNat)
          case atStart => exact H3.out
          case round =>
            clear H3
            obtain ⟨t, ht, rfl, hno, rfl⟩ := hrel
            have HNO := Lib.hid hno
            clear hno
            rw [← HNF.out] at ht
            by_cases htf : t < nf
            · have q3 : decide ((t : Int) < (nf : Int)) = true := decide_eq_true (by omega)
              have hof := HTR2.out.o3
              rw [castF_len, ← HNF.out] at hof
              obtain ⟨gf, cf, e7, -, hgf, -, hcf⟩ := own_at hof (by omega)
              injection e7 with e7 e8 e9
              subst e7
              clear e8 e9
              have htF : t < F.length := by rw [← HNF.out]; exact htf
              have ct := hcf t (by rw [castF_len]; exact htF)
              rw [castF_get F t (by rw [castF_len]; exact htF) htF] at ct
              obtain ⟨f, hf⟩ : ∃ f, f = F[t] := ⟨_, rfl⟩
              rw [← hf] at ct
              have HF9 : Hid (F[t]? = some f) := by show _ = _; rw [List.getElem?_eq_getElem htF, hf]
              clear hof hcf hf
              by_cases hfh : f = h2
              · have q4 : ((f : Int) != (h2 : Int)) = false := by rw [hfh]; simp
                have HSE : Hid (t = idx F h2 ∧ (t = F.length ↔ h2 ∉ F)) := idx_search (by omega) HNO.out (.inr (by rw [← hfh]; exact HF9.out))
                have q5 : ((t : Int) == (nf : Int)) = false := by
                  have : ¬ (t : Int) = (nf : Int) := by omega
                  simpa using this
                have HAF : Hid (addF F h2 = F) := by
                  have h9 := HSE.out.2
                  unfold addF
                  show (if h2 ∈ F then F else F ++ [h2]) = F
                  rw [if_pos (by apply Decidable.byContradiction; intro hc; have := h9.2 hc; omega)]
                have h2t : (2 : Int) * (t : Int) = ((2 * t : Nat) : Int) := by omega
                obtain ⟨tt, htt⟩ : ∃ tt : Nat, tt = 2 * t := ⟨_, rfl⟩
                rw [← htt] at h2t
                have HTT := Lib.hid htt
                clear htt
                have HTW := Lib.hid (HTR2.out.swap12)
                have HSRW := Lib.hid (fun (wq : World) => srcA_one (d := .int .i64 (tt : Int)) (T := 3) (alloc_at wq (.cells #[.int .i64 (tt : Int)] 3)) rfl 1)
                have hAW : Below wr.heap.size wr (wr.alloc (.cells #[.int .i64 (tt : Int)] 3)) := (Below.refl _ _).alloc (Nat.le_refl _) _
                have hszW : wz.heap.size ≤ (wr.alloc (.cells #[.int .i64 (tt : Int)] 3)).heap.size := by have := HTW.out.bel.size; have := hAW.size; omega
                obtain ⟨WM, hWM⟩ : ∃ WM, WM = W.map (Value.int .i64) := ⟨_, rfl⟩
                have HWM := Lib.hid hWM
                have HOW : Hid ((wr.alloc (.cells #[.int .i64 (tt : Int)] 3)).ownsRow wz.heap.size 3 1 (.slice wo j wc) j WM) := by
                  have := own_below HTW.out.o1 hAW
                  rw [HWl.out] at this
                  show World.ownsRow _ _ _ _ _ _ _
                  rw [hWM]; exact this
                clear hAW hWM
                clear HTR2 HNO HF9 hfh
                go_wp2_with (refine wpList_wantedR (by rfl) fun K hK => ?_; refine wp_appI (Operand.tmp 103) (Operand.tmp 106) rfl wz.heap.size (.slice wo j wc) j WM rfl HOW.out (.slice (some ⟨wr.heap.size, 0, none⟩) 1 1) rfl 1 _ (HSRW.out wr) hj9 hszW ?_; intro v11 w11 hown11 hg11 hv11; have HTR9 : Hid (Tr wz v9 v11 (.slice (some ⟨gf, 0, none⟩) nf fc) (R ++ [(x : Int)]) (W ++ [(tt : Int)]) (castF F) w11) := (HTW.out.app1 (by rw [HWl.out]) (by rw [← HWM.out]; exact hown11) hg11 hv11).swap12; clear hown11 hg11 hv11 HOW HSRW HTW; refine hK _ _ ?_; clear hK K)
                have HREL : Hid (Ro2 wz i v9 v11 (.slice (some ⟨gf, 0, none⟩) nf fc) (.int .i64 ((j : Int) + 1)) w11) := by
                  have h9 := HRT.out.more HCL.out HOK.out hr2k
                  rw [← HX.out, ← HH2.out, ← HSE.out.1, ← HTT.out] at h9
                  have h8 := HAF.out
                  rw [h8] at h9
                  refine ⟨j + 1, R ++ [(x : Int)], W ++ [(tt : Int)], _, hj20, by rw [List.length_append, HRl.out]; rfl, by rw [List.length_append, HWl.out]; rfl, ?_, by go_num, ?_, h9⟩
                  · rw [← HNF.out]; omega
                  · exact HTR9.out
                clear HTR9 HSE HAF
                go_roundw
                case rel => exact HREL.out
                case measure => simp [intOf]; omega
              · have q4 : ((f : Int) != (h2 : Int)) = true := by
                  have : ¬ (f : Int) = (h2 : Int) := by omega
                  simpa using this
                have HREL3 : Hid (Ro3 F h2 wr (.int .i64 ((t : Int) + 1)) wr) := ⟨t + 1, htF, by go_num, fun y hy => by
                  by_cases e : y < t
                  · exact HNO.out y e
                  · obtain rfl : y = t := by omega
                    rw [HF9.out]; intro e2; injection e2 with e2; exact hfh e2, rfl⟩
                clear hfh
                go_wp2_with fail
                go_roundw
                case rel => exact HREL3.out
                case measure => simp [intOf]; omega
            · obtain rfl : t = nf := by omega
              have q3 : decide ((t : Int) < (t : Int)) = false := decide_eq_false (by omega)
              have q5 : ((t : Int) == (t : Int)) = true := by simp
              have HSE : Hid (t = idx F h2 ∧ (t = F.length ↔ h2 ∉ F)) := idx_search (by rw [← HNF.out]; omega) HNO.out (.inl HNF.out)
              have HAF : Hid (addF F h2 = F ++ [h2]) := by
                have h9 := HSE.out.2
                unfold addF
                show (if h2 ∈ F then F else F ++ [h2]) = F ++ [h2]
                rw [if_neg (h9.1 HNF.out)]
              have hA1 : Below wr.heap.size wr (wr.alloc (.cells #[.int .i64 (h2 : Int)] 3)) := (Below.refl _ _).alloc (Nat.le_refl _) _
              have HT3 := Lib.hid (HTR2.out.swap13)
              have HSRF := Lib.hid (srcA_one (d := .int .i64 (h2 : Int)) (T := 3) (alloc_at wr (.cells #[.int .i64 (h2 : Int)] 3)) rfl 1)
              obtain ⟨FM, hFM⟩ : ∃ FM, FM = (castF F).map (Value.int .i64) := ⟨_, rfl⟩
              have HFM := Lib.hid hFM
              have HOF : Hid ((wr.alloc (.cells #[.int .i64 (h2 : Int)] 3)).ownsRow wz.heap.size 3 1 (.slice fo t fc) t FM) := by
                have := own_below HT3.out.o1 hA1
                rw [castF_len, ← HNF.out] at this
                show World.ownsRow _ _ _ _ _ _ _
                rw [hFM]; exact this
              have hszF : wz.heap.size ≤ (wr.alloc (.cells #[.int .i64 (h2 : Int)] 3)).heap.size := by have := HT3.out.bel.size; have := hA1.size; omega
              have hnf9 : t + 1 ≤ 1000000000 := by omega
              clear hA1 hFM HTR2
              go_wp2_with (first | (refine wpList_wantedR (by rfl) fun K hK => ?_
                                    refine wp_appI (Operand.tmp 98) (Operand.tmp 101) rfl wz.heap.size (.slice fo t fc) t FM rfl HOF.out (.slice (some ⟨wr.heap.size, 0, none⟩) 1 1) rfl 1 _ HSRF.out hnf9 hszF ?_
                                    intro v10 w10 hown10 hg10 hv10
                                    have HTR3 : Hid (Tr wz v9 (.slice wo j wc) v10 (R ++ [(x : Int)]) W (castF F ++ [(h2 : Int)]) w10) := (HT3.out.app1 (by rw [castF_len, ← HNF.out]) (by rw [← HFM.out]; exact hown10) hg10 hv10).swap13
                                    clear hown10 hg10 hv10 HOF HSRF HT3
                                    have hcast : castF F ++ [(h2 : Int)] = castF (F ++ [h2]) := by simp [castF]
                                    have HTR4 : Hid (Tr wz v9 (.slice wo j wc) v10 (R ++ [(x : Int)]) W (castF (F ++ [h2])) w10) := by
                                      have := HTR3.out
                                      rw [hcast] at this; exact this
                                    clear HTR3 hcast
                                    have h2t : (2 : Int) * (t : Int) = ((2 * t : Nat) : Int) := by omega
                                    obtain ⟨tt, htt⟩ : ∃ tt : Nat, tt = 2 * t := ⟨_, rfl⟩
                                    rw [← htt] at h2t
                                    have HTT := Lib.hid htt
                                    clear htt
                                    have HTW := Lib.hid (HTR4.out.swap12)
                                    have HSRW := Lib.hid (fun (wq : World) => srcA_one (d := .int .i64 (tt : Int)) (T := 3) (alloc_at wq (.cells #[.int .i64 (tt : Int)] 3)) rfl 1)
                                    have hAW : Below w10.heap.size w10 (w10.alloc (.cells #[.int .i64 (tt : Int)] 3)) := (Below.refl _ _).alloc (Nat.le_refl _) _
                                    have hszW : wz.heap.size ≤ (w10.alloc (.cells #[.int .i64 (tt : Int)] 3)).heap.size := by have := HTW.out.bel.size; have := hAW.size; omega
                                    obtain ⟨WM, hWM⟩ : ∃ WM, WM = W.map (Value.int .i64) := ⟨_, rfl⟩
                                    have HWM := Lib.hid hWM
                                    have HOW : Hid ((w10.alloc (.cells #[.int .i64 (tt : Int)] 3)).ownsRow wz.heap.size 3 1 (.slice wo j wc) j WM) := by
                                      have := own_below HTW.out.o1 hAW
                                      rw [HWl.out] at this
                                      show World.ownsRow _ _ _ _ _ _ _
                                      rw [hWM]; exact this
                                    clear hAW hWM
                                    clear HTR4
                                    refine hK _ _ ?_
                                    clear hK K) | (refine wpList_wantedR (by rfl) fun K hK => ?_; refine wp_appI (Operand.tmp 103) (Operand.tmp 106) rfl wz.heap.size (.slice wo j wc) j WM rfl HOW.out (.slice (some ⟨w10.heap.size, 0, none⟩) 1 1) rfl 1 _ (HSRW.out w10) hj9 hszW ?_; intro v11 w11 hown11 hg11 hv11; have HTR9 : Hid (Tr wz v9 v11 v10 (R ++ [(x : Int)]) (W ++ [(tt : Int)]) (castF (F ++ [h2])) w11) := (HTW.out.app1 (by rw [HWl.out]) (by rw [← HWM.out]; exact hown11) hg11 hv11).swap12; clear hown11 hg11 hv11 HOW HSRW HTW; refine hK _ _ ?_; clear hK K))
              clear HNO
              have HREL : Hid (Ro2 wz i v9 v11 v10 (.int .i64 ((j : Int) + 1)) w11) := by
                have h9 := HRT.out.more HCL.out HOK.out hr2k
                rw [← HX.out, ← HH2.out, ← HSE.out.1, ← HTT.out] at h9
                have h8 := HAF.out
                rw [h8] at h9
                refine ⟨j + 1, R ++ [(x : Int)], W ++ [(tt : Int)], _, hj20, by rw [List.length_append, HRl.out]; rfl, by rw [List.length_append, HWl.out]; rfl, ?_, by go_num, ?_, h9⟩
                · rw [List.length_append, ← HNF.out]; show t + 1 ≤ j + 1; omega
                · exact HTR9.out
              clear HTR9 HSE HAF
              go_roundw
              case rel => exact HREL.out
              case measure => simp [intOf]; omega
        · have HTR1 : Hid (Tr wz (.slice ro j rc) (.slice wo j wc) (.slice fo nf fc) R W (castF F) wr) := by
            have := HTR.out
            rw [HRl.out, HWl.out, castF_len, ← HNF.out] at this; exact this
          have HISR : Hid (IsS wr (.slice ro j rc) R) := own_isS HTR1.out.o1
          have HISW : Hid (IsS wr (.slice wo j wc) W) := own_isS HTR1.out.o2
          have HLz := (HK.out wz (Below.refl _ _)).1
          have HAP : Hid (Apart (.slice ro j rc) b G) := apart_own2 HLz.hp.1.lt (fun k hk => (HLz.hp.1.glt k hk).1) HTR1.out.o1
          have HGC := Lib.hid (HRT.out.gc HCL.out HOK.out)
          have F16 := Lib.hid (collect_yes HLr.out.hp 1 (by omega) (.slice ro j rc) R HISR.out HAP.out (by rw [HRl.out]; omega) (HRT.out.vds HCL.out HOK.out))
          clear HLz HTR HISR HAP HOr HK
          by_cases hjl : j < len
          · have q1 : decide ((j : Int) < (len : Int)) = true := decide_eq_true (by omega)
            have q2 : decide ((j : Int) < 20) = false := decide_eq_false (by omega)
            go_wp2_with fail
            refine F16.out.mono ?_
            rintro e w4 hr
            obtain ⟨b4, g4, G4, rfl, ha4, hb4, -, -⟩ := HLr.out.gc hr
            obtain ⟨h4, -, hi4, -⟩ := ha4
            rw [HGC.out.1] at hi4
            rw [HRl.out]
            have H4 := Lib.hid h4
            have HIG : Hid (IsS w4 (.slice (some ⟨g4, 0, none⟩) j j) W) := by have := block_isS hi4; rw [HWl.out] at this; exact this
            have F18 := Lib.hid (ints_eq HIG.out (HISW.out.below hb4) (by rw [HWl.out]; omega))
            have HOF4 : Hid (w4.ownsRow wz.heap.size 3 1 (.slice fo nf fc) nf ((castF F).map (Value.int .i64))) := by
              have := own_below HTR1.out.o3 hb4
              rw [castF_len, ← HNF.out] at this; exact this
            have F20 : Hid (∀ W, Below w4.heap.size w4 W → Calls Try.prog 20 #[.pointer (some ⟨b4, 0, none⟩)] W fun e w' => e = .returned (.int .i64 ((2 * nf : Nat) : Int)) ∧ W = w') := fun W hb => by
              have := used_any (H4.out.below hb).hp.1; rw [wds_length, HGC.out.2.1, ← HNF.out] at this; exact this
            have FN := Lib.hid (fun (W : World) (hb : Below w4.heap.size w4 W) (i : Nat) (hi : i ≤ 20) => nums_o (H4.out.below hb).hp ((2 * i : Nat) : Int) (by omega) (by omega))
            have hnf20 : nf ≤ 20 := by omega
            have h2nf : (2 : Int) * (nf : Int) = ((2 * nf : Nat) : Int) := by omega
            obtain ⟨N2, hN2⟩ : ∃ N2 : Nat, N2 = 2 * nf := ⟨_, rfl⟩
            rw [← hN2] at F20 h2nf
            have qnn : ((N2 : Int) != (N2 : Int)) = false := by simp
            have HB4 := Lib.hid (H4.out.bel)
            clear F16 hr hb4 h4 hi4 HISW HIG HTR1 hN2 HLr HRT HRl HWl
            go_wp2_with fail
            refine F18.out.mono ?_
            rintro e w5 ⟨rfl, hb5⟩
            have HB5 := Lib.hid hb5
            clear hb5 F18
            go_wp2_with fail
            refine (F20.out w5 HB5.out).mono ?_
            rintro e w6 ⟨rfl, rfl⟩
            clear F20
            have H0 : Hid (Ro4 w4 nf (.int .i64 0) w5) := ⟨0, Nat.zero_le _, rfl, HB5.out⟩
            clear HB5
            go_wp2_with fail
            go_loopw [22] (fun iv wr => Ro4 w4 nf iv wr) (fun iv _ => nf - (intOf iv).toNat)
            case atStart => exact H0.out
            case round =>
              clear H0
              obtain ⟨t, ht, rfl, hbt⟩ := hrel
              have HB6 := Lib.hid hbt
              by_cases htf : t < nf
              · have q3 : decide ((t : Int) < (nf : Int)) = true := decide_eq_true (by omega)
                have hof := own_below HOF4.out hbt
                obtain ⟨gf, cf, e7, -, hgf, -, hcf⟩ := own_at hof (by omega)
                injection e7 with e7 e8 e9
                subst e7
                clear e8 e9
                have htF : t < F.length := by rw [← HNF.out]; exact htf
                have ct := hcf t (by rw [castF_len]; exact htF)
                rw [castF_get F t (by rw [castF_len]; exact htF) htF] at ct
                obtain ⟨f, hf⟩ : ∃ f, f = F[t] := ⟨_, rfl⟩
                rw [← hf] at ct
                have F24 := Lib.hid (fun (W : World) (hb : Below wr.heap.size wr W) => FN.out W (HB6.out.trans (hb.mono HB6.out.size)) t (by omega))
                rw [HGC.out.2.2 t f (by rw [List.getElem?_eq_getElem htF, hf])] at F24
                have h2t : (2 : Int) * (t : Int) = ((2 * t : Nat) : Int) := by omega
                obtain ⟨tt, htt⟩ : ∃ tt : Nat, tt = 2 * t := ⟨_, rfl⟩
                rw [← htt] at F24 h2t
                have htt40 : tt ≤ 40 := by omega
                have hwt : IntKind.i64.wrap (tt : Int) = (tt : Int) := by rw [IntKind.wrap_i64]; omega
                have hA : Hid (∀ W : World, Below W.heap.size W (W.alloc (.cells #[.int .i64 (f : Int)] 3))) := fun W => (Below.refl _ _).alloc (Nat.le_refl _) _
                go_wp2_with fail
                have HX : Hid (Below wr.heap.size wr wr.drew) := (Below.refl wr.heap.size wr).drew
                have cX : wr.drew.cell? ⟨gf, t, none⟩ = some (.int .i64 (f : Int)) := ct
                have hgX : gf < wr.drew.heap.size := hgf
                have HBX : Hid (Below w4.heap.size w4 wr.drew) := HB6.out.trans (HX.out.mono HB6.out.size)
                clear hof hcf hf htt hbt HB6
                refine wp_region_noPanic ?_
                refine wp_region_held_drew (S := fun W => W.cell? ⟨gf, t, none⟩ = some (.int .i64 (f : Int))) (by kernel_rfl) cX (fun hHeld => ?_)
                generalize wr.drew = X at HX cX hgX HBX hHeld ⊢
                refine wpAnyH_take (i := 0) (v := ?v0) rfl (by kernel_rfl) (by kernel_rfl) (by kernel_rfl) (fun _ _ _ h => h) (Or.inl ⟨rfl, fun w' hw' => ?h0⟩) hHeld ?r0
                case h0 =>
                  (go_simp; try omega)
                  try with_reducible rfl
                simp only [List.getElem_toArray, List.getElem_cons_succ, List.getElem_cons_zero, Act.put, List.setIfInBounds_toArray, List.set_cons_zero, List.set_cons_succ]
                refine wpAnyH_take (i := 1) (v := ?v1) rfl (by kernel_rfl) (by kernel_rfl) (by kernel_rfl) (fun _ _ _ h => h) (Or.inl ⟨rfl, fun w' hw' => ?h1⟩) hHeld ?r1
                case h1 =>
                  (go_simp; try omega)
                  try with_reducible rfl
                simp only [List.getElem_toArray, List.getElem_cons_succ, List.getElem_cons_zero, Act.put, List.setIfInBounds_toArray, List.set_cons_zero, List.set_cons_succ]
                refine wpAnyH_take (i := 2) (v := Value.int .i64 (tt : Int)) rfl (by kernel_rfl) (by kernel_rfl) (by kernel_rfl) (fun _ _ _ h => h) (Or.inl ⟨rfl, fun w' hw' => ?_⟩) hHeld ?_
                · (go_simp; try exact hwt)
                simp only [List.getElem_toArray, List.getElem_cons_succ, List.getElem_cons_zero, Act.put, List.setIfInBounds_toArray, List.set_cons_zero, List.set_cons_succ]
                refine wpAnyH_take (i := 4) (v := ?v3) rfl (by kernel_rfl) (by kernel_rfl) (by kernel_rfl) (fun _ _ _ h => h) (Or.inl ⟨rfl, fun w' hw' => ?h3⟩) hHeld ?r3
                case h3 =>
                  (go_simp; try omega)
                  try with_reducible rfl
                simp only [List.getElem_toArray, List.getElem_cons_succ, List.getElem_cons_zero, Act.put, List.setIfInBounds_toArray, List.set_cons_zero, List.set_cons_succ]
                refine wpAnyH_take (i := 5) (v := ?v4) rfl (by kernel_rfl) (by kernel_rfl) (by kernel_rfl) (fun _ _ _ h => h) (Or.inl ⟨rfl, fun w' hw' => ?h4⟩) hHeld ?r4
                case h4 =>
                  (go_simp; try omega)
                  try with_reducible rfl
                simp only [List.getElem_toArray, List.getElem_cons_succ, List.getElem_cons_zero, Act.put, List.setIfInBounds_toArray, List.set_cons_zero, List.set_cons_succ]
                refine wpAnyH_take (i := 6) (v := Value.pointer (some ⟨gf, t, none⟩)) rfl (by kernel_rfl) (by kernel_rfl) (by kernel_rfl) (fun _ _ _ h => h) (Or.inl ⟨rfl, fun w' hw' => ?_⟩) hHeld ?_
                · (go_simp; try omega)
                simp only [List.getElem_toArray, List.getElem_cons_succ, List.getElem_cons_zero, Act.put, List.setIfInBounds_toArray, List.set_cons_zero, List.set_cons_succ]
                refine wpAnyH_take (i := 7) (v := ?v6) rfl (by kernel_rfl) (by kernel_rfl) (by kernel_rfl) (fun _ _ _ h => h) (Or.inl ⟨rfl, fun w' hw' => ?h6⟩) hHeld ?r6
                case h6 =>
                  (obtain d0 := hw'; go_simp)
                  try with_reducible rfl
                simp only [List.getElem_toArray, List.getElem_cons_succ, List.getElem_cons_zero, Act.put, List.setIfInBounds_toArray, List.set_cons_zero, List.set_cons_succ]
                refine wpAnyH_ready (rs := [3, 8]) (by kernel_rfl) (by simp) ?_
                refine (AllReadyH.cons rfl (fun K hK => ?_) (AllReadyH.cons rfl (fun K hK => ?_) AllReadyH.nil))
                · skip
                  go_simp
                  refine (F24.out X HX.out).mono ?_
                  rintro e9 w6 hr6
                  obtain ⟨no, nc, rfl, hown6, hb6⟩ := hr6.form
                  have HI6 := Lib.hid (own_isS hown6)
                  have HB7 : Hid (Below w4.heap.size w4 w6) := HBX.out.trans (hb6.mono HBX.out.size)
                  have c7 := (hb6.cell (p := ⟨gf, t, none⟩) hgX).trans cX
                  have hg7 : gf < w6.heap.size := Nat.lt_of_lt_of_le hgX hb6.size
                  clear hr6 hown6 hb6 cX hgX HBX F24
                  refine hK.out _ _ c7 (fun hHeld => ?_)
                  clear hK K
                  try simp only [List.getElem_toArray, List.getElem_cons_succ, List.getElem_cons_zero, Act.put, List.setIfInBounds_toArray, List.set_cons_zero, List.set_cons_succ]
                  refine wpAnyH_ready (rs := [8]) (by kernel_rfl) (by simp) ?_
                  refine (AllReadyH.cons rfl (fun K hK => ?_) AllReadyH.nil)
                  go_simp
                  have F18 := Lib.hid (ints_eq (HI6.out.below (hA.out w6)) (one_isS w6 f) (by simp))
                  have HB8 : Hid (Below w4.heap.size w4 (w6.alloc (.cells #[.int .i64 (f : Int)] 3))) := HB7.out.trans ((hA.out w6).mono HB7.out.size)
                  have c8 := ((hA.out w6).cell (p := ⟨gf, t, none⟩) hg7).trans c7
                  have hg8 : gf < (w6.alloc (.cells #[.int .i64 (f : Int)] 3)).heap.size := Nat.lt_of_lt_of_le hg7 (hA.out w6).size
                  clear HI6 HB7 c7 hg7
                  refine hK.out _ _ c8 (fun hHeld => ?_)
                  clear hK K
                  try simp only [List.getElem_toArray, List.getElem_cons_succ, List.getElem_cons_zero, Act.put, List.setIfInBounds_toArray, List.set_cons_zero, List.set_cons_succ]
                  refine wpAnyH_ready (rs := [9]) (by kernel_rfl) (by simp) ?_
                  refine (AllReadyH.cons rfl (fun K hK => ?_) AllReadyH.nil)
                  go_simp
                  refine F18.out.mono ?_
                  rintro e9 w7 ⟨rfl, hb7⟩
                  have HREL : Hid (Ro4 w4 nf (.int .i64 ((t : Int) + 1)) w7) := ⟨t + 1, htf, by go_num, HB8.out.trans (hb7.mono HB8.out.size)⟩
                  have c9 := (hb7.cell (p := ⟨gf, t, none⟩) hg8).trans c8
                  clear F18 HB8 hb7 c8 hg8
                  refine hK.out _ _ c9 (fun hHeld => ?_)
                  clear c9
                  clear hK K
                  try simp only [List.getElem_toArray, List.getElem_cons_succ, List.getElem_cons_zero, Act.put, List.setIfInBounds_toArray, List.set_cons_zero, List.set_cons_succ]
                  refine wpAnyH_take (i := 10) (v := ?v7) rfl (by kernel_rfl) (by kernel_rfl) (by kernel_rfl) (fun _ _ _ h => h) (Or.inl ⟨rfl, fun w' hw' => ?h7⟩) hHeld ?r7
                  case h7 =>
                    (go_simp; try omega)
                    try with_reducible rfl
                  simp only [List.getElem_toArray, List.getElem_cons_succ, List.getElem_cons_zero, Act.put, List.setIfInBounds_toArray, List.set_cons_zero, List.set_cons_succ]
                  refine wpAnyH_done (by kernel_rfl) ?_ _
                  refine NoPanic.normal ?_
                  clear hHeld
                  go_wp2_with fail
                  go_roundw
                  case rel => exact HREL.out
                  case measure => simp [intOf]; omega
                · skip
                  go_simp
                  have c7 := ((hA.out X).cell (p := ⟨gf, t, none⟩) hgX).trans cX
                  have hg7 : gf < (X.alloc (.cells #[.int .i64 (f : Int)] 3)).heap.size := Nat.lt_of_lt_of_le hgX (hA.out X).size
                  clear cX hgX
                  refine hK.out _ _ c7 (fun hHeld => ?_)
                  clear hK K
                  try simp only [List.getElem_toArray, List.getElem_cons_succ, List.getElem_cons_zero, Act.put, List.setIfInBounds_toArray, List.set_cons_zero, List.set_cons_succ]
                  refine wpAnyH_ready (rs := [3]) (by kernel_rfl) (by simp) ?_
                  refine (AllReadyH.cons rfl (fun K hK => ?_) AllReadyH.nil)
                  go_simp
                  refine (F24.out (X.alloc (.cells #[.int .i64 (f : Int)] 3)) (HX.out.trans ((hA.out X).mono HX.out.size))).mono ?_
                  rintro e9 w6 hr6
                  obtain ⟨no, nc, rfl, hown6, hb6⟩ := hr6.form
                  have F18 := Lib.hid (ints_eq (own_isS hown6) ((one_isS X f).below hb6) (by simp))
                  have HB8 : Hid (Below w4.heap.size w4 w6) := (HBX.out.trans ((hA.out X).mono HBX.out.size)).trans (hb6.mono (Nat.le_trans HBX.out.size (hA.out X).size))
                  have c8 := (hb6.cell (p := ⟨gf, t, none⟩) hg7).trans c7
                  have hg8 : gf < w6.heap.size := Nat.lt_of_lt_of_le hg7 hb6.size
                  clear hr6 hown6 hb6 HBX c7 hg7 F24
                  refine hK.out _ _ c8 (fun hHeld => ?_)
                  clear hK K
                  try simp only [List.getElem_toArray, List.getElem_cons_succ, List.getElem_cons_zero, Act.put, List.setIfInBounds_toArray, List.set_cons_zero, List.set_cons_succ]
                  refine wpAnyH_ready (rs := [9]) (by kernel_rfl) (by simp) ?_
                  refine (AllReadyH.cons rfl (fun K hK => ?_) AllReadyH.nil)
                  go_simp
                  refine F18.out.mono ?_
                  rintro e9 w7 ⟨rfl, hb7⟩
                  have HREL : Hid (Ro4 w4 nf (.int .i64 ((t : Int) + 1)) w7) := ⟨t + 1, htf, by go_num, HB8.out.trans (hb7.mono HB8.out.size)⟩
                  have c9 := (hb7.cell (p := ⟨gf, t, none⟩) hg8).trans c8
                  clear F18 HB8 hb7 c8 hg8
                  refine hK.out _ _ c9 (fun hHeld => ?_)
                  clear c9
                  clear hK K
                  try simp only [List.getElem_toArray, List.getElem_cons_succ, List.getElem_cons_zero, Act.put, List.setIfInBounds_toArray, List.set_cons_zero, List.set_cons_succ]
                  refine wpAnyH_take (i := 10) (v := ?v8) rfl (by kernel_rfl) (by kernel_rfl) (by kernel_rfl) (fun _ _ _ h => h) (Or.inl ⟨rfl, fun w' hw' => ?h8⟩) hHeld ?r8
                  case h8 =>
                    (go_simp; try omega)
                    try with_reducible rfl
                  simp only [List.getElem_toArray, List.getElem_cons_succ, List.getElem_cons_zero, Act.put, List.setIfInBounds_toArray, List.set_cons_zero, List.set_cons_succ]
                  refine wpAnyH_done (by kernel_rfl) ?_ _
                  refine NoPanic.normal ?_
                  clear hHeld
                  go_wp2_with fail
                  go_roundw
                  case rel => exact HREL.out
                  case measure => simp [intOf]; omega
              · obtain rfl : t = nf := by omega
                have q3 : decide ((t : Int) < (t : Int)) = false := decide_eq_false (by omega)
                have HE := Lib.hid (HB4.out.trans (hbt.mono HB4.out.size))
                clear hbt
                go_wp2_with fail
                go_ret
                exact ⟨rfl, HE.out⟩
          · have q1 : decide ((j : Int) < (len : Int)) = false := decide_eq_false (by omega)
            go_wp2_with fail
            refine F16.out.mono ?_
            rintro e w4 hr
            obtain ⟨b4, g4, G4, rfl, ha4, hb4, -, -⟩ := HLr.out.gc hr
            obtain ⟨h4, -, hi4, -⟩ := ha4
            rw [HGC.out.1] at hi4
            rw [HRl.out]
            have H4 := Lib.hid h4
            have HIG : Hid (IsS w4 (.slice (some ⟨g4, 0, none⟩) j j) W) := by have := block_isS hi4; rw [HWl.out] at this; exact this
            have F18 := Lib.hid (ints_eq HIG.out (HISW.out.below hb4) (by rw [HWl.out]; omega))
            have HOF4 : Hid (w4.ownsRow wz.heap.size 3 1 (.slice fo nf fc) nf ((castF F).map (Value.int .i64))) := by
              have := own_below HTR1.out.o3 hb4
              rw [castF_len, ← HNF.out] at this; exact this
            have F20 : Hid (∀ W, Below w4.heap.size w4 W → Calls Try.prog 20 #[.pointer (some ⟨b4, 0, none⟩)] W fun e w' => e = .returned (.int .i64 ((2 * nf : Nat) : Int)) ∧ W = w') := fun W hb => by
              have := used_any (H4.out.below hb).hp.1; rw [wds_length, HGC.out.2.1, ← HNF.out] at this; exact this
            have FN := Lib.hid (fun (W : World) (hb : Below w4.heap.size w4 W) (i : Nat) (hi : i ≤ 20) => nums_o (H4.out.below hb).hp ((2 * i : Nat) : Int) (by omega) (by omega))
            have hnf20 : nf ≤ 20 := by omega
            have h2nf : (2 : Int) * (nf : Int) = ((2 * nf : Nat) : Int) := by omega
            obtain ⟨N2, hN2⟩ : ∃ N2 : Nat, N2 = 2 * nf := ⟨_, rfl⟩
            rw [← hN2] at F20 h2nf
            have qnn : ((N2 : Int) != (N2 : Int)) = false := by simp
            have HB4 := Lib.hid (H4.out.bel)
            clear F16 hr hb4 h4 hi4 HISW HIG HTR1 hN2 HLr HRT HRl HWl
            go_wp2_with fail
            refine F18.out.mono ?_
            rintro e w5 ⟨rfl, hb5⟩
            have HB5 := Lib.hid hb5
            clear hb5 F18
            go_wp2_with fail
            refine (F20.out w5 HB5.out).mono ?_
            rintro e w6 ⟨rfl, rfl⟩
            clear F20
            have H0 : Hid (Ro4 w4 nf (.int .i64 0) w5) := ⟨0, Nat.zero_le _, rfl, HB5.out⟩
            clear HB5
            go_wp2_with fail
            go_loopw [22] (fun iv wr => Ro4 w4 nf iv wr) (fun iv _ => nf - (intOf iv).toNat)
            case atStart => exact H0.out
            case round =>
              clear H0
              obtain ⟨t, ht, rfl, hbt⟩ := hrel
              have HB6 := Lib.hid hbt
              by_cases htf : t < nf
              · have q3 : decide ((t : Int) < (nf : Int)) = true := decide_eq_true (by omega)
                have hof := own_below HOF4.out hbt
                obtain ⟨gf, cf, e7, -, hgf, -, hcf⟩ := own_at hof (by omega)
                injection e7 with e7 e8 e9
                subst e7
                clear e8 e9
                have htF : t < F.length := by rw [← HNF.out]; exact htf
                have ct := hcf t (by rw [castF_len]; exact htF)
                rw [castF_get F t (by rw [castF_len]; exact htF) htF] at ct
                obtain ⟨f, hf⟩ : ∃ f, f = F[t] := ⟨_, rfl⟩
                rw [← hf] at ct
                have F24 := Lib.hid (fun (W : World) (hb : Below wr.heap.size wr W) => FN.out W (HB6.out.trans (hb.mono HB6.out.size)) t (by omega))
                rw [HGC.out.2.2 t f (by rw [List.getElem?_eq_getElem htF, hf])] at F24
                have h2t : (2 : Int) * (t : Int) = ((2 * t : Nat) : Int) := by omega
                obtain ⟨tt, htt⟩ : ∃ tt : Nat, tt = 2 * t := ⟨_, rfl⟩
                rw [← htt] at F24 h2t
                have htt40 : tt ≤ 40 := by omega
                have hwt : IntKind.i64.wrap (tt : Int) = (tt : Int) := by rw [IntKind.wrap_i64]; omega
                have hA : Hid (∀ W : World, Below W.heap.size W (W.alloc (.cells #[.int .i64 (f : Int)] 3))) := fun W => (Below.refl _ _).alloc (Nat.le_refl _) _
                go_wp2_with fail
                have HX : Hid (Below wr.heap.size wr wr.drew) := (Below.refl wr.heap.size wr).drew
                have cX : wr.drew.cell? ⟨gf, t, none⟩ = some (.int .i64 (f : Int)) := ct
                have hgX : gf < wr.drew.heap.size := hgf
                have HBX : Hid (Below w4.heap.size w4 wr.drew) := HB6.out.trans (HX.out.mono HB6.out.size)
                clear hof hcf hf htt hbt HB6
                refine wp_region_noPanic ?_
                refine wp_region_held_drew (S := fun W => W.cell? ⟨gf, t, none⟩ = some (.int .i64 (f : Int))) (by kernel_rfl) cX (fun hHeld => ?_)
                generalize wr.drew = X at HX cX hgX HBX hHeld ⊢
                refine wpAnyH_take (i := 0) (v := ?v9) rfl (by kernel_rfl) (by kernel_rfl) (by kernel_rfl) (fun _ _ _ h => h) (Or.inl ⟨rfl, fun w' hw' => ?h9⟩) hHeld ?r9
                case h9 =>
                  (go_simp; try omega)
                  try with_reducible rfl
                simp only [List.getElem_toArray, List.getElem_cons_succ, List.getElem_cons_zero, Act.put, List.setIfInBounds_toArray, List.set_cons_zero, List.set_cons_succ]
                refine wpAnyH_take (i := 1) (v := ?v10) rfl (by kernel_rfl) (by kernel_rfl) (by kernel_rfl) (fun _ _ _ h => h) (Or.inl ⟨rfl, fun w' hw' => ?h10⟩) hHeld ?r10
                case h10 =>
                  (go_simp; try omega)
                  try with_reducible rfl
                simp only [List.getElem_toArray, List.getElem_cons_succ, List.getElem_cons_zero, Act.put, List.setIfInBounds_toArray, List.set_cons_zero, List.set_cons_succ]
                refine wpAnyH_take (i := 2) (v := Value.int .i64 (tt : Int)) rfl (by kernel_rfl) (by kernel_rfl) (by kernel_rfl) (fun _ _ _ h => h) (Or.inl ⟨rfl, fun w' hw' => ?_⟩) hHeld ?_
                · (go_simp; try exact hwt)
                simp only [List.getElem_toArray, List.getElem_cons_succ, List.getElem_cons_zero, Act.put, List.setIfInBounds_toArray, List.set_cons_zero, List.set_cons_succ]
                refine wpAnyH_take (i := 4) (v := ?v12) rfl (by kernel_rfl) (by kernel_rfl) (by kernel_rfl) (fun _ _ _ h => h) (Or.inl ⟨rfl, fun w' hw' => ?h12⟩) hHeld ?r12
                case h12 =>
                  (go_simp; try omega)
                  try with_reducible rfl
                simp only [List.getElem_toArray, List.getElem_cons_succ, List.getElem_cons_zero, Act.put, List.setIfInBounds_toArray, List.set_cons_zero, List.set_cons_succ]
                refine wpAnyH_take (i := 5) (v := ?v13) rfl (by kernel_rfl) (by kernel_rfl) (by kernel_rfl) (fun _ _ _ h => h) (Or.inl ⟨rfl, fun w' hw' => ?h13⟩) hHeld ?r13
                case h13 =>
                  (go_simp; try omega)
                  try with_reducible rfl
                simp only [List.getElem_toArray, List.getElem_cons_succ, List.getElem_cons_zero, Act.put, List.setIfInBounds_toArray, List.set_cons_zero, List.set_cons_succ]
                refine wpAnyH_take (i := 6) (v := Value.pointer (some ⟨gf, t, none⟩)) rfl (by kernel_rfl) (by kernel_rfl) (by kernel_rfl) (fun _ _ _ h => h) (Or.inl ⟨rfl, fun w' hw' => ?_⟩) hHeld ?_
                · (go_simp; try omega)
                simp only [List.getElem_toArray, List.getElem_cons_succ, List.getElem_cons_zero, Act.put, List.setIfInBounds_toArray, List.set_cons_zero, List.set_cons_succ]
                refine wpAnyH_take (i := 7) (v := ?v15) rfl (by kernel_rfl) (by kernel_rfl) (by kernel_rfl) (fun _ _ _ h => h) (Or.inl ⟨rfl, fun w' hw' => ?h15⟩) hHeld ?r15
                case h15 =>
                  (obtain d0 := hw'; go_simp)
                  try with_reducible rfl
                simp only [List.getElem_toArray, List.getElem_cons_succ, List.getElem_cons_zero, Act.put, List.setIfInBounds_toArray, List.set_cons_zero, List.set_cons_succ]
                refine wpAnyH_ready (rs := [3, 8]) (by kernel_rfl) (by simp) ?_
                refine (AllReadyH.cons rfl (fun K hK => ?_) (AllReadyH.cons rfl (fun K hK => ?_) AllReadyH.nil))
                · skip
                  go_simp
                  refine (F24.out X HX.out).mono ?_
                  rintro e9 w6 hr6
                  obtain ⟨no, nc, rfl, hown6, hb6⟩ := hr6.form
                  have HI6 := Lib.hid (own_isS hown6)
                  have HB7 : Hid (Below w4.heap.size w4 w6) := HBX.out.trans (hb6.mono HBX.out.size)
                  have c7 := (hb6.cell (p := ⟨gf, t, none⟩) hgX).trans cX
                  have hg7 : gf < w6.heap.size := Nat.lt_of_lt_of_le hgX hb6.size
                  clear hr6 hown6 hb6 cX hgX HBX F24
                  refine hK.out _ _ c7 (fun hHeld => ?_)
                  clear hK K
                  try simp only [List.getElem_toArray, List.getElem_cons_succ, List.getElem_cons_zero, Act.put, List.setIfInBounds_toArray, List.set_cons_zero, List.set_cons_succ]
                  refine wpAnyH_ready (rs := [8]) (by kernel_rfl) (by simp) ?_
                  refine (AllReadyH.cons rfl (fun K hK => ?_) AllReadyH.nil)
                  go_simp
                  have F18 := Lib.hid (ints_eq (HI6.out.below (hA.out w6)) (one_isS w6 f) (by simp))
                  have HB8 : Hid (Below w4.heap.size w4 (w6.alloc (.cells #[.int .i64 (f : Int)] 3))) := HB7.out.trans ((hA.out w6).mono HB7.out.size)
                  have c8 := ((hA.out w6).cell (p := ⟨gf, t, none⟩) hg7).trans c7
                  have hg8 : gf < (w6.alloc (.cells #[.int .i64 (f : Int)] 3)).heap.size := Nat.lt_of_lt_of_le hg7 (hA.out w6).size
                  clear HI6 HB7 c7 hg7
                  refine hK.out _ _ c8 (fun hHeld => ?_)
                  clear hK K
                  try simp only [List.getElem_toArray, List.getElem_cons_succ, List.getElem_cons_zero, Act.put, List.setIfInBounds_toArray, List.set_cons_zero, List.set_cons_succ]
                  refine wpAnyH_ready (rs := [9]) (by kernel_rfl) (by simp) ?_
                  refine (AllReadyH.cons rfl (fun K hK => ?_) AllReadyH.nil)
                  go_simp
                  refine F18.out.mono ?_
                  rintro e9 w7 ⟨rfl, hb7⟩
                  have HREL : Hid (Ro4 w4 nf (.int .i64 ((t : Int) + 1)) w7) := ⟨t + 1, htf, by go_num, HB8.out.trans (hb7.mono HB8.out.size)⟩
                  have c9 := (hb7.cell (p := ⟨gf, t, none⟩) hg8).trans c8
                  clear F18 HB8 hb7 c8 hg8
                  refine hK.out _ _ c9 (fun hHeld => ?_)
                  clear c9
                  clear hK K
                  try simp only [List.getElem_toArray, List.getElem_cons_succ, List.getElem_cons_zero, Act.put, List.setIfInBounds_toArray, List.set_cons_zero, List.set_cons_succ]
                  refine wpAnyH_take (i := 10) (v := ?v16) rfl (by kernel_rfl) (by kernel_rfl) (by kernel_rfl) (fun _ _ _ h => h) (Or.inl ⟨rfl, fun w' hw' => ?h16⟩) hHeld ?r16
                  case h16 =>
                    (go_simp; try omega)
                    try with_reducible rfl
                  simp only [List.getElem_toArray, List.getElem_cons_succ, List.getElem_cons_zero, Act.put, List.setIfInBounds_toArray, List.set_cons_zero, List.set_cons_succ]
                  refine wpAnyH_done (by kernel_rfl) ?_ _
                  refine NoPanic.normal ?_
                  clear hHeld
                  go_wp2_with fail
                  go_roundw
                  case rel => exact HREL.out
                  case measure => simp [intOf]; omega
                · skip
                  go_simp
                  have c7 := ((hA.out X).cell (p := ⟨gf, t, none⟩) hgX).trans cX
                  have hg7 : gf < (X.alloc (.cells #[.int .i64 (f : Int)] 3)).heap.size := Nat.lt_of_lt_of_le hgX (hA.out X).size
                  clear cX hgX
                  refine hK.out _ _ c7 (fun hHeld => ?_)
                  clear hK K
                  try simp only [List.getElem_toArray, List.getElem_cons_succ, List.getElem_cons_zero, Act.put, List.setIfInBounds_toArray, List.set_cons_zero, List.set_cons_succ]
                  refine wpAnyH_ready (rs := [3]) (by kernel_rfl) (by simp) ?_
                  refine (AllReadyH.cons rfl (fun K hK => ?_) AllReadyH.nil)
                  go_simp
                  refine (F24.out (X.alloc (.cells #[.int .i64 (f : Int)] 3)) (HX.out.trans ((hA.out X).mono HX.out.size))).mono ?_
                  rintro e9 w6 hr6
                  obtain ⟨no, nc, rfl, hown6, hb6⟩ := hr6.form
                  have F18 := Lib.hid (ints_eq (own_isS hown6) ((one_isS X f).below hb6) (by simp))
                  have HB8 : Hid (Below w4.heap.size w4 w6) := (HBX.out.trans ((hA.out X).mono HBX.out.size)).trans (hb6.mono (Nat.le_trans HBX.out.size (hA.out X).size))
                  have c8 := (hb6.cell (p := ⟨gf, t, none⟩) hg7).trans c7
                  have hg8 : gf < w6.heap.size := Nat.lt_of_lt_of_le hg7 hb6.size
                  clear hr6 hown6 hb6 HBX c7 hg7 F24
                  refine hK.out _ _ c8 (fun hHeld => ?_)
                  clear hK K
                  try simp only [List.getElem_toArray, List.getElem_cons_succ, List.getElem_cons_zero, Act.put, List.setIfInBounds_toArray, List.set_cons_zero, List.set_cons_succ]
                  refine wpAnyH_ready (rs := [9]) (by kernel_rfl) (by simp) ?_
                  refine (AllReadyH.cons rfl (fun K hK => ?_) AllReadyH.nil)
                  go_simp
                  refine F18.out.mono ?_
                  rintro e9 w7 ⟨rfl, hb7⟩
                  have HREL : Hid (Ro4 w4 nf (.int .i64 ((t : Int) + 1)) w7) := ⟨t + 1, htf, by go_num, HB8.out.trans (hb7.mono HB8.out.size)⟩
                  have c9 := (hb7.cell (p := ⟨gf, t, none⟩) hg8).trans c8
                  clear F18 HB8 hb7 c8 hg8
                  refine hK.out _ _ c9 (fun hHeld => ?_)
                  clear c9
                  clear hK K
                  try simp only [List.getElem_toArray, List.getElem_cons_succ, List.getElem_cons_zero, Act.put, List.setIfInBounds_toArray, List.set_cons_zero, List.set_cons_succ]
                  refine wpAnyH_take (i := 10) (v := ?v17) rfl (by kernel_rfl) (by kernel_rfl) (by kernel_rfl) (fun _ _ _ h => h) (Or.inl ⟨rfl, fun w' hw' => ?h17⟩) hHeld ?r17
                  case h17 =>
                    (go_simp; try omega)
                    try with_reducible rfl
                  simp only [List.getElem_toArray, List.getElem_cons_succ, List.getElem_cons_zero, Act.put, List.setIfInBounds_toArray, List.set_cons_zero, List.set_cons_succ]
                  refine wpAnyH_done (by kernel_rfl) ?_ _
                  refine NoPanic.normal ?_
                  clear hHeld
                  go_wp2_with fail
                  go_roundw
                  case rel => exact HREL.out
                  case measure => simp [intOf]; omega
              · obtain rfl : t = nf := by omega
                have q3 : decide ((t : Int) < (t : Int)) = false := decide_eq_false (by omega)
                have HE := Lib.hid (HB4.out.trans (hbt.mono HB4.out.size))
                clear hbt
                go_wp2_with fail
                go_ret
                exact ⟨rfl, HE.out⟩
end Go.Proofs.Ytjecjlnkpbbanaa
