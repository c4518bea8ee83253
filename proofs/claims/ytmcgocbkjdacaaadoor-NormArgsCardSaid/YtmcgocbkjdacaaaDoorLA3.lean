/- The walk of NormArgs. -/
import Derived.Test.YtmcgocbkjdacaaaDoorLA2
import Derived.Test.YtmcgocbkjdacaaaDoorTM1
namespace Go.Proofs.YtmcgocbkjdacaaaDoor
open Go.RowKit Go.BigM
set_option linter.unusedVariables false
set_option linter.unusedSimpArgs false
set_option maxHeartbeats 8000000 in
set_option maxRecDepth 100000 in
theorem args_false (ao0 : Option Addr) (len cap : Nat) (w : World) (hK : KsAt w ao0 len) (ht : Tab w) : Calls Tryd.prog 9 #[.slice ao0 len cap, .bool false] w (RetBool true w) := by
  have K0 := Lib.hid (known_any w ht)
  have KS := Lib.hid hK
  have HT := Lib.hid ht
  clear hK ht
  go_enter Tryd.func9, Tryd.ntmps9
  go_wp2_with fail
  refine K0.out.mono ?_
  rintro e w1 ⟨rfl, hb1⟩
  have HB1 := Lib.hid hb1
  clear hb1 K0
  go_wp2_with fail
  refine (var_any ⟨#[102]⟩ w1).mono ?_
  rintro e w2 ⟨rfl, hb2⟩
  have HB2 := Lib.hid (HB1.out.trans (hb2.mono HB1.out.size))
  replace KS := Lib.hid (KS.out.below HB2.out)
  replace HT := Lib.hid (HT.out.below HB2.out)
  have HS := Lib.hid (AInv.start_app w2)
  clear hb2 HB1
  go_upto_region 8 with fail
  generalize ((w2.alloc (.cells #[.int .i64 5, .string ⟨#[102]⟩, .slice none 0 0, .slice none 0 0] 28)).alloc (.cells #[.int .i64 7, .string ⟨#[]⟩, .slice none 0 0, .slice (some ⟨w2.heap.size, 0, none⟩) 1 1] 28)).alloc (.cells #[.int .i64 1, .string ⟨#[49]⟩, .slice none 0 0, .slice none 0 0] 28) = W at HS ⊢
  obtain ⟨B, hB⟩ : ∃ B, B = w2.heap.size := ⟨_, rfl⟩
  generalize w2.heap.size + 1 + 1 = go at HS ⊢
  generalize w2.heap.size + 1 = ge at HS ⊢
  clear hB
  clear B
  go_wp2_with fail
  go_loopw [8, 9, 10] (fun tv nv iv wr => LInv false 6 w2.heap.size w2 ge go tv nv iv wr) (fun _ _ iv _ => 6 - (intOf iv).toNat)
  case atStart => exact ⟨[], _, by simp, rfl, rfl, HS.out⟩
  case round =>
    obtain ⟨l, av, hl, rfl, rfl, M⟩ := hrel
    clear HS
    obtain ⟨ao5, ac5, hav⟩ := M.own.form
    obtain ⟨no5, nc5, hnv⟩ := own_form M.nam
    obtain ⟨np, hnp⟩ : ∃ np, (prt false l).length = np := ⟨_, rfl⟩
    obtain ⟨nn, hnn⟩ : ∃ nn, (nml 0 l).length = nn := ⟨_, rfl⟩
    rw [hnp] at hav
    rw [hnn] at hnv
    subst hav hnv
    have hthk := thk_le l
    have hml2 : np + 1 ≤ 1000000000 := by
      have hpl := prt_len false l
      simp only [if_true, Bool.false_eq_true, if_false] at hpl
      omega
    have hml3 : (nml 0 l).length + 1 ≤ 1000000 := by
      have hnl := nml_len l 0
      omega
    have HNP := Lib.hid hnp
    clear hnp hnn
    by_cases hlt : l.length < 6
    · have q1 : decide ((l.length : Int) < 6) = true := decide_eq_true (by omega)
      have KSR := KS.out.below M.bel
      by_cases hk : l.length < len
      · obtain ⟨x, z, rfl, hc, hz⟩ := KSR l.length hk
        have q2 : decide ((l.length : Int) < (len : Int)) = true := decide_eq_true (by omega)
        go_wp2_with fail
        refine (within18_some z 2 hz (by omega) (by omega) wr).mono ?_
        rintro r9 w5 ⟨r, hr2, rfl, rfl⟩
        clear hc hz KSR q2
        have hr01 : r = 0 ∨ r = 1 := by omega
        rcases hr01 with rfl | rfl
        · skip
          have hat : Et.At (fun x => wr.heap.size ≤ x) wr ko #[.int .i64 1, .string ⟨#[49]⟩, .slice none 0 0, .slice none 0 0] := leaf_at _ _ 1 ⟨#[49]⟩
          obtain ⟨xs, hx8, hB8, c3, hc9⟩ := M.part (Below.refl _ _) hat rfl
          rw [HNP.out] at hx8 hc9
          have HX8 := Lib.hid hx8
          have HC9 := Lib.hid hc9
          obtain ⟨f0, f1, f2, f3⟩ := EB.cell _ _ _ _ _ _ M.one
          have c3' := (EB.cell _ _ _ _ _ _ M.eb).2.2.2
          clear hx8 hc9 hat M
          go_upto_region 18 with (at_builtin; refine wpList_app rfl (Operand.tmp 40) (Operand.tmp 42) rfl w2.heap.size (.slice ao5 np ac5) np xs rfl HX8.out wr.heap.size 1 rfl (#[.int .i64 1, .string ⟨#[49]⟩, .slice none 0 0, .slice none 0 0] : Array Value).toList rfl (row_cellsT _ 28 _) (by intro u hu; simp at hu; rcases hu with rfl | rfl | rfl | rfl <;> rfl) hml2 hB8 ?_; intro av' w9 hown9 hg9 hv9; obtain ⟨ao', ac', rfl⟩ := own_form hown9; obtain ⟨c9, f9, hrest9⟩ := HC9.out _ _ hown9 hg9 hv9; have HRE := Lib.hid hrest9; clear hrest9 hown9 hg9 hv9)
          generalize w9.setCell ⟨ge, 3, none⟩ (.slice ao' (np + 1) ac') = w10 at HRE ⊢
          obtain ⟨hn8, hB9, hnt, hrs⟩ := HRE.out.name (Below.refl _ _) ⟨#[49]⟩
          have HN8 := Lib.hid hn8
          have HNT := Lib.hid hnt
          have HRS := Lib.hid hrs
          clear hn8 hnt hrs HRE c3 c3' f0 f1 f2 f3 c9 f9
          go_wp2_with (at_builtin; refine wpList_appNs rfl (Operand.tmp 45) (Operand.tmp 46) rfl w2.heap.size (.slice no5 nn nc5) (nml 0 l) rfl HN8.out _ [⟨#[49]⟩] rfl HNT.out hml3 hB9 ?_; intro nv' w11 hown11 hg11 hv11; obtain ⟨no', nc', rfl⟩ := own_form hown11; have HRE2 := Lib.hid (HRS.out _ _ hown11 hg11 hv11); clear hown11 hg11 hv11)
          go_roundw
          case rel =>
            have h := HRE2.out
            rw [List.length_append] at h
            exact LInv.thin hlt h
          case measure => simp [intOf]; omega
        · skip
          obtain ⟨d, hd⟩ : ∃ d, d = thk l + 1 := ⟨_, rfl⟩
          have e1 : (thk l : Int) + 1 = (d : Int) := by omega
          have hd7 : d ≤ 7 := by omega
          have HDD := Lib.hid hd
          clear hd
          obtain ⟨xs, hx8, hB8, c3, hc9⟩ := M.part ((Below.refl _ _).alloc (Nat.le_refl _) _) (not_at wr) rfl
          rw [HNP.out] at hx8 hc9
          have HX8 := Lib.hid hx8
          have HC9 := Lib.hid hc9
          obtain ⟨f0, f1, f2, f3⟩ := EB.cell _ _ _ _ _ _ M.one
          have c3' := (EB.cell _ _ _ _ _ _ M.eb).2.2.2
          have s1 : (wr.alloc (.cells #[.int .i64 1, .string ⟨#[49]⟩, .slice none 0 0, .slice none 0 0] 28)).heap.size = wr.heap.size + 1 := by simp
          have HR1 : Hid (EB wr go 1 ⟨#[49]⟩ (.slice none 0 0) (.slice none 0 0)) := M.one
          have hrc : ∀ (j : Nat) u, (#[.int .i64 10, .string ⟨#[110, 111, 116]⟩, .slice none 0 0, .slice (some ⟨wr.heap.size, 0, none⟩) 1 1] : Array Value).toList[j]? = some u → ((wr.alloc (.cells #[.int .i64 1, .string ⟨#[49]⟩, .slice none 0 0, .slice none 0 0] 28)).alloc (.cells #[.int .i64 10, .string ⟨#[110, 111, 116]⟩, .slice none 0 0, .slice (some ⟨wr.heap.size, 0, none⟩) 1 1] 28)).cell? ⟨wr.heap.size + 1, j, none⟩ = some u := by
            have h := row_cellsT (wr.alloc (.cells #[.int .i64 1, .string ⟨#[49]⟩, .slice none 0 0, .slice none 0 0] 28)) 28 (#[.int .i64 10, .string ⟨#[110, 111, 116]⟩, .slice none 0 0, .slice (some ⟨wr.heap.size, 0, none⟩) 1 1] : Array Value).toList
            rw [s1] at h; exact h
          have HRC := Lib.hid hrc
          clear hx8 hc9 M hrc s1
          go_upto_region 21 with (first | (refine wpList_load_row rfl 28 _ rfl go rfl 28 #[.int .i64 1, .string ⟨#[49]⟩, .slice none 0 0, .slice none 0 0] (0, 0) _ HR1.out Tryd.underlying28 rfl info28 ?_) | (at_builtin; refine wpList_app rfl (Operand.tmp 51) (Operand.tmp 55) rfl w2.heap.size (.slice ao5 np ac5) np xs rfl HX8.out (wr.heap.size + 1) 1 rfl (#[.int .i64 10, .string ⟨#[110, 111, 116]⟩, .slice none 0 0, .slice (some ⟨wr.heap.size, 0, none⟩) 1 1] : Array Value).toList rfl HRC.out (by intro u hu; simp at hu; rcases hu with rfl | rfl | rfl | rfl <;> rfl) hml2 hB8 ?_; intro av' w9 hown9 hg9 hv9; obtain ⟨ao', ac', rfl⟩ := own_form hown9; obtain ⟨c9, f9, hrest9⟩ := HC9.out _ _ hown9 hg9 hv9; have HRE := Lib.hid hrest9; clear hrest9 hown9 hg9 hv9))
          generalize w9.setCell ⟨ge, 3, none⟩ (.slice ao' (np + 1) ac') = w10 at HRE ⊢
          have hcv := conv_digit w10 d (by omega)
          have hpc := pn_cat d (by omega)
          obtain ⟨cc, hcc⟩ : ∃ cc : UInt8, cc = UInt8.ofNat (48 + d) := ⟨_, rfl⟩
          rw [← hcc] at hcv hpc
          have HPC := Lib.hid hpc
          obtain ⟨hn8, hB9, hnt, hrs⟩ := HRE.out.name ((Below.refl _ _).alloc (Nat.le_refl _) (.cells #[.int .u8 (48 + (d : Int))] 5)) (⟨#[37, 46]⟩ ++ ⟨#[cc]⟩)
          have s2 : (w10.alloc (.cells #[.int .u8 (48 + (d : Int))] 5)).heap.size = w10.heap.size + 1 := by simp
          rw [s2] at hnt
          clear s2
          have HN8 := Lib.hid hn8
          have HNT := Lib.hid hnt
          have HRS := Lib.hid hrs
          clear hn8 hnt hrs HRE c3 c3' f0 f1 f2 f3 c9 f9 hcc hpc HRC HX8 HC9 HR1
          go_wp2_with (at_builtin; refine wpList_appNs rfl (Operand.tmp 58) (Operand.tmp 65) rfl w2.heap.size (.slice no5 nn nc5) (nml 0 l) rfl HN8.out _ [⟨#[37, 46]⟩ ++ ⟨#[cc]⟩] rfl HNT.out hml3 hB9 ?_; intro nv' w11 hown11 hg11 hv11; obtain ⟨no', nc', rfl⟩ := own_form hown11; have HRE2 := Lib.hid (HRS.out _ _ hown11 hg11 hv11); clear hown11 hg11 hv11)
          go_roundw
          case rel =>
            have h := HRE2.out
            rw [List.length_append, HPC.out] at h
            exact LInv.fat2 HDD.out hlt h
          case measure => simp [intOf]; omega
      · have q2 : decide ((l.length : Int) < (len : Int)) = false := decide_eq_false (by omega)
        go_wp2_with fail
        refine (within18_some (l.length : Int) 2 ⟨by omega, by omega⟩ (by omega) (by omega) wr).mono ?_
        rintro r9 w5 ⟨r, hr2, rfl, rfl⟩
        clear KSR q2
        have hr01 : r = 0 ∨ r = 1 := by omega
        rcases hr01 with rfl | rfl
        · skip
          have hat : Et.At (fun x => wr.heap.size ≤ x) wr ko #[.int .i64 1, .string ⟨#[49]⟩, .slice none 0 0, .slice none 0 0] := leaf_at _ _ 1 ⟨#[49]⟩
          obtain ⟨xs, hx8, hB8, c3, hc9⟩ := M.part (Below.refl _ _) hat rfl
          rw [HNP.out] at hx8 hc9
          have HX8 := Lib.hid hx8
          have HC9 := Lib.hid hc9
          obtain ⟨f0, f1, f2, f3⟩ := EB.cell _ _ _ _ _ _ M.one
          have c3' := (EB.cell _ _ _ _ _ _ M.eb).2.2.2
          clear hx8 hc9 hat M
          go_upto_region 18 with (at_builtin; refine wpList_app rfl (Operand.tmp 40) (Operand.tmp 42) rfl w2.heap.size (.slice ao5 np ac5) np xs rfl HX8.out wr.heap.size 1 rfl (#[.int .i64 1, .string ⟨#[49]⟩, .slice none 0 0, .slice none 0 0] : Array Value).toList rfl (row_cellsT _ 28 _) (by intro u hu; simp at hu; rcases hu with rfl | rfl | rfl | rfl <;> rfl) hml2 hB8 ?_; intro av' w9 hown9 hg9 hv9; obtain ⟨ao', ac', rfl⟩ := own_form hown9; obtain ⟨c9, f9, hrest9⟩ := HC9.out _ _ hown9 hg9 hv9; have HRE := Lib.hid hrest9; clear hrest9 hown9 hg9 hv9)
          generalize w9.setCell ⟨ge, 3, none⟩ (.slice ao' (np + 1) ac') = w10 at HRE ⊢
          obtain ⟨hn8, hB9, hnt, hrs⟩ := HRE.out.name (Below.refl _ _) ⟨#[49]⟩
          have HN8 := Lib.hid hn8
          have HNT := Lib.hid hnt
          have HRS := Lib.hid hrs
          clear hn8 hnt hrs HRE c3 c3' f0 f1 f2 f3 c9 f9
          go_wp2_with (at_builtin; refine wpList_appNs rfl (Operand.tmp 45) (Operand.tmp 46) rfl w2.heap.size (.slice no5 nn nc5) (nml 0 l) rfl HN8.out _ [⟨#[49]⟩] rfl HNT.out hml3 hB9 ?_; intro nv' w11 hown11 hg11 hv11; obtain ⟨no', nc', rfl⟩ := own_form hown11; have HRE2 := Lib.hid (HRS.out _ _ hown11 hg11 hv11); clear hown11 hg11 hv11)
          go_roundw
          case rel =>
            have h := HRE2.out
            rw [List.length_append] at h
            exact LInv.thin hlt h
          case measure => simp [intOf]; omega
        · skip
          obtain ⟨d, hd⟩ : ∃ d, d = thk l + 1 := ⟨_, rfl⟩
          have e1 : (thk l : Int) + 1 = (d : Int) := by omega
          have hd7 : d ≤ 7 := by omega
          have HDD := Lib.hid hd
          clear hd
          obtain ⟨xs, hx8, hB8, c3, hc9⟩ := M.part ((Below.refl _ _).alloc (Nat.le_refl _) _) (not_at wr) rfl
          rw [HNP.out] at hx8 hc9
          have HX8 := Lib.hid hx8
          have HC9 := Lib.hid hc9
          obtain ⟨f0, f1, f2, f3⟩ := EB.cell _ _ _ _ _ _ M.one
          have c3' := (EB.cell _ _ _ _ _ _ M.eb).2.2.2
          have s1 : (wr.alloc (.cells #[.int .i64 1, .string ⟨#[49]⟩, .slice none 0 0, .slice none 0 0] 28)).heap.size = wr.heap.size + 1 := by simp
          have HR1 : Hid (EB wr go 1 ⟨#[49]⟩ (.slice none 0 0) (.slice none 0 0)) := M.one
          have hrc : ∀ (j : Nat) u, (#[.int .i64 10, .string ⟨#[110, 111, 116]⟩, .slice none 0 0, .slice (some ⟨wr.heap.size, 0, none⟩) 1 1] : Array Value).toList[j]? = some u → ((wr.alloc (.cells #[.int .i64 1, .string ⟨#[49]⟩, .slice none 0 0, .slice none 0 0] 28)).alloc (.cells #[.int .i64 10, .string ⟨#[110, 111, 116]⟩, .slice none 0 0, .slice (some ⟨wr.heap.size, 0, none⟩) 1 1] 28)).cell? ⟨wr.heap.size + 1, j, none⟩ = some u := by
            have h := row_cellsT (wr.alloc (.cells #[.int .i64 1, .string ⟨#[49]⟩, .slice none 0 0, .slice none 0 0] 28)) 28 (#[.int .i64 10, .string ⟨#[110, 111, 116]⟩, .slice none 0 0, .slice (some ⟨wr.heap.size, 0, none⟩) 1 1] : Array Value).toList
            rw [s1] at h; exact h
          have HRC := Lib.hid hrc
          clear hx8 hc9 M hrc s1
          go_upto_region 21 with (first | (refine wpList_load_row rfl 28 _ rfl go rfl 28 #[.int .i64 1, .string ⟨#[49]⟩, .slice none 0 0, .slice none 0 0] (0, 0) _ HR1.out Tryd.underlying28 rfl info28 ?_) | (at_builtin; refine wpList_app rfl (Operand.tmp 51) (Operand.tmp 55) rfl w2.heap.size (.slice ao5 np ac5) np xs rfl HX8.out (wr.heap.size + 1) 1 rfl (#[.int .i64 10, .string ⟨#[110, 111, 116]⟩, .slice none 0 0, .slice (some ⟨wr.heap.size, 0, none⟩) 1 1] : Array Value).toList rfl HRC.out (by intro u hu; simp at hu; rcases hu with rfl | rfl | rfl | rfl <;> rfl) hml2 hB8 ?_; intro av' w9 hown9 hg9 hv9; obtain ⟨ao', ac', rfl⟩ := own_form hown9; obtain ⟨c9, f9, hrest9⟩ := HC9.out _ _ hown9 hg9 hv9; have HRE := Lib.hid hrest9; clear hrest9 hown9 hg9 hv9))
          generalize w9.setCell ⟨ge, 3, none⟩ (.slice ao' (np + 1) ac') = w10 at HRE ⊢
          have hcv := conv_digit w10 d (by omega)
          have hpc := pn_cat d (by omega)
          obtain ⟨cc, hcc⟩ : ∃ cc : UInt8, cc = UInt8.ofNat (48 + d) := ⟨_, rfl⟩
          rw [← hcc] at hcv hpc
          have HPC := Lib.hid hpc
          obtain ⟨hn8, hB9, hnt, hrs⟩ := HRE.out.name ((Below.refl _ _).alloc (Nat.le_refl _) (.cells #[.int .u8 (48 + (d : Int))] 5)) (⟨#[37, 46]⟩ ++ ⟨#[cc]⟩)
          have s2 : (w10.alloc (.cells #[.int .u8 (48 + (d : Int))] 5)).heap.size = w10.heap.size + 1 := by simp
          rw [s2] at hnt
          clear s2
          have HN8 := Lib.hid hn8
          have HNT := Lib.hid hnt
          have HRS := Lib.hid hrs
          clear hn8 hnt hrs HRE c3 c3' f0 f1 f2 f3 c9 f9 hcc hpc HRC HX8 HC9 HR1
          go_wp2_with (at_builtin; refine wpList_appNs rfl (Operand.tmp 58) (Operand.tmp 65) rfl w2.heap.size (.slice no5 nn nc5) (nml 0 l) rfl HN8.out _ [⟨#[37, 46]⟩ ++ ⟨#[cc]⟩] rfl HNT.out hml3 hB9 ?_; intro nv' w11 hown11 hg11 hv11; obtain ⟨no', nc', rfl⟩ := own_form hown11; have HRE2 := Lib.hid (HRS.out _ _ hown11 hg11 hv11); clear hown11 hg11 hv11)
          go_roundw
          case rel =>
            have h := HRE2.out
            rw [List.length_append, HPC.out] at h
            exact LInv.fat2 HDD.out hlt h
          case measure => simp [intOf]; omega
    · have q1 : decide ((l.length : Int) < 6) = false := decide_eq_false (by omega)
      have hln : l.length = 6 := by omega
      have HLN := Lib.hid hln
      have HAT := Lib.hid (atm_at M)
      have HBR := Lib.hid (HB2.out.trans (M.bel.mono HB2.out.size))
      have HTR := Lib.hid (HT.out.below M.bel)
      have HNA := Lib.hid (NAt.mono (T := fun _ => True) M.nam.at (fun _ _ => trivial))
      have hsz := atm_size false l
      have HFI := Lib.hid (atm_fine false l)
      have hEB : EB wr ge 7 ⟨#[]⟩ (.slice none 0 0) (.slice ao5 np ac5) := M.eb
      have HEB := Lib.hid hEB
      have hthl := thick_lt (atm false l)
      have HN := Lib.hid (norm_any (atm false l) HFI.out (by omega) (by omega) _ _ wr HAT.out HTR.out)
      have hN : Calls Tryd.prog 16 #[.agg #[.int .i64 7, .string ⟨#[]⟩, .slice none 0 0, .slice ao5 np ac5]] wr (RetN (atm false l) wr) := HN.out
      replace HN := Lib.hid hN
      clear M hml2 hml3 HNP hln hEB hN hsz hthl
      go_upto_region 22 with fail
      go_wp2_with (refine wpList_load_row rfl 28 _ rfl ge rfl 28 #[.int .i64 7, .string ⟨#[]⟩, .slice none 0 0, .slice ao5 np ac5] (0, 0) _ HEB.out Tryd.underlying28 rfl info28 ?_)
      refine HN.out.mono ?_
      rintro q w7 ⟨cs, rfl, hatx, hbx⟩
      rw [atm_nrm] at hatx
      obtain ⟨k1, t1, no1, nn1, nc1, ao2, an1, ac1, rfl⟩ := EAt_sl hatx
      have z1 : (#[.int .i64 k1, .string t1, .slice no1 nn1 nc1, .slice ao2 an1 ac1] : Array Value).all (·.oneCell') = true := by simp [Value.oneCell']
      have A8 := (Below.refl w7.heap.size w7).alloc (Nat.le_refl _) (.cells #[.int .i64 k1, .string t1, .slice no1 nn1 nc1, .slice ao2 an1 ac1] 28)
      have hb8 : Below wr.heap.size wr (w7.alloc (.cells #[.int .i64 k1, .string t1, .slice no1 nn1 nc1, .slice ao2 an1 ac1] 28)) := hbx.trans (A8.mono hbx.size)
      have HB8 := Lib.hid (HBR.out.trans (hb8.mono HBR.out.size))
      have HAX := Lib.hid (Et.At.mono (T := fun x => x < w7.heap.size) (fun x hx => hx.2) _ _ (Et.At.keeps (Keeps.of_below A8) _ _ (Et.At.bound _ _ hatx)))
      have HX0 : Hid ((w7.alloc (.cells #[.int .i64 k1, .string t1, .slice no1 nn1 nc1, .slice ao2 an1 ac1] 28)).heap[w7.heap.size]? = some (.cells #[.int .i64 k1, .string t1, .slice no1 nn1 nc1, .slice ao2 an1 ac1] 28 (0, 0))) := alloc_at _ _
      have hnl := hbx.size
      have HNM : Hid (NAt (fun x => x < w7.heap.size) (w7.alloc (.cells #[.int .i64 k1, .string t1, .slice no1 nn1 nc1, .slice ao2 an1 ac1] 28)) (.slice no5 nn nc5) (nml 0 l)) := by
        refine NAt.mono (NAt.keeps (S := fun x => x < wr.heap.size) ?_ (Keeps.of_below hb8)) (fun x hx => by have : x < wr.heap.size := hx; omega)
        exact NAt.mono (HNA.out.bound) (fun x hx => hx.2)
      have hsW : (w7.alloc (.cells #[.int .i64 k1, .string t1, .slice no1 nn1 nc1, .slice ao2 an1 ac1] 28)).heap.size = w7.heap.size + 1 := by simp
      have hwS : w.heap.size ≤ w7.heap.size := Nat.le_trans HBR.out.size hnl
      clear hatx A8 hb8 HN HEB HAT HTR HNA HBR hbx hnl
      go_upto_region 23 with (refine wpList_store_row rfl 28 _ _ rfl w7.heap.size #[.int .i64 k1, .string t1, .slice no1 nn1 nc1, .slice ao2 an1 ac1] rfl rfl 28 Z4 (alloc_at _ _) info28 rfl z1 ?_)
      try simp only [Act.put]
      have EE : (w7.alloc (.cells #[.int .i64 0, .string ⟨#[]⟩, .slice none 0 0, .slice none 0 0] 28)).setRow w7.heap.size #[.int .i64 k1, .string t1, .slice no1 nn1 nc1, .slice ao2 an1 ac1] = w7.alloc (.cells #[.int .i64 k1, .string t1, .slice no1 nn1 nc1, .slice ao2 an1 ac1] 28) := setRow_new _ _ _ _
      try rw [EE]
      clear EE z1
      have hgW : w7.heap.size < (w7.alloc (.cells #[.int .i64 k1, .string t1, .slice no1 nn1 nc1, .slice ao2 an1 ac1] 28)).heap.size := by omega
      clear hsW
      generalize w7.alloc (.cells #[.int .i64 k1, .string t1, .slice no1 nn1 nc1, .slice ao2 an1 ac1] 28) = W8 at HB8 HAX HX0 HNM hgW ⊢
      generalize w7.heap.size = gx at HX0 HAX HNM hgW hwS ⊢
      have hth2 : thk l ≤ 6 := by have := HLN.out; omega
      go_wp2_with fail
      go_loopw [13] (fun iv wr => XInv false l gx W8 iv wr) (fun iv _ => 8 - (intOf iv).toNat)
      case atStart => exact ⟨1, _, Nat.le_refl _, by omega, rfl, HX0.out, HAX.out, Below.refl _ _⟩
      case round =>
        obtain ⟨j, cs, hj1, hj2, rfl, hrow, hatx, hbx⟩ := hrel
        by_cases hjt : j ≤ thk l
        · have q3 : decide ((j : Int) ≤ (thk l : Int)) = true := decide_eq_true (by omega)
          rw [vls_drop l j hj1 hjt] at hatx
          obtain ⟨xr, hxr⟩ : ∃ xr, xr = lets ((vls 0 l).drop (j + 1 - 1)) (abd false l) := ⟨_, rfl⟩
          rw [← hxr] at hatx
          have HXR := Lib.hid hxr
          unfold ebind at hatx
          rw [EAt_mk] at hatx
          obtain ⟨nv9, av9, rfl, hnv9, hav9⟩ := hatx
          obtain ⟨nco, ncc, rfl⟩ := hnv9.form
          obtain ⟨aco, acc, rfl⟩ := hav9.form
          obtain ⟨gn, on, rfl, -, cn⟩ := hnv9.get 0 (by simp)
          obtain ⟨ga, oa, kr, tr, nvr, avr, rfl, -, -, hatr, e0, e1, e2, e3, o1', o2'⟩ := hav9.get 1 (by simp)
          simp only [List.length_cons, List.length_nil, Nat.zero_add, Nat.reduceAdd, Nat.add_zero, Nat.one_mul, List.getElem_cons_zero, List.getElem_cons_succ] at cn e0 e1 e2 e3 hatr hrow
          obtain ⟨nor, nnr, ncr, aor, anr, acr, rfl, rfl⟩ : ∃ nod nnd ncd aod ad cd, nvr = .slice nod nnd ncd ∧ avr = .slice aod ad cd := by
            obtain ⟨k3, t3, no2, nn2, nc2, ao4, an2, ac2, e4⟩ := EAt_sl hatr
            simp only [Array.mk.injEq, List.cons.injEq, Value.int.injEq, Value.string.injEq, and_true, true_and] at e4
            exact ⟨_, _, _, _, _, _, e4.2.2.1, e4.2.2.2⟩
          have HRO : Hid (EB wr gx 9 ⟨#[]⟩ (.slice (some ⟨gn, on, none⟩) 1 ncc) (.slice (some ⟨ga, oa, none⟩) 2 acc)) := hrow
          have HC : Hid (∀ w', Below wr.heap.size wr w' → (w'.cell? ⟨gx, 0, none⟩ = some (.int .i64 9) ∧ w'.cell? ⟨gx, 1, none⟩ = some (.string ⟨#[]⟩) ∧ w'.cell? ⟨gx, 2, none⟩ = some (.slice (some ⟨gn, on, none⟩) 1 ncc) ∧ w'.cell? ⟨gx, 3, none⟩ = some (.slice (some ⟨ga, oa, none⟩) 2 acc)) ∧ w'.cell? ⟨gn, on, none⟩ = some (.string (pn j))) := fun w' hw' =>
            ⟨EB.cell _ _ _ _ _ _ (row_below hw' HRO.out), cell_below hw' cn⟩
          have hj10 : j < 10 := by omega
          have hcv := fun w => conv_digit w j hj10
          have hpc := pn_cat j hj10
          obtain ⟨cc, hcc⟩ : ∃ cc : UInt8, cc = UInt8.ofNat (48 + j) := ⟨_, rfl⟩
          rw [← hcc] at hcv hpc
          have HCV := Lib.hid hcv
          obtain ⟨pnj, hpn⟩ : ∃ pnj, pnj = pn j := ⟨_, rfl⟩
          rw [← hpn] at HC hpc
          have HPC := Lib.hid hpc
          have HATR := Lib.hid hatr
          have HBX := Lib.hid hbx
          have HE := Lib.hid (And.intro e0 (And.intro e1 (And.intro e2 e3)))
          clear hcv hpc hcc hpn hatr hbx e0 e1 e2 e3 cn hnv9 hav9 hxr hrow o1' o2'
          go_upto_region 26 with fail
          have HS0 : Hid (Below wr.heap.size wr wr.drew) := (Below.refl _ _).drew
          refine wp_region_noPanic ?_
          refine wp_region_held_drew (S := Below wr.heap.size wr) (by kernel_rfl) HS0.out (fun hHeld => ?_)
          generalize wr.drew = X at HS0 hHeld ⊢
          refine wpAnyH_take (i := 0) (v := Value.pointer (some ⟨gx, 0, none⟩)) rfl (by kernel_rfl) (by kernel_rfl) (by kernel_rfl) (fun _ _ _ h => h) (Or.inl ⟨rfl, fun w' hw' => ?_⟩) hHeld ?_
          · go_simp
          simp only [List.getElem_toArray, List.getElem_cons_succ, List.getElem_cons_zero, Act.put, List.setIfInBounds_toArray, List.set_cons_zero, List.set_cons_succ]
          refine wpAnyH_take (i := 1) (v := Value.int .i64 9) rfl (by kernel_rfl) (by kernel_rfl) (by kernel_rfl) (fun _ _ _ h => h) (Or.inl ⟨rfl, fun w' hw' => ?_⟩) hHeld ?_
          · obtain ⟨⟨g0, g1, g2, g3⟩, s0⟩ := HC.out w' hw'; go_simp
          simp only [List.getElem_toArray, List.getElem_cons_succ, List.getElem_cons_zero, Act.put, List.setIfInBounds_toArray, List.set_cons_zero, List.set_cons_succ]
          refine wpAnyH_take (i := 2) (v := Value.bool false) rfl (by kernel_rfl) (by kernel_rfl) (by kernel_rfl) (fun _ _ _ h => h) (Or.inl ⟨rfl, fun w' hw' => ?_⟩) hHeld ?_
          · go_simp
          simp only [List.getElem_toArray, List.getElem_cons_succ, List.getElem_cons_zero, Act.put, List.setIfInBounds_toArray, List.set_cons_zero, List.set_cons_succ]
          refine wpAnyH_take (i := 3) (v := Value.bool false) rfl (by kernel_rfl) (by kernel_rfl) (by kernel_rfl) (fun _ _ _ h => h) (Or.inl ⟨rfl, fun w' hw' => ?_⟩) hHeld ?_
          · go_simp
          simp only [List.getElem_toArray, List.getElem_cons_succ, List.getElem_cons_zero, Act.put, List.setIfInBounds_toArray, List.set_cons_zero, List.set_cons_succ]
          refine wpAnyH_take (i := 4) (v := Value.pointer (some ⟨gx, 2, none⟩)) rfl (by kernel_rfl) (by kernel_rfl) (by kernel_rfl) (fun _ _ _ h => h) (Or.inl ⟨rfl, fun w' hw' => ?_⟩) hHeld ?_
          · go_simp
          simp only [List.getElem_toArray, List.getElem_cons_succ, List.getElem_cons_zero, Act.put, List.setIfInBounds_toArray, List.set_cons_zero, List.set_cons_succ]
          refine wpAnyH_take (i := 5) (v := Value.slice (some ⟨gn, on, none⟩) 1 ncc) rfl (by kernel_rfl) (by kernel_rfl) (by kernel_rfl) (fun _ _ _ h => h) (Or.inl ⟨rfl, fun w' hw' => ?_⟩) hHeld ?_
          · obtain ⟨⟨g0, g1, g2, g3⟩, s0⟩ := HC.out w' hw'; go_simp
          simp only [List.getElem_toArray, List.getElem_cons_succ, List.getElem_cons_zero, Act.put, List.setIfInBounds_toArray, List.set_cons_zero, List.set_cons_succ]
          refine wpAnyH_take (i := 6) (v := Value.int .i64 1) rfl (by kernel_rfl) (by kernel_rfl) (by kernel_rfl) (fun _ _ _ h => h) (Or.inl ⟨rfl, fun w' hw' => ?_⟩) hHeld ?_
          · go_simp
          simp only [List.getElem_toArray, List.getElem_cons_succ, List.getElem_cons_zero, Act.put, List.setIfInBounds_toArray, List.set_cons_zero, List.set_cons_succ]
          refine wpAnyH_take (i := 7) (v := Value.bool false) rfl (by kernel_rfl) (by kernel_rfl) (by kernel_rfl) (fun _ _ _ h => h) (Or.inl ⟨rfl, fun w' hw' => ?_⟩) hHeld ?_
          · go_simp
          simp only [List.getElem_toArray, List.getElem_cons_succ, List.getElem_cons_zero, Act.put, List.setIfInBounds_toArray, List.set_cons_zero, List.set_cons_succ]
          refine wpAnyH_take (i := 8) (v := Value.bool false) rfl (by kernel_rfl) (by kernel_rfl) (by kernel_rfl) (fun _ _ _ h => h) (Or.inl ⟨rfl, fun w' hw' => ?_⟩) hHeld ?_
          · go_simp
          simp only [List.getElem_toArray, List.getElem_cons_succ, List.getElem_cons_zero, Act.put, List.setIfInBounds_toArray, List.set_cons_zero, List.set_cons_succ]
          refine wpAnyH_take (i := 9) (v := Value.bool false) rfl (by kernel_rfl) (by kernel_rfl) (by kernel_rfl) (fun _ _ _ h => h) (Or.inl ⟨rfl, fun w' hw' => ?_⟩) hHeld ?_
          · go_simp
          simp only [List.getElem_toArray, List.getElem_cons_succ, List.getElem_cons_zero, Act.put, List.setIfInBounds_toArray, List.set_cons_zero, List.set_cons_succ]
          refine wpAnyH_take (i := 10) (v := Value.pointer (some ⟨gx, 2, none⟩)) rfl (by kernel_rfl) (by kernel_rfl) (by kernel_rfl) (fun _ _ _ h => h) (Or.inl ⟨rfl, fun w' hw' => ?_⟩) hHeld ?_
          · go_simp
          simp only [List.getElem_toArray, List.getElem_cons_succ, List.getElem_cons_zero, Act.put, List.setIfInBounds_toArray, List.set_cons_zero, List.set_cons_succ]
          refine wpAnyH_take (i := 11) (v := Value.slice (some ⟨gn, on, none⟩) 1 ncc) rfl (by kernel_rfl) (by kernel_rfl) (by kernel_rfl) (fun _ _ _ h => h) (Or.inl ⟨rfl, fun w' hw' => ?_⟩) hHeld ?_
          · obtain ⟨⟨g0, g1, g2, g3⟩, s0⟩ := HC.out w' hw'; go_simp
          simp only [List.getElem_toArray, List.getElem_cons_succ, List.getElem_cons_zero, Act.put, List.setIfInBounds_toArray, List.set_cons_zero, List.set_cons_succ]
          refine wpAnyH_take (i := 12) (v := Value.pointer (some ⟨gn, on, none⟩)) rfl (by kernel_rfl) (by kernel_rfl) (by kernel_rfl) (fun _ _ _ h => h) (Or.inl ⟨rfl, fun w' hw' => ?_⟩) hHeld ?_
          · go_simp
          simp only [List.getElem_toArray, List.getElem_cons_succ, List.getElem_cons_zero, Act.put, List.setIfInBounds_toArray, List.set_cons_zero, List.set_cons_succ]
          refine wpAnyH_take (i := 13) (v := Value.string pnj) rfl (by kernel_rfl) (by kernel_rfl) (by kernel_rfl) (fun _ _ _ h => h) (Or.inl ⟨rfl, fun w' hw' => ?_⟩) hHeld ?_
          · obtain ⟨⟨g0, g1, g2, g3⟩, s0⟩ := HC.out w' hw'; go_simp
          simp only [List.getElem_toArray, List.getElem_cons_succ, List.getElem_cons_zero, Act.put, List.setIfInBounds_toArray, List.set_cons_zero, List.set_cons_succ]
          refine wpAnyH_take (i := 14) (v := Value.int .i64 (j : Int)) rfl (by kernel_rfl) (by kernel_rfl) (by kernel_rfl) (fun _ _ _ h => h) (Or.inl ⟨rfl, fun w' hw' => ?_⟩) hHeld ?_
          · go_simp
          simp only [List.getElem_toArray, List.getElem_cons_succ, List.getElem_cons_zero, Act.put, List.setIfInBounds_toArray, List.set_cons_zero, List.set_cons_succ]
          refine wpAnyH_take (i := 15) (v := Value.int .i64 (48 + (j : Int))) rfl (by kernel_rfl) (by kernel_rfl) (by kernel_rfl) (fun _ _ _ h => h) (Or.inl ⟨rfl, fun w' hw' => ?_⟩) hHeld ?_
          · go_simp; exact (wrap_sm j hj10).1
          simp only [List.getElem_toArray, List.getElem_cons_succ, List.getElem_cons_zero, Act.put, List.setIfInBounds_toArray, List.set_cons_zero, List.set_cons_succ]
          refine wpAnyH_take (i := 16) (v := Value.int .u8 (48 + (j : Int))) rfl (by kernel_rfl) (by kernel_rfl) (by kernel_rfl) (fun _ _ _ h => h) (Or.inl ⟨rfl, fun w' hw' => ?_⟩) hHeld ?_
          · go_simp; exact (wrap_sm j hj10).2
          simp only [List.getElem_toArray, List.getElem_cons_succ, List.getElem_cons_zero, Act.put, List.setIfInBounds_toArray, List.set_cons_zero, List.set_cons_succ]
          refine wpAnyH_ready (rs := [17]) (by kernel_rfl) (by simp) ?_
          refine (AllReadyH.cons rfl (fun K hK => ?_) AllReadyH.nil)
          go_simp
          have HS17 : Hid (Below wr.heap.size wr (X.alloc (.cells #[.int .u8 (48 + (j : Int))] 5))) := HS0.out.alloc HS0.out.size _
          refine hK.out _ _ HS17.out (fun hHeld => ?_)
          clear hK K
          try simp only [List.getElem_toArray, List.getElem_cons_succ, List.getElem_cons_zero, Act.put, List.setIfInBounds_toArray, List.set_cons_zero, List.set_cons_succ]
          refine wpAnyH_ready (rs := [18]) (by kernel_rfl) (by simp) ?_
          refine (AllReadyH.cons rfl (fun K hK => ?_) AllReadyH.nil)
          have hcv := HCV.out X
          go_simp
          clear hcv
          refine hK.out _ _ HS17.out (fun hHeld => ?_)
          clear hK K
          try simp only [List.getElem_toArray, List.getElem_cons_succ, List.getElem_cons_zero, Act.put, List.setIfInBounds_toArray, List.set_cons_zero, List.set_cons_succ]
          refine wpAnyH_take (i := 19) (v := Value.string (⟨#[37, 46]⟩ ++ ⟨#[cc]⟩)) rfl (by kernel_rfl) (by kernel_rfl) (by kernel_rfl) (fun _ _ _ h => h) (Or.inl ⟨rfl, fun w' hw' => ?_⟩) hHeld ?_
          · go_simp
          simp only [List.getElem_toArray, List.getElem_cons_succ, List.getElem_cons_zero, Act.put, List.setIfInBounds_toArray, List.set_cons_zero, List.set_cons_succ]
          refine wpAnyH_take (i := 20) (v := Value.bool false) rfl (by kernel_rfl) (by kernel_rfl) (by kernel_rfl) (fun _ _ _ h => h) (Or.inl ⟨rfl, fun w' hw' => ?_⟩) hHeld ?_
          · have hp := HPC.out; go_simp
          simp only [List.getElem_toArray, List.getElem_cons_succ, List.getElem_cons_zero, Act.put, List.setIfInBounds_toArray, List.set_cons_zero, List.set_cons_succ]
          refine wpAnyH_take (i := 21) (v := Value.bool false) rfl (by kernel_rfl) (by kernel_rfl) (by kernel_rfl) (fun _ _ _ h => h) (Or.inl ⟨rfl, fun w' hw' => ?_⟩) hHeld ?_
          · go_simp
          simp only [List.getElem_toArray, List.getElem_cons_succ, List.getElem_cons_zero, Act.put, List.setIfInBounds_toArray, List.set_cons_zero, List.set_cons_succ]
          refine wpAnyH_take (i := 22) (v := Value.bool false) rfl (by kernel_rfl) (by kernel_rfl) (by kernel_rfl) (fun _ _ _ h => h) (Or.inl ⟨rfl, fun w' hw' => ?_⟩) hHeld ?_
          · go_simp
          simp only [List.getElem_toArray, List.getElem_cons_succ, List.getElem_cons_zero, Act.put, List.setIfInBounds_toArray, List.set_cons_zero, List.set_cons_succ]
          refine wpAnyH_take (i := 23) (v := Value.pointer (some ⟨gx, 3, none⟩)) rfl (by kernel_rfl) (by kernel_rfl) (by kernel_rfl) (fun _ _ _ h => h) (Or.inl ⟨rfl, fun w' hw' => ?_⟩) hHeld ?_
          · go_simp
          simp only [List.getElem_toArray, List.getElem_cons_succ, List.getElem_cons_zero, Act.put, List.setIfInBounds_toArray, List.set_cons_zero, List.set_cons_succ]
          refine wpAnyH_take (i := 24) (v := Value.slice (some ⟨ga, oa, none⟩) 2 acc) rfl (by kernel_rfl) (by kernel_rfl) (by kernel_rfl) (fun _ _ _ h => h) (Or.inl ⟨rfl, fun w' hw' => ?_⟩) hHeld ?_
          · obtain ⟨⟨g0, g1, g2, g3⟩, s0⟩ := HC.out w' hw'; go_simp
          simp only [List.getElem_toArray, List.getElem_cons_succ, List.getElem_cons_zero, Act.put, List.setIfInBounds_toArray, List.set_cons_zero, List.set_cons_succ]
          refine wpAnyH_take (i := 25) (v := Value.int .i64 2) rfl (by kernel_rfl) (by kernel_rfl) (by kernel_rfl) (fun _ _ _ h => h) (Or.inl ⟨rfl, fun w' hw' => ?_⟩) hHeld ?_
          · go_simp
          simp only [List.getElem_toArray, List.getElem_cons_succ, List.getElem_cons_zero, Act.put, List.setIfInBounds_toArray, List.set_cons_zero, List.set_cons_succ]
          refine wpAnyH_take (i := 26) (v := Value.bool false) rfl (by kernel_rfl) (by kernel_rfl) (by kernel_rfl) (fun _ _ _ h => h) (Or.inl ⟨rfl, fun w' hw' => ?_⟩) hHeld ?_
          · go_simp
          simp only [List.getElem_toArray, List.getElem_cons_succ, List.getElem_cons_zero, Act.put, List.setIfInBounds_toArray, List.set_cons_zero, List.set_cons_succ]
          refine wpAnyH_take (i := 27) (v := Value.bool false) rfl (by kernel_rfl) (by kernel_rfl) (by kernel_rfl) (fun _ _ _ h => h) (Or.inl ⟨rfl, fun w' hw' => ?_⟩) hHeld ?_
          · go_simp
          simp only [List.getElem_toArray, List.getElem_cons_succ, List.getElem_cons_zero, Act.put, List.setIfInBounds_toArray, List.set_cons_zero, List.set_cons_succ]
          refine wpAnyH_done (by kernel_rfl) ?_ _
          refine NoPanic.normal ?_
          clear hHeld
          have hw17 := HS17.out
          generalize X.alloc (.cells #[.int .u8 (48 + (j : Int))] 5) = w17 at hw17 ⊢
          obtain ⟨y0, y1, y2, y3⟩ := HE.out
          have g0 := cell_below hw17 y0
          have g1 := cell_below hw17 y1
          have g2 := cell_below hw17 y2
          have g3 := cell_below hw17 y3
          have HR17 : Hid (EB w17 gx 9 ⟨#[]⟩ (.slice (some ⟨gn, on, none⟩) 1 ncc) (.slice (some ⟨ga, oa, none⟩) 2 acc)) := row_below hw17 HRO.out
          obtain ⟨-, -, -, c3⟩ := EB.cell _ _ _ _ _ _ HR17.out
          have zR : (#[.int .i64 kr, .string tr, .slice nor nnr ncr, .slice aor anr acr] : Array Value).all (·.oneCell') = true := by simp [Value.oneCell']
          have HFIN : Hid (XInv false l gx W8 (.int .i64 ((j : Int) + 1)) (w17.setRow gx #[.int .i64 kr, .string tr, .slice nor nnr ncr, .slice aor anr acr])) := by
            refine ⟨j + 1, #[.int .i64 kr, .string tr, .slice nor nnr ncr, .slice aor anr acr], by omega, by omega, by go_num, setRow_heap w17 _ _ _ 28 _ HR17.out, ?_, ?_⟩
            · rw [← HXR.out]
              refine Et.At.keeps (S := fun x => x < gx) (fun x c T fz hs hx _ => ⟨fz, by rw [setRow_other w17 gx x _ (by have : x < gx := hs; omega), hw17.block x (Array.getElem?_eq_some_iff.1 hx).1]; exact hx⟩) _ _ HATR.out
            · have hgl : gx < wr.heap.size := (Array.getElem?_eq_some_iff.1 HRO.out).1
              exact (HBX.out.trans (hw17.mono (by omega))).trans ⟨rfl, rfl, rfl, by simp, fun k hk => setRow_other _ gx k _ (by omega)⟩
          clear HC HCV HPC HS17 HS0 hw17 y0 y1 y2 y3 HE HRO HATR HXR HBX
          go_wp2_with (refine wpList_store_row rfl 28 _ _ rfl gx #[.int .i64 kr, .string tr, .slice nor nnr ncr, .slice aor anr acr] rfl rfl 28 _ HR17.out info28 rfl zR ?_)
          go_roundw
          case rel => exact HFIN.out
          case measure => simp [intOf]; omega
        · have q3 : decide ((j : Int) ≤ (thk l : Int)) = false := decide_eq_false (by omega)
          rw [vls_end l j (by omega)] at hatx
          obtain ⟨k2, t2, no2, nn2, nc2, ao4, an2, ac2, rfl⟩ := EAt_sl hatx
          have hnr : NAt (fun x => x < gx) wr (.slice no5 nn nc5) (nml 0 l) := NAt.keeps HNM.out (fun x c T fz hs hx _ => ⟨fz, by rw [hbx.block x hs]; exact hx⟩)
          have hl6 : l.length ≤ 6 := by omega
          have hne : l ≠ [] := by intro e; have := HLN.out; rw [e] at this; simp at this
          have hT := reftext_any (abd false l) (abd_right false l HLN.out) (abd_fine false l hl6).1 (by have := (abd_fine false l hl6).2; omega) _ _ wr hatx
          have hsm := nml_small l 0 (by omega)
          have hlen := nml_len l 0
          have hN := names_any (nml 0 l) hsm (by omega) _ _ wr hnr
          have hjl := jn_le (nml 0 l) hsm
          have hEQ := abd_text false l hne
          obtain ⟨sx, hsx⟩ : ∃ s : ByteArray, s = ⟨(abd false l).wr.toArray⟩ := ⟨_, rfl⟩
          obtain ⟨sn, hsn⟩ : ∃ s : ByteArray, s = ⟨(jn (nml 0 l)).toArray⟩ := ⟨_, rfl⟩
          have y1 : sn.size ≤ 700 := by rw [hsn]; simp [ByteArray.size]; omega
          rw [← hsx] at hT hEQ
          rw [← hsn] at hN hEQ
          have hEQ2 : (⟨#[40, 102, 32]⟩ : ByteArray) ++ sn ++ ⟨#[41]⟩ = sx := hEQ
          have HEQ := Lib.hid hEQ2
          have HTT := Lib.hid hT
          have HNN := Lib.hid (fun w' (hb : Below wr.heap.size wr w') => names_any (nml 0 l) hsm (by omega) _ _ w' (hnr.keeps (Keeps.of_below hb)))
          rw [← hsn] at HNN
          have hrow2 : EB wr gx k2 t2 (.slice no2 nn2 nc2) (.slice ao4 an2 ac2) := hrow
          have HRO := Lib.hid hrow2
          have HBR := Lib.hid (HB8.out.trans (hbx.mono hwS))
          clear hrow hatx hbx hrow2 hT hN hEQ hEQ2 hsx hsn hnr hjl hsm hlen hne
          go_wp2_with (refine wpList_load_row rfl 28 _ rfl gx rfl 28 #[.int .i64 k2, .string t2, .slice no2 nn2 nc2, .slice ao4 an2 ac2] (0, 0) _ HRO.out Tryd.underlying28 rfl info28 ?_)
          refine HTT.out.mono ?_
          rintro r w18 ⟨rfl, hb18⟩
          have HB18 := Lib.hid (HBR.out.trans (hb18.mono HBR.out.size))
          have HN18 := Lib.hid (HNN.out w18 hb18)
          clear hb18 HNN
          go_wp2_with fail
          refine HN18.out.mono ?_
          rintro r w19 ⟨rfl, hb19⟩
          have HB19 := Lib.hid (HB18.out.trans (hb19.mono HB18.out.size))
          clear hb19
          have heq := HEQ.out
          go_wp2_with fail
          go_ret
          exact ⟨rfl, HB19.out⟩
set_option maxHeartbeats 8000000 in
set_option maxRecDepth 100000 in
theorem args_true (ao0 : Option Addr) (len cap : Nat) (w : World) (hK : KsAt w ao0 len) (ht : Tab w) : Calls Tryd.prog 9 #[.slice ao0 len cap, .bool true] w (RetBool true w) := by
  have K0 := Lib.hid (known_any w ht)
  have KS := Lib.hid hK
  have HT := Lib.hid ht
  clear hK ht
  go_enter Tryd.func9, Tryd.ntmps9
  go_wp2_with fail
  refine K0.out.mono ?_
  rintro e w1 ⟨rfl, hb1⟩
  have HB1 := Lib.hid hb1
  clear hb1 K0
  go_wp2_with fail
  refine (var_any ⟨#[102]⟩ w1).mono ?_
  rintro e w2 ⟨rfl, hb2⟩
  have HB2 := Lib.hid (HB1.out.trans (hb2.mono HB1.out.size))
  replace KS := Lib.hid (KS.out.below HB2.out)
  replace HT := Lib.hid (HT.out.below HB2.out)
  have HS := Lib.hid (AInv.start_cons w2 #[.int .i64 5, .string ⟨#[102]⟩, .slice none 0 0, .slice none 0 0])
  clear hb2 HB1
  go_upto_region 8 with fail
  generalize ((w2.alloc (.cells #[.int .i64 5, .string ⟨#[102]⟩, .slice none 0 0, .slice none 0 0] 28)).alloc (.cells #[.int .i64 10, .string ⟨#[99, 111, 110, 115]⟩, .slice none 0 0, .slice none 0 0] 28)).alloc (.cells #[.int .i64 1, .string ⟨#[49]⟩, .slice none 0 0, .slice none 0 0] 28) = W at HS ⊢
  obtain ⟨B, hB⟩ : ∃ B, B = w2.heap.size := ⟨_, rfl⟩
  generalize w2.heap.size + 1 + 1 = go at HS ⊢
  generalize w2.heap.size + 1 = ge at HS ⊢
  clear hB
  clear B
  go_wp2_with fail
  go_loopw [8, 9, 10] (fun tv nv iv wr => LInv true 2 w2.heap.size w2 ge go tv nv iv wr) (fun _ _ iv _ => 2 - (intOf iv).toNat)
  case atStart => exact ⟨[], _, by simp, rfl, rfl, HS.out⟩
  case round =>
    obtain ⟨l, av, hl, rfl, rfl, M⟩ := hrel
    clear HS
    obtain ⟨ao5, ac5, hav⟩ := M.own.form
    obtain ⟨no5, nc5, hnv⟩ := own_form M.nam
    obtain ⟨np, hnp⟩ : ∃ np, (prt true l).length = np := ⟨_, rfl⟩
    obtain ⟨nn, hnn⟩ : ∃ nn, (nml 0 l).length = nn := ⟨_, rfl⟩
    rw [hnp] at hav
    rw [hnn] at hnv
    subst hav hnv
    have hthk := thk_le l
    have hml2 : np + 1 ≤ 1000000000 := by
      have hpl := prt_len true l
      simp only [if_true, Bool.false_eq_true, if_false] at hpl
      omega
    have hml3 : (nml 0 l).length + 1 ≤ 1000000 := by
      have hnl := nml_len l 0
      omega
    have HNP := Lib.hid hnp
    clear hnp hnn
    by_cases hlt : l.length < 2
    · have q1 : decide ((l.length : Int) < 2) = true := decide_eq_true (by omega)
      have KSR := KS.out.below M.bel
      by_cases hk : l.length < len
      · obtain ⟨x, z, rfl, hc, hz⟩ := KSR l.length hk
        have q2 : decide ((l.length : Int) < (len : Int)) = true := decide_eq_true (by omega)
        go_wp2_with fail
        refine (within18_some z 2 hz (by omega) (by omega) wr).mono ?_
        rintro r9 w5 ⟨r, hr2, rfl, rfl⟩
        clear hc hz KSR q2
        have hr01 : r = 0 ∨ r = 1 := by omega
        rcases hr01 with rfl | rfl
        · skip
          have hat : Et.At (fun x => wr.heap.size ≤ x) wr ko #[.int .i64 1, .string ⟨#[49]⟩, .slice none 0 0, .slice none 0 0] := leaf_at _ _ 1 ⟨#[49]⟩
          obtain ⟨xs, hx8, hB8, c3, hc9⟩ := M.part (Below.refl _ _) hat rfl
          rw [HNP.out] at hx8 hc9
          have HX8 := Lib.hid hx8
          have HC9 := Lib.hid hc9
          obtain ⟨f0, f1, f2, f3⟩ := EB.cell _ _ _ _ _ _ M.one
          have c3' := (EB.cell _ _ _ _ _ _ M.eb).2.2.2
          clear hx8 hc9 hat M
          go_upto_region 18 with (at_builtin; refine wpList_app rfl (Operand.tmp 40) (Operand.tmp 42) rfl w2.heap.size (.slice ao5 np ac5) np xs rfl HX8.out wr.heap.size 1 rfl (#[.int .i64 1, .string ⟨#[49]⟩, .slice none 0 0, .slice none 0 0] : Array Value).toList rfl (row_cellsT _ 28 _) (by intro u hu; simp at hu; rcases hu with rfl | rfl | rfl | rfl <;> rfl) hml2 hB8 ?_; intro av' w9 hown9 hg9 hv9; obtain ⟨ao', ac', rfl⟩ := own_form hown9; obtain ⟨c9, f9, hrest9⟩ := HC9.out _ _ hown9 hg9 hv9; have HRE := Lib.hid hrest9; clear hrest9 hown9 hg9 hv9)
          generalize w9.setCell ⟨ge, 3, none⟩ (.slice ao' (np + 1) ac') = w10 at HRE ⊢
          obtain ⟨hn8, hB9, hnt, hrs⟩ := HRE.out.name (Below.refl _ _) ⟨#[49]⟩
          have HN8 := Lib.hid hn8
          have HNT := Lib.hid hnt
          have HRS := Lib.hid hrs
          clear hn8 hnt hrs HRE c3 c3' f0 f1 f2 f3 c9 f9
          go_wp2_with (at_builtin; refine wpList_appNs rfl (Operand.tmp 45) (Operand.tmp 46) rfl w2.heap.size (.slice no5 nn nc5) (nml 0 l) rfl HN8.out _ [⟨#[49]⟩] rfl HNT.out hml3 hB9 ?_; intro nv' w11 hown11 hg11 hv11; obtain ⟨no', nc', rfl⟩ := own_form hown11; have HRE2 := Lib.hid (HRS.out _ _ hown11 hg11 hv11); clear hown11 hg11 hv11)
          go_roundw
          case rel =>
            have h := HRE2.out
            rw [List.length_append] at h
            exact LInv.thin hlt h
          case measure => simp [intOf]; omega
        · skip
          obtain ⟨d, hd⟩ : ∃ d, d = thk l + 1 := ⟨_, rfl⟩
          have e1 : (thk l : Int) + 1 = (d : Int) := by omega
          have hd7 : d ≤ 7 := by omega
          have HDD := Lib.hid hd
          clear hd
          obtain ⟨xs, hx8, hB8, c3, hc9⟩ := M.part ((Below.refl _ _).alloc (Nat.le_refl _) _) (not_at wr) rfl
          rw [HNP.out] at hx8 hc9
          have HX8 := Lib.hid hx8
          have HC9 := Lib.hid hc9
          obtain ⟨f0, f1, f2, f3⟩ := EB.cell _ _ _ _ _ _ M.one
          have c3' := (EB.cell _ _ _ _ _ _ M.eb).2.2.2
          have s1 : (wr.alloc (.cells #[.int .i64 1, .string ⟨#[49]⟩, .slice none 0 0, .slice none 0 0] 28)).heap.size = wr.heap.size + 1 := by simp
          have HR1 : Hid (EB wr go 1 ⟨#[49]⟩ (.slice none 0 0) (.slice none 0 0)) := M.one
          have hrc : ∀ (j : Nat) u, (#[.int .i64 10, .string ⟨#[110, 111, 116]⟩, .slice none 0 0, .slice (some ⟨wr.heap.size, 0, none⟩) 1 1] : Array Value).toList[j]? = some u → ((wr.alloc (.cells #[.int .i64 1, .string ⟨#[49]⟩, .slice none 0 0, .slice none 0 0] 28)).alloc (.cells #[.int .i64 10, .string ⟨#[110, 111, 116]⟩, .slice none 0 0, .slice (some ⟨wr.heap.size, 0, none⟩) 1 1] 28)).cell? ⟨wr.heap.size + 1, j, none⟩ = some u := by
            have h := row_cellsT (wr.alloc (.cells #[.int .i64 1, .string ⟨#[49]⟩, .slice none 0 0, .slice none 0 0] 28)) 28 (#[.int .i64 10, .string ⟨#[110, 111, 116]⟩, .slice none 0 0, .slice (some ⟨wr.heap.size, 0, none⟩) 1 1] : Array Value).toList
            rw [s1] at h; exact h
          have HRC := Lib.hid hrc
          clear hx8 hc9 M hrc s1
          go_upto_region 21 with (first | (refine wpList_load_row rfl 28 _ rfl go rfl 28 #[.int .i64 1, .string ⟨#[49]⟩, .slice none 0 0, .slice none 0 0] (0, 0) _ HR1.out Tryd.underlying28 rfl info28 ?_) | (at_builtin; refine wpList_app rfl (Operand.tmp 51) (Operand.tmp 55) rfl w2.heap.size (.slice ao5 np ac5) np xs rfl HX8.out (wr.heap.size + 1) 1 rfl (#[.int .i64 10, .string ⟨#[110, 111, 116]⟩, .slice none 0 0, .slice (some ⟨wr.heap.size, 0, none⟩) 1 1] : Array Value).toList rfl HRC.out (by intro u hu; simp at hu; rcases hu with rfl | rfl | rfl | rfl <;> rfl) hml2 hB8 ?_; intro av' w9 hown9 hg9 hv9; obtain ⟨ao', ac', rfl⟩ := own_form hown9; obtain ⟨c9, f9, hrest9⟩ := HC9.out _ _ hown9 hg9 hv9; have HRE := Lib.hid hrest9; clear hrest9 hown9 hg9 hv9))
          generalize w9.setCell ⟨ge, 3, none⟩ (.slice ao' (np + 1) ac') = w10 at HRE ⊢
          have hcv := conv_digit w10 d (by omega)
          have hpc := pn_cat d (by omega)
          obtain ⟨cc, hcc⟩ : ∃ cc : UInt8, cc = UInt8.ofNat (48 + d) := ⟨_, rfl⟩
          rw [← hcc] at hcv hpc
          have HPC := Lib.hid hpc
          obtain ⟨hn8, hB9, hnt, hrs⟩ := HRE.out.name ((Below.refl _ _).alloc (Nat.le_refl _) (.cells #[.int .u8 (48 + (d : Int))] 5)) (⟨#[37, 46]⟩ ++ ⟨#[cc]⟩)
          have s2 : (w10.alloc (.cells #[.int .u8 (48 + (d : Int))] 5)).heap.size = w10.heap.size + 1 := by simp
          rw [s2] at hnt
          clear s2
          have HN8 := Lib.hid hn8
          have HNT := Lib.hid hnt
          have HRS := Lib.hid hrs
          clear hn8 hnt hrs HRE c3 c3' f0 f1 f2 f3 c9 f9 hcc hpc HRC HX8 HC9 HR1
          go_wp2_with (at_builtin; refine wpList_appNs rfl (Operand.tmp 58) (Operand.tmp 65) rfl w2.heap.size (.slice no5 nn nc5) (nml 0 l) rfl HN8.out _ [⟨#[37, 46]⟩ ++ ⟨#[cc]⟩] rfl HNT.out hml3 hB9 ?_; intro nv' w11 hown11 hg11 hv11; obtain ⟨no', nc', rfl⟩ := own_form hown11; have HRE2 := Lib.hid (HRS.out _ _ hown11 hg11 hv11); clear hown11 hg11 hv11)
          go_roundw
          case rel =>
            have h := HRE2.out
            rw [List.length_append, HPC.out] at h
            exact LInv.fat2 HDD.out hlt h
          case measure => simp [intOf]; omega
      · have q2 : decide ((l.length : Int) < (len : Int)) = false := decide_eq_false (by omega)
        go_wp2_with fail
        refine (within18_some (l.length : Int) 2 ⟨by omega, by omega⟩ (by omega) (by omega) wr).mono ?_
        rintro r9 w5 ⟨r, hr2, rfl, rfl⟩
        clear KSR q2
        have hr01 : r = 0 ∨ r = 1 := by omega
        rcases hr01 with rfl | rfl
        · skip
          have hat : Et.At (fun x => wr.heap.size ≤ x) wr ko #[.int .i64 1, .string ⟨#[49]⟩, .slice none 0 0, .slice none 0 0] := leaf_at _ _ 1 ⟨#[49]⟩
          obtain ⟨xs, hx8, hB8, c3, hc9⟩ := M.part (Below.refl _ _) hat rfl
          rw [HNP.out] at hx8 hc9
          have HX8 := Lib.hid hx8
          have HC9 := Lib.hid hc9
          obtain ⟨f0, f1, f2, f3⟩ := EB.cell _ _ _ _ _ _ M.one
          have c3' := (EB.cell _ _ _ _ _ _ M.eb).2.2.2
          clear hx8 hc9 hat M
          go_upto_region 18 with (at_builtin; refine wpList_app rfl (Operand.tmp 40) (Operand.tmp 42) rfl w2.heap.size (.slice ao5 np ac5) np xs rfl HX8.out wr.heap.size 1 rfl (#[.int .i64 1, .string ⟨#[49]⟩, .slice none 0 0, .slice none 0 0] : Array Value).toList rfl (row_cellsT _ 28 _) (by intro u hu; simp at hu; rcases hu with rfl | rfl | rfl | rfl <;> rfl) hml2 hB8 ?_; intro av' w9 hown9 hg9 hv9; obtain ⟨ao', ac', rfl⟩ := own_form hown9; obtain ⟨c9, f9, hrest9⟩ := HC9.out _ _ hown9 hg9 hv9; have HRE := Lib.hid hrest9; clear hrest9 hown9 hg9 hv9)
          generalize w9.setCell ⟨ge, 3, none⟩ (.slice ao' (np + 1) ac') = w10 at HRE ⊢
          obtain ⟨hn8, hB9, hnt, hrs⟩ := HRE.out.name (Below.refl _ _) ⟨#[49]⟩
          have HN8 := Lib.hid hn8
          have HNT := Lib.hid hnt
          have HRS := Lib.hid hrs
          clear hn8 hnt hrs HRE c3 c3' f0 f1 f2 f3 c9 f9
          go_wp2_with (at_builtin; refine wpList_appNs rfl (Operand.tmp 45) (Operand.tmp 46) rfl w2.heap.size (.slice no5 nn nc5) (nml 0 l) rfl HN8.out _ [⟨#[49]⟩] rfl HNT.out hml3 hB9 ?_; intro nv' w11 hown11 hg11 hv11; obtain ⟨no', nc', rfl⟩ := own_form hown11; have HRE2 := Lib.hid (HRS.out _ _ hown11 hg11 hv11); clear hown11 hg11 hv11)
          go_roundw
          case rel =>
            have h := HRE2.out
            rw [List.length_append] at h
            exact LInv.thin hlt h
          case measure => simp [intOf]; omega
        · skip
          obtain ⟨d, hd⟩ : ∃ d, d = thk l + 1 := ⟨_, rfl⟩
          have e1 : (thk l : Int) + 1 = (d : Int) := by omega
          have hd7 : d ≤ 7 := by omega
          have HDD := Lib.hid hd
          clear hd
          obtain ⟨xs, hx8, hB8, c3, hc9⟩ := M.part ((Below.refl _ _).alloc (Nat.le_refl _) _) (not_at wr) rfl
          rw [HNP.out] at hx8 hc9
          have HX8 := Lib.hid hx8
          have HC9 := Lib.hid hc9
          obtain ⟨f0, f1, f2, f3⟩ := EB.cell _ _ _ _ _ _ M.one
          have c3' := (EB.cell _ _ _ _ _ _ M.eb).2.2.2
          have s1 : (wr.alloc (.cells #[.int .i64 1, .string ⟨#[49]⟩, .slice none 0 0, .slice none 0 0] 28)).heap.size = wr.heap.size + 1 := by simp
          have HR1 : Hid (EB wr go 1 ⟨#[49]⟩ (.slice none 0 0) (.slice none 0 0)) := M.one
          have hrc : ∀ (j : Nat) u, (#[.int .i64 10, .string ⟨#[110, 111, 116]⟩, .slice none 0 0, .slice (some ⟨wr.heap.size, 0, none⟩) 1 1] : Array Value).toList[j]? = some u → ((wr.alloc (.cells #[.int .i64 1, .string ⟨#[49]⟩, .slice none 0 0, .slice none 0 0] 28)).alloc (.cells #[.int .i64 10, .string ⟨#[110, 111, 116]⟩, .slice none 0 0, .slice (some ⟨wr.heap.size, 0, none⟩) 1 1] 28)).cell? ⟨wr.heap.size + 1, j, none⟩ = some u := by
            have h := row_cellsT (wr.alloc (.cells #[.int .i64 1, .string ⟨#[49]⟩, .slice none 0 0, .slice none 0 0] 28)) 28 (#[.int .i64 10, .string ⟨#[110, 111, 116]⟩, .slice none 0 0, .slice (some ⟨wr.heap.size, 0, none⟩) 1 1] : Array Value).toList
            rw [s1] at h; exact h
          have HRC := Lib.hid hrc
          clear hx8 hc9 M hrc s1
          go_upto_region 21 with (first | (refine wpList_load_row rfl 28 _ rfl go rfl 28 #[.int .i64 1, .string ⟨#[49]⟩, .slice none 0 0, .slice none 0 0] (0, 0) _ HR1.out Tryd.underlying28 rfl info28 ?_) | (at_builtin; refine wpList_app rfl (Operand.tmp 51) (Operand.tmp 55) rfl w2.heap.size (.slice ao5 np ac5) np xs rfl HX8.out (wr.heap.size + 1) 1 rfl (#[.int .i64 10, .string ⟨#[110, 111, 116]⟩, .slice none 0 0, .slice (some ⟨wr.heap.size, 0, none⟩) 1 1] : Array Value).toList rfl HRC.out (by intro u hu; simp at hu; rcases hu with rfl | rfl | rfl | rfl <;> rfl) hml2 hB8 ?_; intro av' w9 hown9 hg9 hv9; obtain ⟨ao', ac', rfl⟩ := own_form hown9; obtain ⟨c9, f9, hrest9⟩ := HC9.out _ _ hown9 hg9 hv9; have HRE := Lib.hid hrest9; clear hrest9 hown9 hg9 hv9))
          generalize w9.setCell ⟨ge, 3, none⟩ (.slice ao' (np + 1) ac') = w10 at HRE ⊢
          have hcv := conv_digit w10 d (by omega)
          have hpc := pn_cat d (by omega)
          obtain ⟨cc, hcc⟩ : ∃ cc : UInt8, cc = UInt8.ofNat (48 + d) := ⟨_, rfl⟩
          rw [← hcc] at hcv hpc
          have HPC := Lib.hid hpc
          obtain ⟨hn8, hB9, hnt, hrs⟩ := HRE.out.name ((Below.refl _ _).alloc (Nat.le_refl _) (.cells #[.int .u8 (48 + (d : Int))] 5)) (⟨#[37, 46]⟩ ++ ⟨#[cc]⟩)
          have s2 : (w10.alloc (.cells #[.int .u8 (48 + (d : Int))] 5)).heap.size = w10.heap.size + 1 := by simp
          rw [s2] at hnt
          clear s2
          have HN8 := Lib.hid hn8
          have HNT := Lib.hid hnt
          have HRS := Lib.hid hrs
          clear hn8 hnt hrs HRE c3 c3' f0 f1 f2 f3 c9 f9 hcc hpc HRC HX8 HC9 HR1
          go_wp2_with (at_builtin; refine wpList_appNs rfl (Operand.tmp 58) (Operand.tmp 65) rfl w2.heap.size (.slice no5 nn nc5) (nml 0 l) rfl HN8.out _ [⟨#[37, 46]⟩ ++ ⟨#[cc]⟩] rfl HNT.out hml3 hB9 ?_; intro nv' w11 hown11 hg11 hv11; obtain ⟨no', nc', rfl⟩ := own_form hown11; have HRE2 := Lib.hid (HRS.out _ _ hown11 hg11 hv11); clear hown11 hg11 hv11)
          go_roundw
          case rel =>
            have h := HRE2.out
            rw [List.length_append, HPC.out] at h
            exact LInv.fat2 HDD.out hlt h
          case measure => simp [intOf]; omega
    · have q1 : decide ((l.length : Int) < 2) = false := decide_eq_false (by omega)
      have hln : l.length = 2 := by omega
      have HLN := Lib.hid hln
      have HAT := Lib.hid (atm_at M)
      have HBR := Lib.hid (HB2.out.trans (M.bel.mono HB2.out.size))
      have HTR := Lib.hid (HT.out.below M.bel)
      have HNA := Lib.hid (NAt.mono (T := fun _ => True) M.nam.at (fun _ _ => trivial))
      have hsz := atm_size true l
      have HFI := Lib.hid (atm_fine true l)
      have hEB : EB wr ge 10 ⟨#[99, 111, 110, 115]⟩ (.slice none 0 0) (.slice ao5 np ac5) := M.eb
      have HEB := Lib.hid hEB
      have hthl := thick_lt (atm true l)
      have HN := Lib.hid (norm_any (atm true l) HFI.out (by omega) (by omega) _ _ wr HAT.out HTR.out)
      have hN : Calls Tryd.prog 16 #[.agg #[.int .i64 10, .string ⟨#[99, 111, 110, 115]⟩, .slice none 0 0, .slice ao5 np ac5]] wr (RetN (atm true l) wr) := HN.out
      replace HN := Lib.hid hN
      clear M hml2 hml3 HNP hln hEB hN hsz hthl
      go_upto_region 22 with fail
      go_wp2_with (refine wpList_load_row rfl 28 _ rfl ge rfl 28 #[.int .i64 10, .string ⟨#[99, 111, 110, 115]⟩, .slice none 0 0, .slice ao5 np ac5] (0, 0) _ HEB.out Tryd.underlying28 rfl info28 ?_)
      refine HN.out.mono ?_
      rintro q w7 ⟨cs, rfl, hatx, hbx⟩
      rw [atm_nrm] at hatx
      obtain ⟨k1, t1, no1, nn1, nc1, ao2, an1, ac1, rfl⟩ := EAt_sl hatx
      have z1 : (#[.int .i64 k1, .string t1, .slice no1 nn1 nc1, .slice ao2 an1 ac1] : Array Value).all (·.oneCell') = true := by simp [Value.oneCell']
      have A8 := (Below.refl w7.heap.size w7).alloc (Nat.le_refl _) (.cells #[.int .i64 k1, .string t1, .slice no1 nn1 nc1, .slice ao2 an1 ac1] 28)
      have hb8 : Below wr.heap.size wr (w7.alloc (.cells #[.int .i64 k1, .string t1, .slice no1 nn1 nc1, .slice ao2 an1 ac1] 28)) := hbx.trans (A8.mono hbx.size)
      have HB8 := Lib.hid (HBR.out.trans (hb8.mono HBR.out.size))
      have HAX := Lib.hid (Et.At.mono (T := fun x => x < w7.heap.size) (fun x hx => hx.2) _ _ (Et.At.keeps (Keeps.of_below A8) _ _ (Et.At.bound _ _ hatx)))
      have HX0 : Hid ((w7.alloc (.cells #[.int .i64 k1, .string t1, .slice no1 nn1 nc1, .slice ao2 an1 ac1] 28)).heap[w7.heap.size]? = some (.cells #[.int .i64 k1, .string t1, .slice no1 nn1 nc1, .slice ao2 an1 ac1] 28 (0, 0))) := alloc_at _ _
      have hnl := hbx.size
      have HNM : Hid (NAt (fun x => x < w7.heap.size) (w7.alloc (.cells #[.int .i64 k1, .string t1, .slice no1 nn1 nc1, .slice ao2 an1 ac1] 28)) (.slice no5 nn nc5) (nml 0 l)) := by
        refine NAt.mono (NAt.keeps (S := fun x => x < wr.heap.size) ?_ (Keeps.of_below hb8)) (fun x hx => by have : x < wr.heap.size := hx; omega)
        exact NAt.mono (HNA.out.bound) (fun x hx => hx.2)
      have hsW : (w7.alloc (.cells #[.int .i64 k1, .string t1, .slice no1 nn1 nc1, .slice ao2 an1 ac1] 28)).heap.size = w7.heap.size + 1 := by simp
      have hwS : w.heap.size ≤ w7.heap.size := Nat.le_trans HBR.out.size hnl
      clear hatx A8 hb8 HN HEB HAT HTR HNA HBR hbx hnl
      go_upto_region 23 with (refine wpList_store_row rfl 28 _ _ rfl w7.heap.size #[.int .i64 k1, .string t1, .slice no1 nn1 nc1, .slice ao2 an1 ac1] rfl rfl 28 Z4 (alloc_at _ _) info28 rfl z1 ?_)
      try simp only [Act.put]
      have EE : (w7.alloc (.cells #[.int .i64 0, .string ⟨#[]⟩, .slice none 0 0, .slice none 0 0] 28)).setRow w7.heap.size #[.int .i64 k1, .string t1, .slice no1 nn1 nc1, .slice ao2 an1 ac1] = w7.alloc (.cells #[.int .i64 k1, .string t1, .slice no1 nn1 nc1, .slice ao2 an1 ac1] 28) := setRow_new _ _ _ _
      try rw [EE]
      clear EE z1
      have hgW : w7.heap.size < (w7.alloc (.cells #[.int .i64 k1, .string t1, .slice no1 nn1 nc1, .slice ao2 an1 ac1] 28)).heap.size := by omega
      clear hsW
      generalize w7.alloc (.cells #[.int .i64 k1, .string t1, .slice no1 nn1 nc1, .slice ao2 an1 ac1] 28) = W8 at HB8 HAX HX0 HNM hgW ⊢
      generalize w7.heap.size = gx at HX0 HAX HNM hgW hwS ⊢
      have hth2 : thk l ≤ 2 := by have := HLN.out; omega
      go_wp2_with fail
      go_loopw [13] (fun iv wr => XInv true l gx W8 iv wr) (fun iv _ => 8 - (intOf iv).toNat)
      case atStart => exact ⟨1, _, Nat.le_refl _, by omega, rfl, HX0.out, HAX.out, Below.refl _ _⟩
      case round =>
        obtain ⟨j, cs, hj1, hj2, rfl, hrow, hatx, hbx⟩ := hrel
        by_cases hjt : j ≤ thk l
        · have q3 : decide ((j : Int) ≤ (thk l : Int)) = true := decide_eq_true (by omega)
          rw [vls_drop l j hj1 hjt] at hatx
          obtain ⟨xr, hxr⟩ : ∃ xr, xr = lets ((vls 0 l).drop (j + 1 - 1)) (abd true l) := ⟨_, rfl⟩
          rw [← hxr] at hatx
          have HXR := Lib.hid hxr
          unfold ebind at hatx
          rw [EAt_mk] at hatx
          obtain ⟨nv9, av9, rfl, hnv9, hav9⟩ := hatx
          obtain ⟨nco, ncc, rfl⟩ := hnv9.form
          obtain ⟨aco, acc, rfl⟩ := hav9.form
          obtain ⟨gn, on, rfl, -, cn⟩ := hnv9.get 0 (by simp)
          obtain ⟨ga, oa, kr, tr, nvr, avr, rfl, -, -, hatr, e0, e1, e2, e3, o1', o2'⟩ := hav9.get 1 (by simp)
          simp only [List.length_cons, List.length_nil, Nat.zero_add, Nat.reduceAdd, Nat.add_zero, Nat.one_mul, List.getElem_cons_zero, List.getElem_cons_succ] at cn e0 e1 e2 e3 hatr hrow
          obtain ⟨nor, nnr, ncr, aor, anr, acr, rfl, rfl⟩ : ∃ nod nnd ncd aod ad cd, nvr = .slice nod nnd ncd ∧ avr = .slice aod ad cd := by
            obtain ⟨k3, t3, no2, nn2, nc2, ao4, an2, ac2, e4⟩ := EAt_sl hatr
            simp only [Array.mk.injEq, List.cons.injEq, Value.int.injEq, Value.string.injEq, and_true, true_and] at e4
            exact ⟨_, _, _, _, _, _, e4.2.2.1, e4.2.2.2⟩
          have HRO : Hid (EB wr gx 9 ⟨#[]⟩ (.slice (some ⟨gn, on, none⟩) 1 ncc) (.slice (some ⟨ga, oa, none⟩) 2 acc)) := hrow
          have HC : Hid (∀ w', Below wr.heap.size wr w' → (w'.cell? ⟨gx, 0, none⟩ = some (.int .i64 9) ∧ w'.cell? ⟨gx, 1, none⟩ = some (.string ⟨#[]⟩) ∧ w'.cell? ⟨gx, 2, none⟩ = some (.slice (some ⟨gn, on, none⟩) 1 ncc) ∧ w'.cell? ⟨gx, 3, none⟩ = some (.slice (some ⟨ga, oa, none⟩) 2 acc)) ∧ w'.cell? ⟨gn, on, none⟩ = some (.string (pn j))) := fun w' hw' =>
            ⟨EB.cell _ _ _ _ _ _ (row_below hw' HRO.out), cell_below hw' cn⟩
          have hj10 : j < 10 := by omega
          have hcv := fun w => conv_digit w j hj10
          have hpc := pn_cat j hj10
          obtain ⟨cc, hcc⟩ : ∃ cc : UInt8, cc = UInt8.ofNat (48 + j) := ⟨_, rfl⟩
          rw [← hcc] at hcv hpc
          have HCV := Lib.hid hcv
          obtain ⟨pnj, hpn⟩ : ∃ pnj, pnj = pn j := ⟨_, rfl⟩
          rw [← hpn] at HC hpc
          have HPC := Lib.hid hpc
          have HATR := Lib.hid hatr
          have HBX := Lib.hid hbx
          have HE := Lib.hid (And.intro e0 (And.intro e1 (And.intro e2 e3)))
          clear hcv hpc hcc hpn hatr hbx e0 e1 e2 e3 cn hnv9 hav9 hxr hrow o1' o2'
          go_upto_region 26 with fail
          have HS0 : Hid (Below wr.heap.size wr wr.drew) := (Below.refl _ _).drew
          refine wp_region_noPanic ?_
          refine wp_region_held_drew (S := Below wr.heap.size wr) (by kernel_rfl) HS0.out (fun hHeld => ?_)
          generalize wr.drew = X at HS0 hHeld ⊢
          refine wpAnyH_take (i := 0) (v := Value.pointer (some ⟨gx, 0, none⟩)) rfl (by kernel_rfl) (by kernel_rfl) (by kernel_rfl) (fun _ _ _ h => h) (Or.inl ⟨rfl, fun w' hw' => ?_⟩) hHeld ?_
          · go_simp
          simp only [List.getElem_toArray, List.getElem_cons_succ, List.getElem_cons_zero, Act.put, List.setIfInBounds_toArray, List.set_cons_zero, List.set_cons_succ]
          refine wpAnyH_take (i := 1) (v := Value.int .i64 9) rfl (by kernel_rfl) (by kernel_rfl) (by kernel_rfl) (fun _ _ _ h => h) (Or.inl ⟨rfl, fun w' hw' => ?_⟩) hHeld ?_
          · obtain ⟨⟨g0, g1, g2, g3⟩, s0⟩ := HC.out w' hw'; go_simp
          simp only [List.getElem_toArray, List.getElem_cons_succ, List.getElem_cons_zero, Act.put, List.setIfInBounds_toArray, List.set_cons_zero, List.set_cons_succ]
          refine wpAnyH_take (i := 2) (v := Value.bool false) rfl (by kernel_rfl) (by kernel_rfl) (by kernel_rfl) (fun _ _ _ h => h) (Or.inl ⟨rfl, fun w' hw' => ?_⟩) hHeld ?_
          · go_simp
          simp only [List.getElem_toArray, List.getElem_cons_succ, List.getElem_cons_zero, Act.put, List.setIfInBounds_toArray, List.set_cons_zero, List.set_cons_succ]
          refine wpAnyH_take (i := 3) (v := Value.bool false) rfl (by kernel_rfl) (by kernel_rfl) (by kernel_rfl) (fun _ _ _ h => h) (Or.inl ⟨rfl, fun w' hw' => ?_⟩) hHeld ?_
          · go_simp
          simp only [List.getElem_toArray, List.getElem_cons_succ, List.getElem_cons_zero, Act.put, List.setIfInBounds_toArray, List.set_cons_zero, List.set_cons_succ]
          refine wpAnyH_take (i := 4) (v := Value.pointer (some ⟨gx, 2, none⟩)) rfl (by kernel_rfl) (by kernel_rfl) (by kernel_rfl) (fun _ _ _ h => h) (Or.inl ⟨rfl, fun w' hw' => ?_⟩) hHeld ?_
          · go_simp
          simp only [List.getElem_toArray, List.getElem_cons_succ, List.getElem_cons_zero, Act.put, List.setIfInBounds_toArray, List.set_cons_zero, List.set_cons_succ]
          refine wpAnyH_take (i := 5) (v := Value.slice (some ⟨gn, on, none⟩) 1 ncc) rfl (by kernel_rfl) (by kernel_rfl) (by kernel_rfl) (fun _ _ _ h => h) (Or.inl ⟨rfl, fun w' hw' => ?_⟩) hHeld ?_
          · obtain ⟨⟨g0, g1, g2, g3⟩, s0⟩ := HC.out w' hw'; go_simp
          simp only [List.getElem_toArray, List.getElem_cons_succ, List.getElem_cons_zero, Act.put, List.setIfInBounds_toArray, List.set_cons_zero, List.set_cons_succ]
          refine wpAnyH_take (i := 6) (v := Value.int .i64 1) rfl (by kernel_rfl) (by kernel_rfl) (by kernel_rfl) (fun _ _ _ h => h) (Or.inl ⟨rfl, fun w' hw' => ?_⟩) hHeld ?_
          · go_simp
          simp only [List.getElem_toArray, List.getElem_cons_succ, List.getElem_cons_zero, Act.put, List.setIfInBounds_toArray, List.set_cons_zero, List.set_cons_succ]
          refine wpAnyH_take (i := 7) (v := Value.bool false) rfl (by kernel_rfl) (by kernel_rfl) (by kernel_rfl) (fun _ _ _ h => h) (Or.inl ⟨rfl, fun w' hw' => ?_⟩) hHeld ?_
          · go_simp
          simp only [List.getElem_toArray, List.getElem_cons_succ, List.getElem_cons_zero, Act.put, List.setIfInBounds_toArray, List.set_cons_zero, List.set_cons_succ]
          refine wpAnyH_take (i := 8) (v := Value.bool false) rfl (by kernel_rfl) (by kernel_rfl) (by kernel_rfl) (fun _ _ _ h => h) (Or.inl ⟨rfl, fun w' hw' => ?_⟩) hHeld ?_
          · go_simp
          simp only [List.getElem_toArray, List.getElem_cons_succ, List.getElem_cons_zero, Act.put, List.setIfInBounds_toArray, List.set_cons_zero, List.set_cons_succ]
          refine wpAnyH_take (i := 9) (v := Value.bool false) rfl (by kernel_rfl) (by kernel_rfl) (by kernel_rfl) (fun _ _ _ h => h) (Or.inl ⟨rfl, fun w' hw' => ?_⟩) hHeld ?_
          · go_simp
          simp only [List.getElem_toArray, List.getElem_cons_succ, List.getElem_cons_zero, Act.put, List.setIfInBounds_toArray, List.set_cons_zero, List.set_cons_succ]
          refine wpAnyH_take (i := 10) (v := Value.pointer (some ⟨gx, 2, none⟩)) rfl (by kernel_rfl) (by kernel_rfl) (by kernel_rfl) (fun _ _ _ h => h) (Or.inl ⟨rfl, fun w' hw' => ?_⟩) hHeld ?_
          · go_simp
          simp only [List.getElem_toArray, List.getElem_cons_succ, List.getElem_cons_zero, Act.put, List.setIfInBounds_toArray, List.set_cons_zero, List.set_cons_succ]
          refine wpAnyH_take (i := 11) (v := Value.slice (some ⟨gn, on, none⟩) 1 ncc) rfl (by kernel_rfl) (by kernel_rfl) (by kernel_rfl) (fun _ _ _ h => h) (Or.inl ⟨rfl, fun w' hw' => ?_⟩) hHeld ?_
          · obtain ⟨⟨g0, g1, g2, g3⟩, s0⟩ := HC.out w' hw'; go_simp
          simp only [List.getElem_toArray, List.getElem_cons_succ, List.getElem_cons_zero, Act.put, List.setIfInBounds_toArray, List.set_cons_zero, List.set_cons_succ]
          refine wpAnyH_take (i := 12) (v := Value.pointer (some ⟨gn, on, none⟩)) rfl (by kernel_rfl) (by kernel_rfl) (by kernel_rfl) (fun _ _ _ h => h) (Or.inl ⟨rfl, fun w' hw' => ?_⟩) hHeld ?_
          · go_simp
          simp only [List.getElem_toArray, List.getElem_cons_succ, List.getElem_cons_zero, Act.put, List.setIfInBounds_toArray, List.set_cons_zero, List.set_cons_succ]
          refine wpAnyH_take (i := 13) (v := Value.string pnj) rfl (by kernel_rfl) (by kernel_rfl) (by kernel_rfl) (fun _ _ _ h => h) (Or.inl ⟨rfl, fun w' hw' => ?_⟩) hHeld ?_
          · obtain ⟨⟨g0, g1, g2, g3⟩, s0⟩ := HC.out w' hw'; go_simp
          simp only [List.getElem_toArray, List.getElem_cons_succ, List.getElem_cons_zero, Act.put, List.setIfInBounds_toArray, List.set_cons_zero, List.set_cons_succ]
          refine wpAnyH_take (i := 14) (v := Value.int .i64 (j : Int)) rfl (by kernel_rfl) (by kernel_rfl) (by kernel_rfl) (fun _ _ _ h => h) (Or.inl ⟨rfl, fun w' hw' => ?_⟩) hHeld ?_
          · go_simp
          simp only [List.getElem_toArray, List.getElem_cons_succ, List.getElem_cons_zero, Act.put, List.setIfInBounds_toArray, List.set_cons_zero, List.set_cons_succ]
          refine wpAnyH_take (i := 15) (v := Value.int .i64 (48 + (j : Int))) rfl (by kernel_rfl) (by kernel_rfl) (by kernel_rfl) (fun _ _ _ h => h) (Or.inl ⟨rfl, fun w' hw' => ?_⟩) hHeld ?_
          · go_simp; exact (wrap_sm j hj10).1
          simp only [List.getElem_toArray, List.getElem_cons_succ, List.getElem_cons_zero, Act.put, List.setIfInBounds_toArray, List.set_cons_zero, List.set_cons_succ]
          refine wpAnyH_take (i := 16) (v := Value.int .u8 (48 + (j : Int))) rfl (by kernel_rfl) (by kernel_rfl) (by kernel_rfl) (fun _ _ _ h => h) (Or.inl ⟨rfl, fun w' hw' => ?_⟩) hHeld ?_
          · go_simp; exact (wrap_sm j hj10).2
          simp only [List.getElem_toArray, List.getElem_cons_succ, List.getElem_cons_zero, Act.put, List.setIfInBounds_toArray, List.set_cons_zero, List.set_cons_succ]
          refine wpAnyH_ready (rs := [17]) (by kernel_rfl) (by simp) ?_
          refine (AllReadyH.cons rfl (fun K hK => ?_) AllReadyH.nil)
          go_simp
          have HS17 : Hid (Below wr.heap.size wr (X.alloc (.cells #[.int .u8 (48 + (j : Int))] 5))) := HS0.out.alloc HS0.out.size _
          refine hK.out _ _ HS17.out (fun hHeld => ?_)
          clear hK K
          try simp only [List.getElem_toArray, List.getElem_cons_succ, List.getElem_cons_zero, Act.put, List.setIfInBounds_toArray, List.set_cons_zero, List.set_cons_succ]
          refine wpAnyH_ready (rs := [18]) (by kernel_rfl) (by simp) ?_
          refine (AllReadyH.cons rfl (fun K hK => ?_) AllReadyH.nil)
          have hcv := HCV.out X
          go_simp
          clear hcv
          refine hK.out _ _ HS17.out (fun hHeld => ?_)
          clear hK K
          try simp only [List.getElem_toArray, List.getElem_cons_succ, List.getElem_cons_zero, Act.put, List.setIfInBounds_toArray, List.set_cons_zero, List.set_cons_succ]
          refine wpAnyH_take (i := 19) (v := Value.string (⟨#[37, 46]⟩ ++ ⟨#[cc]⟩)) rfl (by kernel_rfl) (by kernel_rfl) (by kernel_rfl) (fun _ _ _ h => h) (Or.inl ⟨rfl, fun w' hw' => ?_⟩) hHeld ?_
          · go_simp
          simp only [List.getElem_toArray, List.getElem_cons_succ, List.getElem_cons_zero, Act.put, List.setIfInBounds_toArray, List.set_cons_zero, List.set_cons_succ]
          refine wpAnyH_take (i := 20) (v := Value.bool false) rfl (by kernel_rfl) (by kernel_rfl) (by kernel_rfl) (fun _ _ _ h => h) (Or.inl ⟨rfl, fun w' hw' => ?_⟩) hHeld ?_
          · have hp := HPC.out; go_simp
          simp only [List.getElem_toArray, List.getElem_cons_succ, List.getElem_cons_zero, Act.put, List.setIfInBounds_toArray, List.set_cons_zero, List.set_cons_succ]
          refine wpAnyH_take (i := 21) (v := Value.bool false) rfl (by kernel_rfl) (by kernel_rfl) (by kernel_rfl) (fun _ _ _ h => h) (Or.inl ⟨rfl, fun w' hw' => ?_⟩) hHeld ?_
          · go_simp
          simp only [List.getElem_toArray, List.getElem_cons_succ, List.getElem_cons_zero, Act.put, List.setIfInBounds_toArray, List.set_cons_zero, List.set_cons_succ]
          refine wpAnyH_take (i := 22) (v := Value.bool false) rfl (by kernel_rfl) (by kernel_rfl) (by kernel_rfl) (fun _ _ _ h => h) (Or.inl ⟨rfl, fun w' hw' => ?_⟩) hHeld ?_
          · go_simp
          simp only [List.getElem_toArray, List.getElem_cons_succ, List.getElem_cons_zero, Act.put, List.setIfInBounds_toArray, List.set_cons_zero, List.set_cons_succ]
          refine wpAnyH_take (i := 23) (v := Value.pointer (some ⟨gx, 3, none⟩)) rfl (by kernel_rfl) (by kernel_rfl) (by kernel_rfl) (fun _ _ _ h => h) (Or.inl ⟨rfl, fun w' hw' => ?_⟩) hHeld ?_
          · go_simp
          simp only [List.getElem_toArray, List.getElem_cons_succ, List.getElem_cons_zero, Act.put, List.setIfInBounds_toArray, List.set_cons_zero, List.set_cons_succ]
          refine wpAnyH_take (i := 24) (v := Value.slice (some ⟨ga, oa, none⟩) 2 acc) rfl (by kernel_rfl) (by kernel_rfl) (by kernel_rfl) (fun _ _ _ h => h) (Or.inl ⟨rfl, fun w' hw' => ?_⟩) hHeld ?_
          · obtain ⟨⟨g0, g1, g2, g3⟩, s0⟩ := HC.out w' hw'; go_simp
          simp only [List.getElem_toArray, List.getElem_cons_succ, List.getElem_cons_zero, Act.put, List.setIfInBounds_toArray, List.set_cons_zero, List.set_cons_succ]
          refine wpAnyH_take (i := 25) (v := Value.int .i64 2) rfl (by kernel_rfl) (by kernel_rfl) (by kernel_rfl) (fun _ _ _ h => h) (Or.inl ⟨rfl, fun w' hw' => ?_⟩) hHeld ?_
          · go_simp
          simp only [List.getElem_toArray, List.getElem_cons_succ, List.getElem_cons_zero, Act.put, List.setIfInBounds_toArray, List.set_cons_zero, List.set_cons_succ]
          refine wpAnyH_take (i := 26) (v := Value.bool false) rfl (by kernel_rfl) (by kernel_rfl) (by kernel_rfl) (fun _ _ _ h => h) (Or.inl ⟨rfl, fun w' hw' => ?_⟩) hHeld ?_
          · go_simp
          simp only [List.getElem_toArray, List.getElem_cons_succ, List.getElem_cons_zero, Act.put, List.setIfInBounds_toArray, List.set_cons_zero, List.set_cons_succ]
          refine wpAnyH_take (i := 27) (v := Value.bool false) rfl (by kernel_rfl) (by kernel_rfl) (by kernel_rfl) (fun _ _ _ h => h) (Or.inl ⟨rfl, fun w' hw' => ?_⟩) hHeld ?_
          · go_simp
          simp only [List.getElem_toArray, List.getElem_cons_succ, List.getElem_cons_zero, Act.put, List.setIfInBounds_toArray, List.set_cons_zero, List.set_cons_succ]
          refine wpAnyH_done (by kernel_rfl) ?_ _
          refine NoPanic.normal ?_
          clear hHeld
          have hw17 := HS17.out
          generalize X.alloc (.cells #[.int .u8 (48 + (j : Int))] 5) = w17 at hw17 ⊢
          obtain ⟨y0, y1, y2, y3⟩ := HE.out
          have g0 := cell_below hw17 y0
          have g1 := cell_below hw17 y1
          have g2 := cell_below hw17 y2
          have g3 := cell_below hw17 y3
          have HR17 : Hid (EB w17 gx 9 ⟨#[]⟩ (.slice (some ⟨gn, on, none⟩) 1 ncc) (.slice (some ⟨ga, oa, none⟩) 2 acc)) := row_below hw17 HRO.out
          obtain ⟨-, -, -, c3⟩ := EB.cell _ _ _ _ _ _ HR17.out
          have zR : (#[.int .i64 kr, .string tr, .slice nor nnr ncr, .slice aor anr acr] : Array Value).all (·.oneCell') = true := by simp [Value.oneCell']
          have HFIN : Hid (XInv true l gx W8 (.int .i64 ((j : Int) + 1)) (w17.setRow gx #[.int .i64 kr, .string tr, .slice nor nnr ncr, .slice aor anr acr])) := by
            refine ⟨j + 1, #[.int .i64 kr, .string tr, .slice nor nnr ncr, .slice aor anr acr], by omega, by omega, by go_num, setRow_heap w17 _ _ _ 28 _ HR17.out, ?_, ?_⟩
            · rw [← HXR.out]
              refine Et.At.keeps (S := fun x => x < gx) (fun x c T fz hs hx _ => ⟨fz, by rw [setRow_other w17 gx x _ (by have : x < gx := hs; omega), hw17.block x (Array.getElem?_eq_some_iff.1 hx).1]; exact hx⟩) _ _ HATR.out
            · have hgl : gx < wr.heap.size := (Array.getElem?_eq_some_iff.1 HRO.out).1
              exact (HBX.out.trans (hw17.mono (by omega))).trans ⟨rfl, rfl, rfl, by simp, fun k hk => setRow_other _ gx k _ (by omega)⟩
          clear HC HCV HPC HS17 HS0 hw17 y0 y1 y2 y3 HE HRO HATR HXR HBX
          go_wp2_with (refine wpList_store_row rfl 28 _ _ rfl gx #[.int .i64 kr, .string tr, .slice nor nnr ncr, .slice aor anr acr] rfl rfl 28 _ HR17.out info28 rfl zR ?_)
          go_roundw
          case rel => exact HFIN.out
          case measure => simp [intOf]; omega
        · have q3 : decide ((j : Int) ≤ (thk l : Int)) = false := decide_eq_false (by omega)
          rw [vls_end l j (by omega)] at hatx
          obtain ⟨k2, t2, no2, nn2, nc2, ao4, an2, ac2, rfl⟩ := EAt_sl hatx
          have hnr : NAt (fun x => x < gx) wr (.slice no5 nn nc5) (nml 0 l) := NAt.keeps HNM.out (fun x c T fz hs hx _ => ⟨fz, by rw [hbx.block x hs]; exact hx⟩)
          have hl6 : l.length ≤ 6 := by omega
          have hne : l ≠ [] := by intro e; have := HLN.out; rw [e] at this; simp at this
          have hT := reftext_any (abd true l) (abd_right true l HLN.out) (abd_fine true l hl6).1 (by have := (abd_fine true l hl6).2; omega) _ _ wr hatx
          have hsm := nml_small l 0 (by omega)
          have hlen := nml_len l 0
          have hN := names_any (nml 0 l) hsm (by omega) _ _ wr hnr
          have hjl := jn_le (nml 0 l) hsm
          have hEQ := abd_text true l hne
          obtain ⟨sx, hsx⟩ : ∃ s : ByteArray, s = ⟨(abd true l).wr.toArray⟩ := ⟨_, rfl⟩
          obtain ⟨sn, hsn⟩ : ∃ s : ByteArray, s = ⟨(jn (nml 0 l)).toArray⟩ := ⟨_, rfl⟩
          have y1 : sn.size ≤ 700 := by rw [hsn]; simp [ByteArray.size]; omega
          rw [← hsx] at hT hEQ
          rw [← hsn] at hN hEQ
          have hEQ2 : (⟨#[40, 99, 111, 110, 115, 32]⟩ : ByteArray) ++ sn ++ ⟨#[41]⟩ = sx := hEQ
          have HEQ := Lib.hid hEQ2
          have HTT := Lib.hid hT
          have HNN := Lib.hid (fun w' (hb : Below wr.heap.size wr w') => names_any (nml 0 l) hsm (by omega) _ _ w' (hnr.keeps (Keeps.of_below hb)))
          rw [← hsn] at HNN
          have hrow2 : EB wr gx k2 t2 (.slice no2 nn2 nc2) (.slice ao4 an2 ac2) := hrow
          have HRO := Lib.hid hrow2
          have HBR := Lib.hid (HB8.out.trans (hbx.mono hwS))
          clear hrow hatx hbx hrow2 hT hN hEQ hEQ2 hsx hsn hnr hjl hsm hlen hne
          go_wp2_with (refine wpList_load_row rfl 28 _ rfl gx rfl 28 #[.int .i64 k2, .string t2, .slice no2 nn2 nc2, .slice ao4 an2 ac2] (0, 0) _ HRO.out Tryd.underlying28 rfl info28 ?_)
          refine HTT.out.mono ?_
          rintro r w18 ⟨rfl, hb18⟩
          have HB18 := Lib.hid (HBR.out.trans (hb18.mono HBR.out.size))
          have HN18 := Lib.hid (HNN.out w18 hb18)
          clear hb18 HNN
          go_wp2_with fail
          refine HN18.out.mono ?_
          rintro r w19 ⟨rfl, hb19⟩
          have HB19 := Lib.hid (HB18.out.trans (hb19.mono HB18.out.size))
          clear hb19
          have heq := HEQ.out
          go_wp2_with fail
          go_ret
          exact ⟨rfl, HB19.out⟩
theorem args_walk (a0 : Option Addr) (len0 cap0 : Nat) (z0 : List Int) (c : Bool) (w : World) (w0 : IsRow .i64 w a0 len0 cap0 z0) (ht : Tab w) : Calls Tryd.prog 9 #[.slice a0 len0 cap0, .bool c] w (RetBool true w) := by
  have hK := KsAt.of_row w0
  cases c with
  | true => exact args_true a0 len0 cap0 w hK ht
  | false => exact args_false a0 len0 cap0 w hK ht
end Go.Proofs.YtmcgocbkjdacaaaDoor
