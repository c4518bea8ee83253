/- Is a heap the document's? -/
import Derived.Test.YtjecjlnkpbbanaaL7
namespace Go.Proofs.Ytjecjlnkpbbanaa
open Go Go.RowKit
set_option linter.unusedVariables false
set_option linter.unusedSimpArgs false
theorem adrs_bd {os : List Ob} (h : total os ≤ 1000000) : ∀ a ∈ adrs os, 0 ≤ a ∧ a ≤ 1000000 := by
  intro a ha
  obtain ⟨i, hi, rfl⟩ := List.mem_map.1 ha
  have hi' : i < os.length := List.mem_range.1 hi
  have := adr_le hi'
  omega
def SmInv (w : World) (n : Nat) (iv : Value) (wr : World) : Prop := ∃ j : Nat, j ≤ n ∧ iv = .int .i64 (j : Int) ∧ Below w.heap.size w wr
set_option maxHeartbeats 16000000 in
set_option maxRecDepth 100000 in
theorem same_r {B w : World} {b x : Nat} {G : Option Nat} {C : Nat → Nat} {qs : List Nat} {os : List Ob} {m : Nat} (h : Pr B w b x G C qs os m) : Calls Try.prog 19 #[.pointer (some ⟨b, 0, none⟩), .pointer (some ⟨x, 0, none⟩)] w (RetV (.bool true) w) := by
  have HH := Lib.hid h
  have htm : total os ≤ 1000000 := by have := h.hl.hp.2.2.2; omega
  have hol := total_len os
  have F23 : Hid (∀ W, Below w.heap.size w W → Calls Try.prog 20 #[.pointer (some ⟨b, 0, none⟩)] W fun e w' => e = .returned (.int .i64 (total os : Nat)) ∧ W = w') := fun W hb => by
    have := used_any (h.below hb).hl.hp.1
    rw [wds_length] at this
    exact this
  have F35 := Lib.hid (fun W (hb : Below w.heap.size w W) => rused_r (h.below hb).rh)
  have F26 := Lib.hid (fun W (hb : Below w.heap.size w W) => words_any (h.below hb).hl.hp.1)
  have F36 := Lib.hid (fun W (hb : Below w.heap.size w W) => rwords_r (h.below hb).rh)
  have F25 := Lib.hid (fun W (hb : Below w.heap.size w W) => objects_o (h.below hb).hl.hp)
  have F37 := Lib.hid (fun W (hb : Below w.heap.size w W) => robjects_r (h.below hb).rh)
  have F18 := Lib.hid (fun W (hb : Below w.heap.size w W) (a : Int) (h1 : -9223372036854775808 ≤ a) (h2 : a ≤ 9223372036854775807) => tagm_any (h.below hb).hl.hp a h1 h2)
  have F19 := Lib.hid (fun W (hb : Below w.heap.size w W) (a : Int) => rtag_r (h.below hb).rh a)
  have F27 := Lib.hid (fun W (hb : Below w.heap.size w W) (a : Int) (h1 : -1000000000 ≤ a) (h2 : a ≤ 1000000000) => ptrs_o (h.below hb).hl.hp a h1 h2)
  have F38 := Lib.hid (fun W (hb : Below w.heap.size w W) (a : Int) => rptrs_r (h.below hb).rh a)
  have F28 := Lib.hid (fun W (hb : Below w.heap.size w W) (a : Int) (h1 : -1000000000 ≤ a) (h2 : a ≤ 1000000000) => nums_o (h.below hb).hl.hp a h1 h2)
  have F39 := Lib.hid (fun W (hb : Below w.heap.size w W) (a : Int) => rnums_r (h.below hb).rh a)
  have F20 := Lib.hid (fun W (hb : Below w.heap.size w W) (a : Int) (h1 : -9223372036854775808 ≤ a) (h2 : a ≤ 9223372036854775807) => follow_o (h.below hb).hl.hp a h1 h2)
  have F21 := Lib.hid (fun W (hb : Below w.heap.size w W) (a : Int) => rfollow_r (h.below hb).rh a)
  have HPL : Hid (∀ a, (ptrsOf os a).length ≤ 255 ∧ (numsOf os a).length ≤ 255) := fun a => by
    have h1 := hdo_low h.hl.hp.2.1 a
    rw [ptrsOf_len h.hl.hp.2.1, numsOf_len h.hl.hp.2.1]
    exact ⟨h1.2.1, h1.2.2.1⟩
  have HAB := Lib.hid (adrs_bd htm)
  have hal : (adrs os).length ≤ 1000000 := by rw [adrs_len]; omega
  clear h
  obtain ⟨U, hU⟩ : ∃ U, U = total os := ⟨_, rfl⟩
  rw [← hU] at F23 F35 htm hol
  clear hU
  generalize adrs os = ads at F25 F37 HAB hal
  obtain ⟨L, hL⟩ : ∃ L, L = ads.length := ⟨_, rfl⟩
  have HLL := Lib.hid hL
  clear hL hol
  go_enter Try.func19, Try.ntmps19
  go_wp2_with fail
  refine (F23.out w (Below.refl _ _)).mono ?_
  rintro e w1 ⟨rfl, rfl⟩
  go_wp2_with fail
  refine (F35.out w (Below.refl _ _)).mono ?_
  rintro e w1 ⟨rfl, rfl⟩
  go_wp2_with fail
  refine (F26.out w (Below.refl _ _)).mono ?_
  rintro e w1 ⟨rfl, rfl⟩
  go_wp2_with fail
  refine (F36.out w (Below.refl _ _)).mono ?_
  rintro e w1 ⟨rfl, rfl⟩
  go_wp2_with fail
  refine (F25.out w (Below.refl _ _)).mono ?_
  rintro e w1 hr
  obtain ⟨ao1, c1, rfl, ho1, hb1⟩ := hr.form
  have HB1 := Lib.hid hb1
  have R1 := Lib.hid (own_isS ho1)
  rw [← HLL.out] at R1 ⊢
  clear hr ho1 hb1
  go_wp2_with fail
  refine (F37.out w1 HB1.out).mono ?_
  rintro e w2 hr
  obtain ⟨ao2, c2, rfl, ho2, hb2⟩ := hr.form
  have HB2 := Lib.hid (HB1.out.trans (hb2.mono HB1.out.size))
  have R2 := Lib.hid (own_isS ho2)
  have F24 := Lib.hid (ints_eq (R1.out.below hb2) R2.out hal)
  rw [← HLL.out] at F24 ⊢
  clear hr ho2 hb2 HB1 R1 R2
  go_wp2_with fail
  refine F24.out.mono ?_
  rintro e w3 ⟨rfl, hb3⟩
  have HB3 := Lib.hid (HB2.out.trans (hb3.mono HB2.out.size))
  clear hb3 F24 HB2
  go_wp2_with fail
  refine (F37.out w3 HB3.out).mono ?_
  rintro e w4 hr
  obtain ⟨ao4, c4, rfl, ho4, hb4⟩ := hr.form
  have HB4 := Lib.hid (HB3.out.trans (hb4.mono HB3.out.size))
  have HO4 := Lib.hid (own_less ho4 HB3.out.size)
  rw [← HLL.out] at HO4 ⊢
  clear hr ho4 hb4 HB3
  have HO5 := Lib.hid (HO4.out.alloc (.cells #[.int .i64 (-1), .int .i64 1, .int .i64 (U : Nat)] 3))
  have HB5 := Lib.hid (HB4.out.alloc HB4.out.size (.cells #[.int .i64 (-1), .int .i64 1, .int .i64 (U : Nat)] 3))
  have HSR : Hid (SrcA (w4.alloc (.cells #[.int .i64 (-1), .int .i64 1, .int .i64 (U : Nat)] 3)) 1 (.slice (some ⟨w4.heap.size, 0, none⟩) 3 3) 3 ([-1, 1, (U : Int)].map (Value.int .i64))) := isS_srcA (block_isS (l := [-1, 1, (U : Int)]) (alloc_at w4 _))
  have hL9 : L + 3 ≤ 1000000000 := by have := HLL.out; omega
  have HBD : Hid (∀ y ∈ ads ++ [-1, 1, (U : Int)], -1 ≤ y ∧ y ≤ 1000000) := fun y hy => by
    rcases List.mem_append.1 hy with h | h
    · have := HAB.out y h; omega
    · simp at h; omega
  go_wp2_with fail
  refine (F35.out w4 HB4.out).mono ?_
  rintro e w5 ⟨rfl, rfl⟩
  clear HO4
  go_wp2_with (refine wpList_wantedR (by rfl) fun K hK => ?_; refine wp_appI (Operand.tmp 29) (Operand.tmp 32) rfl w.heap.size (.slice ao4 L c4) L _ rfl HO5.out (.slice (some ⟨w4.heap.size, 0, none⟩) 3 3) rfl 3 _ HSR.out hL9 HB5.out.size ?_; intro v9 w9 hown9 hg9 hv9; rw [← List.map_append] at hown9; obtain ⟨a9, c9, hvf⟩ := own_sform hown9; subst hvf; have HB9 := Lib.hid (below_grown HB5.out HO5.out hg9); have HO9 := Lib.hid (own_isS hown9); clear hown9 hg9 hv9 HO5 HSR; refine hK _ _ ?_; clear hK K)
  have hn9 : (ads ++ [-1, 1, (U : Int)]).length = L + 3 := by rw [List.length_append, ← HLL.out]; rfl
  have HN9 := Lib.hid hn9
  generalize ads ++ [-1, 1, (U : Int)] = ll at HO9 HBD hn9 HN9
  obtain ⟨n, hn⟩ : ∃ n, n = L + 3 := ⟨_, rfl⟩
  have HN := Lib.hid hn
  rw [← hn] at hL9 hn9 HN9 ⊢
  have H0 : Hid (SmInv w9 n (.int .i64 0) w9) := ⟨0, Nat.zero_le _, rfl, Below.refl _ _⟩
  clear hn9 hn HLL HAB
  go_loopw [6] (fun iv wr => SmInv w9 n iv wr) (fun iv _ => n - (intOf iv).toNat)
  case atStart => exact H0.out
  case round =>
    clear H0
    obtain ⟨j, hj, rfl, hbel⟩ := hrel
    have HB := Lib.hid (HB9.out.trans (hbel.mono HB9.out.size))
    have HBL := Lib.hid hbel
    by_cases hjn : j < n
    · have q1 : decide ((j : Int) < (n : Int)) = true := decide_eq_true (by omega)
      have hjl : j < ll.length := by rw [HN9.out]; exact hjn
      obtain ⟨ao', cap', e1, _, hrr⟩ := HO9.out.below hbel
      injection e1 with e1 e2 e3
      rcases hrr with ⟨_, e⟩ | ⟨g, o, e4, hc⟩
      · rw [e] at hjl; simp at hjl
      · rw [← e1] at e4
        subst e4
        have c0 := hc j hjl
        have hyb := HBD.out _ (List.getElem_mem hjl)
        generalize ll[j] = a at c0 hyb
        obtain ⟨hpl, hnl⟩ := HPL.out a
        clear e1 e2 e3 hc hjl hbel
        go_wp2_with fail
        refine (F18.out wr HB.out a (by omega) (by omega)).mono ?_
        rintro e w1 ⟨rfl, hb1⟩
        have B1 := Lib.hid (HB.out.trans (hb1.mono HB.out.size))
        have K1 := Lib.hid (HBL.out.trans (hb1.mono HBL.out.size))
        clear hb1
        go_wp2_with fail
        refine (F19.out w1 B1.out a).mono ?_
        rintro e w2 ⟨rfl, hb2⟩
        have B2 := Lib.hid (B1.out.trans (hb2.mono B1.out.size))
        have K2 := Lib.hid (K1.out.trans (hb2.mono K1.out.size))
        clear hb2 B1 K1
        generalize (hdo os a).t = tg
        go_wp2_with fail
        refine (F27.out w2 B2.out a (by omega) (by omega)).mono ?_
        rintro e w3 hr
        obtain ⟨p1, d1, rfl, o1, hb3⟩ := hr.form
        have B3 := Lib.hid (B2.out.trans (hb3.mono B2.out.size))
        have K3 := Lib.hid (K2.out.trans (hb3.mono K2.out.size))
        have I1 := Lib.hid (own_isS o1)
        have FP := Lib.hid (F38.out w3 B3.out a)
        generalize ptrsOf os a = ps at hpl I1 FP
        clear hr o1 hb3 B2 K2
        go_wp2_with fail
        refine FP.out.mono ?_
        rintro e w4 hr
        obtain ⟨p2, d2, rfl, o2, hb4⟩ := hr.form
        have B4 := Lib.hid (B3.out.trans (hb4.mono B3.out.size))
        have K4 := Lib.hid (K3.out.trans (hb4.mono K3.out.size))
        have F24 := Lib.hid (ints_eq (I1.out.below hb4) (own_isS o2) (by omega))
        clear hr o2 hb4 B3 K3 I1 FP
        go_wp2_with fail
        refine F24.out.mono ?_
        rintro e w5 ⟨rfl, hb5⟩
        have B5 := Lib.hid (B4.out.trans (hb5.mono B4.out.size))
        have K5 := Lib.hid (K4.out.trans (hb5.mono K4.out.size))
        clear hb5 F24 B4 K4
        go_wp2_with fail
        refine (F28.out w5 B5.out a (by omega) (by omega)).mono ?_
        rintro e w6 hr
        obtain ⟨p3, d3, rfl, o3, hb6⟩ := hr.form
        have B6 := Lib.hid (B5.out.trans (hb6.mono B5.out.size))
        have K6 := Lib.hid (K5.out.trans (hb6.mono K5.out.size))
        have I3 := Lib.hid (own_isS o3)
        have FP := Lib.hid (F39.out w6 B6.out a)
        generalize numsOf os a = ns at hnl I3 FP
        clear hr o3 hb6 B5 K5
        go_wp2_with fail
        refine FP.out.mono ?_
        rintro e w7 hr
        obtain ⟨p4, d4, rfl, o4, hb7⟩ := hr.form
        have B7 := Lib.hid (B6.out.trans (hb7.mono B6.out.size))
        have K7 := Lib.hid (K6.out.trans (hb7.mono K6.out.size))
        have F24 := Lib.hid (ints_eq (I3.out.below hb7) (own_isS o4) (by omega))
        clear hr o4 hb7 B6 K6 I3 FP
        go_wp2_with fail
        refine F24.out.mono ?_
        rintro e w8 ⟨rfl, hb8⟩
        have B8 := Lib.hid (B7.out.trans (hb8.mono B7.out.size))
        have K8 := Lib.hid (K7.out.trans (hb8.mono K7.out.size))
        clear hb8 F24 B7 K7
        go_wp2_with fail
        refine (F20.out w8 B8.out a (by omega) (by omega)).mono ?_
        rintro e u1 ⟨rfl, hb1⟩
        have B9 := Lib.hid (B8.out.trans (hb1.mono B8.out.size))
        have K9 := Lib.hid (K8.out.trans (hb1.mono K8.out.size))
        clear hb1 B8 K8
        go_wp2_with fail
        refine (F21.out u1 B9.out a).mono ?_
        rintro e u2 ⟨rfl, hb2⟩
        have KE := Lib.hid (K9.out.trans (hb2.mono K9.out.size))
        clear hb2 B9 K9
        generalize folOf os a = fv
        go_wp2_with fail
        go_roundw
        case rel => exact ⟨j + 1, by omega, by go_num, KE.out⟩
        case measure => simp [intOf]; omega
    · obtain rfl : j = n := by omega
      have q1 : decide ((j : Int) < (j : Int)) = false := decide_eq_false (by omega)
      clear hbel
      go_wp2_with fail
      go_ret
      exact ⟨rfl, HB.out⟩
end Go.Proofs.Ytjecjlnkpbbanaa
