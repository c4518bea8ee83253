/- The document's Short. -/
import Derived.Test.YtkekekdkfjjifaaZS
import Derived.Test.YtkekekdkfjjifaaG4
import Derived.Test.YtkekekdkfjjifaaZD
namespace Go.Proofs.Ytkekekdkfjjifaa
open Go Go.RowKit
set_option linter.unusedVariables false
set_option linter.unusedSimpArgs false
theorem shortO_zero (os : List Ob) (a : Int) : shortO os 0 a = endO os a := rfl
theorem shortO_not {os : List Ob} {a : Int} (h : (hdo os (endO os a)).t ≠ 6) : ∀ d, shortO os d a = endO os a
  | 0 => rfl
  | d + 1 => by unfold shortO; rw [if_neg h]
theorem shortO_sel {os : List Ob} {d : Nat} {a p : Int} (h6 : (hdo os (endO os a)).t = 6) (hp : ptrsOf os (endO os a) = [p]) :
    ((hdo os (shortO os d p)).t = 2 → shortO os (d + 1) a = shortO os d ((ptrsOf os (shortO os d p)).getD ((numsOf os (endO os a)).headD 0).toNat 0)) ∧ ((hdo os (shortO os d p)).t ≠ 2 → shortO os (d + 1) a = endO os a) := by
  rw [shortO_succ, if_pos h6, hp]
  refine ⟨fun h => ?_, fun h => ?_⟩
  · show (if (hdo os (shortO os d p)).t = 2 then shortO os d ((ptrsOf os (shortO os d p)).getD ((numsOf os (endO os a)).headD 0).toNat 0) else endO os a) = _
    rw [if_pos h]
  · show (if (hdo os (shortO os d p)).t = 2 then shortO os d ((ptrsOf os (shortO os d p)).getD ((numsOf os (endO os a)).headD 0).toNat 0) else endO os a) = _
    rw [if_neg h]
theorem endO_ring {os : List Ob} {a : Int} (h : Vd os a) (hf : folOf os a < 0) : endO os a = a ∧ (hdo os a).t ≠ 6 := by
  rcases endO_cases h with ⟨_, e⟩ | ⟨q, h1, h2, h3⟩
  · refine ⟨e, fun h6 => ?_⟩
    obtain ⟨q, hq⟩ := h
    rw [hdo_tag hq] at h6
    rw [fol_self hq (by omega)] at hf
    have := (ob_pos hq).1
    omega
  · rw [h3] at hf
    have := (ob_pos h1).1
    omega
set_option maxHeartbeats 16000000 in
set_option maxRecDepth 100000 in
theorem rshort_r : ∀ (d : Nat), d ≤ 20 → ∀ {w : World} {x : Nat} {C : Nat → Nat} {qs : List Nat} {os : List Ob} {m : Nat} (h : Rh w x C qs os m) (hc : Closed os) (hk : Oks os) (a : Int) (ha : Vd os a),
    Calls Try.prog 68 #[.pointer (some ⟨x, 0, none⟩), .int .i64 a, .int .i64 (d : Int)] w (RetV (.int .i64 (shortO os d a)) w) := by
  intro d
  induction d with
  | zero =>
    intro hd w x C qs os m h hc hk a ha
    have F43 := Lib.hid (rfollow_r h a)
    obtain ⟨f, hf⟩ : ∃ f, f = folOf os a := ⟨_, rfl⟩
    have F37 := Lib.hid (fun W (hb : Below w.heap.size w W) => rtag_r (h.below hb) f)
    have HR := Lib.hid (fun h => endO_ring (os := os) ha h)
    rw [← hf] at F43 HR
    have HE : Hid (¬ f < 0 → endO os a = f) := fun hn => by unfold endO; rw [← hf, if_neg hn]
    rw [shortO_zero]
    obtain ⟨r, hr⟩ : ∃ r, r = endO os a := ⟨_, rfl⟩
    rw [← hr] at HR HE ⊢
    generalize (hdo os f).t = tg at F37
    clear hf hr h ha
    go_enter Try.func68, Try.ntmps68
    go_wp2_with fail
    refine F43.out.mono ?_
    rintro e w1 ⟨rfl, hb1⟩
    clear F43
    by_cases hneg : f < 0
    · have q1 : decide (f < 0) = true := decide_eq_true hneg
      obtain rfl := (HR.out hneg).1
      clear F37 HR HE
      go_wp2_with fail
      go_ret
      exact ⟨rfl, hb1⟩
    · have q1 : decide (f < 0) = false := decide_eq_false hneg
      obtain rfl := HE.out (by omega)
      clear HR HE
      have HB1 := Lib.hid hb1
      clear hb1
      go_wp2_with fail
      refine (F37.out w1 HB1.out).mono ?_
      rintro e w2 ⟨rfl, hb2⟩
      have HB2 := Lib.hid (HB1.out.trans (hb2.mono HB1.out.size))
      clear hb2 HB1 F37
      by_cases h6 : tg = 6
      · have q2 : ((tg : Int) != 6) = false := by rw [h6]; rfl
        go_wp2_with fail
        go_ret
        exact ⟨rfl, HB2.out⟩
      · have q2 : ((tg : Int) != 6) = true := by
          have : ¬ (tg : Int) = 6 := by omega
          simpa using this
        go_wp2_with fail
        go_ret
        exact ⟨rfl, HB2.out⟩
  | succ d ih =>
    intro hd w x C qs os m h hc hk a ha
    have FI := Lib.hid (fun (W : World) (hb : Below w.heap.size w W) (b : Int) (hb2 : Vd os b) => ih (by omega) (h.below hb) hc hk b hb2)
    have F43 := Lib.hid (rfollow_r h a)
    obtain ⟨f, hf⟩ : ∃ f, f = folOf os a := ⟨_, rfl⟩
    have F37 := Lib.hid (fun W (hb : Below w.heap.size w W) b => rtag_r (h.below hb) b)
    have F41 := Lib.hid (fun W (hb : Below w.heap.size w W) b => rptrs_r (h.below hb) b)
    have F42 := Lib.hid (fun W (hb : Below w.heap.size w W) b => rnums_r (h.below hb) b)
    have HR := Lib.hid (fun h => endO_ring (os := os) ha h)
    rw [← hf] at F43 HR
    have HE : Hid (¬ f < 0 → endO os a = f) := fun hn => by unfold endO; rw [← hf, if_neg hn]
    have HV := Lib.hid (endO_valid ha)
    have HN := Lib.hid (fun h => shortO_not (os := os) (a := a) h (d + 1))
    have HS := Lib.hid (fun p h6 hp => shortO_sel (os := os) (d := d) (a := a) (p := p) h6 hp)
    have HCK : Hid (Closed os ∧ Oks os) := ⟨hc, hk⟩
    obtain ⟨r, hr⟩ : ∃ r, r = shortO os (d + 1) a := ⟨_, rfl⟩
    rw [← hr] at HN HS ⊢
    obtain ⟨D, hD⟩ : ∃ D, D = d + 1 := ⟨_, rfl⟩
    rw [← hD] at hd ⊢
    have hD1 : (D : Int) - 1 = (d : Int) := by omega
    have hD0 : ¬ (D : Int) ≤ 0 := by omega
    have q3 : decide ((D : Int) ≤ 0) = false := decide_eq_false hD0
    clear hf hr h ha ih hc hk hD hD0
    go_enter Try.func68, Try.ntmps68
    go_wp2_with fail
    refine F43.out.mono ?_
    rintro e w1 ⟨rfl, hb1⟩
    clear F43
    by_cases hneg : f < 0
    · have q1 : decide (f < 0) = true := decide_eq_true hneg
      have h9 := HR.out hneg
      have h8 := HN.out (by rw [h9.1]; exact h9.2)
      rw [h9.1] at h8
      subst h8
      clear F37 HR HE FI F41 F42 HN HS
      go_wp2_with fail
      go_ret
      exact ⟨rfl, hb1⟩
    · have q1 : decide (f < 0) = false := decide_eq_false hneg
      have h9 := HE.out (by omega)
      rw [h9] at HN HS HV
      have HB1 := Lib.hid hb1
      clear hb1 HR HE h9
      go_wp2_with fail
      refine (F37.out w1 HB1.out f).mono ?_
      rintro e w2 ⟨rfl, hb2⟩
      have HB2 := Lib.hid (HB1.out.trans (hb2.mono HB1.out.size))
      clear hb2 HB1
      by_cases h6 : (hdo os f).t = 6
      · have q2 : (((hdo os f).t : Int) != 6) = false := by rw [h6]; rfl
        obtain ⟨q, hq⟩ := HV.out
        obtain ⟨p, e1, hp, e2⟩ := sel_ptr HCK.out.1 HCK.out.2 hq (by rw [← hdo_tag hq]; exact h6)
        have HS8 := Lib.hid (HS.out p h6 e1).1
        have HS9 := Lib.hid (HS.out p h6 e1).2
        have G41 := Lib.hid (fun W (hb : Below w.heap.size w W) => (F41.out W hb f))
        rw [e1] at G41
        have HP := Lib.hid hp
        have HU := Lib.hid e2
        have HQV : Hid (Vd os (shortO os d p)) := shortO_valid HCK.out.1 HCK.out.2 d hp
        clear e1 hp HS HN e2 hq
        go_wp2_with fail
        refine (G41.out w2 HB2.out).mono ?_
        rintro e w3 hr3
        obtain ⟨po, pc, rfl, hown3, hb3⟩ := hr3.form
        have HB3 := Lib.hid (HB2.out.trans (hb3.mono HB2.out.size))
        obtain ⟨g3, cg3, e3, -, -, -, hgc3⟩ := own_at hown3 (Nat.lt_of_lt_of_eq Nat.zero_lt_one rfl)
        injection e3 with e3 e4 e5
        subst e3
        clear e4 e5
        have c3 := hgc3 0 (Nat.lt_of_lt_of_eq Nat.zero_lt_one rfl)
        simp only [List.getElem_cons_zero] at c3
        simp only [List.length_cons, List.length_nil]
        clear hr3 hown3 hb3 hgc3 HB2 G41
        go_wp2_with fail
        refine (FI.out w3 HB3.out p HP.out).mono ?_
        rintro e w4 ⟨rfl, hb4⟩
        have HB4 := Lib.hid (HB3.out.trans (hb4.mono HB3.out.size))
        clear hb4 HB3 c3
        obtain ⟨t, ht⟩ : ∃ t, t = shortO os d p := ⟨_, rfl⟩
        rw [← ht] at HS8 HS9 HQV ⊢
        clear ht
        go_wp2_with fail
        refine (F37.out w4 HB4.out t).mono ?_
        rintro e w5 ⟨rfl, hb5⟩
        have HB5 := Lib.hid (HB4.out.trans (hb5.mono HB4.out.size))
        clear hb5 HB4 F37
        by_cases h2 : (hdo os t).t = 2
        · have q5 : (((hdo os t).t : Int) != 2) = false := by rw [h2]; rfl
          obtain ⟨q', hq'⟩ := HQV.out
          obtain ⟨y, z, e7, hy, hz⟩ := con_ptr HCK.out.1 HCK.out.2 hq' (by rw [← hdo_tag hq']; exact h2)
          have h8 := HS8.out h2
          rw [e7] at h8
          have G41 := Lib.hid (fun W (hb : Below w.heap.size w W) => (F41.out W hb t))
          rw [e7] at G41
          obtain ⟨u, hu, hu2⟩ : ∃ u : Nat, numsOf os f = [(u : Int)] ∧ u < 2 := by
            rcases HU.out with e | e
            · exact ⟨0, e, by omega⟩
            · exact ⟨1, e, by omega⟩
          have G42 := Lib.hid (fun W (hb : Below w.heap.size w W) => (F42.out W hb f))
          rw [hu] at G42 h8
          simp only [List.headD_cons, Int.toNat_natCast] at h8
          obtain ⟨s, hs⟩ : ∃ s, s = [y, z].getD u 0 := ⟨_, rfl⟩
          rw [← hs] at h8
          have HSV : Hid (Vd os s) := by
            rw [hs]
            rcases u with _ | _ | u
            · exact hy
            · exact hz
            · omega
          have HSE : Hid (∀ (h : u < [y, z].length), [y, z][u] = s) := fun h => by rw [hs, List.getD_eq_getElem?_getD, List.getElem?_eq_getElem h]; rfl
          subst h8
          clear hs e7 hy hz hu HS8 HS9 F41 F42 HU hq'
          go_wp2_with fail
          refine (G41.out w5 HB5.out).mono ?_
          rintro e w6 hr6
          obtain ⟨po, pc, rfl, hown6, hb6⟩ := hr6.form
          have HO6 := Lib.hid hown6
          have HB6 := Lib.hid (HB5.out.trans (hb6.mono HB5.out.size))
          clear hr6 hown6 hb6 HB5 G41
          simp only [List.length_cons, List.length_nil]
          go_wp2_with fail
          refine (G42.out w6 HB6.out).mono ?_
          rintro e w7 hr7
          obtain ⟨no, nc, rfl, hown7, hb7⟩ := hr7.form
          have HB7 := Lib.hid (HB6.out.trans (hb7.mono HB6.out.size))
          obtain ⟨g7, cg7, e7, -, -, -, hgc7⟩ := own_at hown7 (Nat.lt_of_lt_of_eq Nat.zero_lt_one rfl)
          injection e7 with e7 e8 e9
          subst e7
          clear e8 e9
          have c7 := hgc7 0 (Nat.lt_of_lt_of_eq Nat.zero_lt_one rfl)
          simp only [List.getElem_cons_zero] at c7
          obtain ⟨g6, cg6, e6, -, -, -, hgc6⟩ := own_at (own_below HO6.out hb7) (Nat.lt_of_lt_of_eq Nat.zero_lt_two rfl)
          injection e6 with e6 e8 e9
          subst e6
          clear e8 e9
          have c6 := hgc6 u (by exact hu2)
          rw [HSE.out] at c6
          simp only [List.length_cons, List.length_nil]
          clear hr7 hown7 hb7 hgc7 hgc6 HB6 G42 HO6
          go_wp2_with fail
          refine (FI.out w7 HB7.out s HSV.out).mono ?_
          rintro e w8 ⟨rfl, hb8⟩
          have HB8 := Lib.hid (HB7.out.trans (hb8.mono HB7.out.size))
          clear hb8
          go_wp2_with fail
          go_ret
          exact ⟨rfl, HB8.out⟩
        · have q5 : (((hdo os t).t : Int) != 2) = true := by
            have : ¬ ((hdo os t).t : Int) = 2 := by omega
            simpa using this
          have h8 := HS9.out h2
          subst h8
          clear HS8 HS9
          go_wp2_with fail
          go_ret
          exact ⟨rfl, HB5.out⟩
      · have q2 : (((hdo os f).t : Int) != 6) = true := by
          have : ¬ ((hdo os f).t : Int) = 6 := by omega
          simpa using this
        obtain rfl := HN.out h6
        clear HN HS
        go_wp2_with fail
        go_ret
        exact ⟨rfl, HB2.out⟩
end Go.Proofs.Ytkekekdkfjjifaa
