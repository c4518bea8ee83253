/- The document's Is. -/
import Derived.Test.YtmcgocbkjdacaaaDoorNI
namespace Go.Proofs.YtmcgocbkjdacaaaDoor
open Go.RowKit Go.BigM
set_option linter.unusedVariables false
set_option linter.unusedSimpArgs false
def lazyI (k : Int) (t : ByteArray) : Int := if k = 7 then 1 else if k = 10 ∧ (t.toList == [99, 111, 110, 115]) = true then 0 else -1
theorem lazy_slot (k : Int) (t : ByteArray) (j : Nat) : slot k t j = (decide (0 ≤ lazyI k t) && decide (lazyI k t ≤ (j : Int))) := by
  unfold slot lazyI
  by_cases h7 : k = 7
  · subst h7; simp; omega
  · by_cases h10 : k = 10
    · subst h10
      rw [if_neg h7]
      by_cases hc : (t.toList == [99, 111, 110, 115]) = true
      · rw [if_pos ⟨rfl, hc⟩, hc]; simp
      · rw [if_neg (fun e => hc e.2)]
        have : (t.toList == [99, 111, 110, 115]) = false := by cases h : (t.toList == [99, 111, 110, 115]) <;> simp_all
        rw [this]; simp
    · rw [if_neg h7, if_neg (fun e => h10 e.1)]; simp [h7, h10]
theorem lazy_range (k : Int) (t : ByteArray) : -1 ≤ lazyI k t ∧ lazyI k t ≤ 1 := by
  unfold lazyI; split
  · omega
  · split <;> omega
set_option maxHeartbeats 4000000 in
set_option maxRecDepth 100000 in
theorem lazy_any (k : Int) (t : ByteArray) (nv av : Value) (w : World) (ht : t.size ≤ 100000) (o1 : nv.oneCell' = true) (o2 : av.oneCell' = true) : Calls Tryd.prog 36 #[.agg #[.int .i64 k, .string t, nv, av]] w (RetInt (lazyI k t) w) := by
  have HB := Lib.hid ((Below.refl w.heap.size w).alloc (Nat.le_refl _) (.cells #[.int .i64 k, .string t, nv, av] 28))
  by_cases h7 : k = 7
  · subst h7
    have HR : Hid (lazyI 7 t = 1) := by show _ = _; simp [lazyI]
    go_enter Tryd.func36, Tryd.ntmps36
    go_wp2_with fail
    go_ret
    exact ⟨by rw [HR.out]; rfl, HB.out⟩
  · have q0 : (k == 7) = false := by simpa using h7
    by_cases h10 : k = 10
    · subst h10
      obtain ⟨b, hb⟩ : ∃ b, (t.toList == [99, 111, 110, 115]) = b := ⟨_, rfl⟩
      cases b
      · have HR : Hid (lazyI 10 t = -1) := by show _ = _; simp [lazyI, hb]
        go_enter Tryd.func36, Tryd.ntmps36
        go_wp2_with fail
        go_ret
        exact ⟨by rw [HR.out]; rfl, HB.out⟩
      · have HR : Hid (lazyI 10 t = 0) := by show _ = _; simp [lazyI, hb]
        go_enter Tryd.func36, Tryd.ntmps36
        go_wp2_with fail
        go_ret
        exact ⟨by rw [HR.out]; rfl, HB.out⟩
    · have q1 : (k == 10) = false := by simpa using h10
      have HR : Hid (lazyI k t = -1) := by show _ = _; simp [lazyI, h7, h10]
      go_enter Tryd.func36, Tryd.ntmps36
      go_wp2_with fail
      go_ret
      exact ⟨by rw [HR.out]; rfl, HB.out⟩
set_option maxHeartbeats 4000000 in
set_option maxRecDepth 100000 in
theorem atom_any (k : Int) (t : ByteArray) (nv av : Value) (w : World) (o1 : nv.oneCell' = true) (o2 : av.oneCell' = true) : Calls Tryd.prog 37 #[.agg #[.int .i64 k, .string t, nv, av]] w (RetBool (atomB k) w) := by
  have HB := Lib.hid ((Below.refl w.heap.size w).alloc (Nat.le_refl _) (.cells #[.int .i64 k, .string t, nv, av] 28))
  by_cases h1 : 1 ≤ k
  · have q1 : decide (1 ≤ k) = true := decide_eq_true h1
    have HR : Hid (atomB k = decide (k ≤ 5)) := by show _ = _; unfold atomB; rw [q1]; rfl
    go_enter Tryd.func37, Tryd.ntmps37
    go_wp2_with fail
    go_ret
    exact ⟨by rw [HR.out]; rfl, HB.out⟩
  · have q1 : decide (1 ≤ k) = false := decide_eq_false h1
    have HR : Hid (atomB k = false) := by show _ = _; unfold atomB; rw [q1]; rfl
    go_enter Tryd.func37, Tryd.ntmps37
    go_wp2_with fail
    go_ret
    exact ⟨by rw [HR.out]; rfl, HB.out⟩
theorem atom_tells (e : Et) : Tells 37 Et.atom e := by
  intro S cs w hat
  obtain ⟨k, t, ns, l⟩ := e
  rw [EAt_mk] at hat
  obtain ⟨nv, av, rfl, hm, hl⟩ := hat
  exact atom_any k t nv av w hm.one hl.one
def RIsInv (k : Int) (t : ByteArray) (l : List Et) (w : World) (iv : Value) (wr : World) : Prop := ∃ j : Nat, j ≤ l.length ∧ iv = .int .i64 (j : Int) ∧ Et.iss k t 0 (l.take j) = true ∧ Below w.heap.size w wr
theorem iss_false {k : Int} {t : ByteArray} {l : List Et} {j : Nat} (h : j < l.length) (hf : (l[j].is && (!slot k t j || l[j].atom)) = false) : Et.iss k t 0 l = false := by
  cases hc : Et.iss k t 0 l with
  | false => rfl
  | true =>
    have h1 := (iss_get k t l 0).1 hc j h
    rw [Nat.zero_add] at h1
    rw [h1.1] at hf
    cases hs : slot k t j with
    | false => rw [hs] at hf; cases hf
    | true => rw [hs, h1.2 hs] at hf; cases hf
set_option maxHeartbeats 8000000 in
set_option maxRecDepth 100000 in
theorem ris_node (k : Int) (t : ByteArray) (ns : List ByteArray) (a : List Et) (ih : ∀ e ∈ a, Tells 14 Et.is e) (hl : a.length ≤ 100000) (ht : t.size ≤ 100000) : Tells 14 Et.is (.mk k t ns a) := by
  intro S cs w hat
  rw [is_mk]
  rw [EAt_mk] at hat
  obtain ⟨nv, av, rfl, hm, hla⟩ := hat
  have o1 := hm.one
  have o2 := hla.one
  obtain ⟨no, nc, rfl⟩ := hm.form
  obtain ⟨ao, ac, rfl⟩ := hla.form
  have HB := Lib.hid ((Below.refl w.heap.size w).alloc (Nat.le_refl _) (.cells #[.int .i64 k, .string t, .slice no ns.length nc, .slice ao a.length ac] 28))
  have HE : Hid (EB (w.alloc (.cells #[.int .i64 k, .string t, .slice no ns.length nc, .slice ao a.length ac] 28)) w.heap.size k t (.slice no ns.length nc) (.slice ao a.length ac)) := alloc_at _ _
  have HG := Lib.hid (alloc_at w (.cells #[.int .i64 k, .string t, .slice no ns.length nc, .slice ao a.length ac] 28))
  have HA := Lib.hid (hla.keeps (Keeps.of_below HB.out))
  have HL := Lib.hid (fun w => lazy_any k t (.slice no ns.length nc) (.slice ao a.length ac) w ht rfl rfl)
  have hlr := lazy_range k t
  have HLS := Lib.hid (fun j => lazy_slot k t j)
  obtain ⟨z, hz⟩ : ∃ z, z = lazyI k t := ⟨_, rfl⟩
  rw [← hz] at HL hlr HLS
  have IH := Lib.hid ih
  clear hm hla ih hz
  go_enter Tryd.func14, Tryd.ntmps14
  go_wp2_with (refine wpList_load_row rfl 28 _ rfl w.heap.size rfl 28 #[.int .i64 k, .string t, .slice no ns.length nc, .slice ao a.length ac] (0, 0) _ HG.out Tryd.underlying28 rfl info28 ?_)
  refine (HL.out _).mono ?_
  rintro e w1 ⟨rfl, hb⟩
  have HB1 := Lib.hid (HB.out.trans (hb.mono HB.out.size))
  have HE1 : Hid (EB w1 w.heap.size k t (.slice no ns.length nc) (.slice ao a.length ac)) := row_below hb HE.out
  have HA1 := Lib.hid (HA.out.keeps (Keeps.of_below hb))
  obtain ⟨ge, hge⟩ : ∃ ge, ge = w.heap.size := ⟨_, rfl⟩
  rw [← hge] at HE1
  simp only [← hge]
  clear hb HB HE HG HA hge
  go_wp2_with fail
  go_loopw [4] (fun iv wr => RIsInv k t a w1 iv wr) (fun iv _ => a.length - (intOf iv).toNat)
  case atStart => exact ⟨0, Nat.zero_le _, rfl, by rw [List.take_zero, iss_nil], Below.refl _ _⟩
  case round =>
    obtain ⟨j, hj, rfl, hr, hb⟩ := hrel
    have G2 := Lib.hid hb
    have G3 := Lib.hid (HA1.out.keeps (Keeps.of_below hb))
    obtain ⟨-, -, -, d3⟩ := EB.cell _ _ _ _ _ _ (show EB wr ge k t _ _ from row_below hb HE1.out)
    have HER : Hid (EB wr ge k t (.slice no ns.length nc) (.slice ao a.length ac)) := row_below hb HE1.out
    clear hb
    by_cases hlt : j < a.length
    · have q1 : decide ((j : Int) < (a.length : Int)) = true := decide_eq_true (by omega)
      obtain ⟨g', o, k', t', nv', av', rfl, hS, -, hat, e0, e1, e2, e3, o1', o2'⟩ := G3.out.get j hlt
      have HC := Lib.hid (IH.out a[j] (List.getElem_mem hlt) S _ wr hat)
      have HT := Lib.hid (fun w' (h : Below wr.heap.size wr w') => atom_tells a[j] S _ w' (Et.At.keeps (Keeps.of_below h) _ _ hat))
      have HF := Lib.hid (fun h => iss_false (k := k) (t := t) hlt h)
      have hsn : Et.iss k t 0 (a.take (j + 1)) = (a[j].is && (!slot k t j || a[j].atom)) := by
        rw [take_snoc_et a j hlt, iss_snoc, hr, List.length_take, Nat.min_eq_left (by omega), Nat.zero_add]; rfl
      have HSN := Lib.hid hsn
      have hsl := HLS.out j
      obtain ⟨b, hbb⟩ : ∃ b, a[j].is = b := ⟨_, rfl⟩
      obtain ⟨b2, hb2⟩ : ∃ b, a[j].atom = b := ⟨_, rfl⟩
      rw [hbb] at HC HF HSN
      rw [hb2] at HT HF HSN
      rw [hsl] at HF HSN
      have HE0 := Lib.hid (fun w' (h : Below wr.heap.size wr w') => And.intro (cell_below h e0) (And.intro (cell_below h e1) (And.intro (cell_below h e2) (cell_below h e3))))
      clear hsn hsl hbb hb2 hat hr
      cases b
      · have HFF : Hid (Et.iss k t 0 a = false) := HF.out rfl
        clear HF HSN HT
        go_wp2_with fail
        refine HC.out.mono ?_
        rintro e w2 ⟨rfl, hb⟩
        have HD := Lib.hid (HB1.out.trans ((G2.out.trans (hb.mono G2.out.size)).mono HB1.out.size))
        clear hb
        go_wp2_with fail
        go_ret
        exact ⟨by rw [HFF.out]; rfl, HD.out⟩
      · by_cases hz0 : 0 ≤ z
        · have p0 : decide (0 ≤ z) = true := decide_eq_true hz0
          by_cases hzj : z ≤ (j : Int)
          · have p1 : decide (z ≤ (j : Int)) = true := decide_eq_true hzj
            rw [p0, p1] at HF HSN
            go_wp2_with fail
            refine HC.out.mono ?_
            rintro e w2 ⟨rfl, hb⟩
            have HD := Lib.hid (G2.out.trans (hb.mono G2.out.size))
            have HT2 := Lib.hid (HT.out w2 hb)
            obtain ⟨f0, f1, f2, f3⟩ := HE0.out w2 hb
            obtain ⟨-, -, -, d3'⟩ := EB.cell _ _ _ _ _ _ (show EB w2 ge k t _ _ from row_below hb HER.out)
            clear hb HT HE0 e0 e1 e2 e3 d3
            go_wp2_with fail
            refine HT2.out.mono ?_
            rintro e w3 ⟨rfl, hb⟩
            have HD3 := Lib.hid (HD.out.trans (hb.mono HD.out.size))
            clear hb
            cases b2
            · have HFF : Hid (Et.iss k t 0 a = false) := HF.out rfl
              clear HF HSN
              go_wp2_with fail
              go_ret
              exact ⟨by rw [HFF.out]; rfl, HB1.out.trans (HD3.out.mono HB1.out.size)⟩
            · clear HF
              go_wp2_with fail
              go_roundw
              case rel => exact ⟨j + 1, by omega, by go_num, HSN.out, HD3.out⟩
              case measure => simp [intOf]; omega
          · have p1 : decide (z ≤ (j : Int)) = false := decide_eq_false hzj
            rw [p0, p1] at HSN
            clear HF HT
            go_wp2_with fail
            refine HC.out.mono ?_
            rintro e w2 ⟨rfl, hb⟩
            have HD := Lib.hid (G2.out.trans (hb.mono G2.out.size))
            clear hb
            go_wp2_with fail
            go_roundw
            case rel => exact ⟨j + 1, by omega, by go_num, HSN.out, HD.out⟩
            case measure => simp [intOf]; omega
        · have p0 : decide (0 ≤ z) = false := decide_eq_false hz0
          rw [p0] at HSN
          clear HF HT
          go_wp2_with fail
          refine HC.out.mono ?_
          rintro e w2 ⟨rfl, hb⟩
          have HD := Lib.hid (G2.out.trans (hb.mono G2.out.size))
          clear hb
          go_wp2_with fail
          go_roundw
          case rel => exact ⟨j + 1, by omega, by go_num, HSN.out, HD.out⟩
          case measure => simp [intOf]; omega
    · have q1 : decide ((j : Int) < (a.length : Int)) = false := decide_eq_false (by omega)
      have hjn : j = a.length := by omega
      have HE2 : Hid (Et.iss k t 0 a = true) := by
        show _ = _
        rw [hjn, List.take_length] at hr
        exact hr
      clear hjn hr
      go_wp2_with fail
      go_ret
      exact ⟨by rw [HE2.out]; rfl, HB1.out.trans (G2.out.mono HB1.out.size)⟩
theorem ris_any (e : Et) (hf : e.fine) (hs : e.size ≤ 100000) : Tells 14 Et.is e := by
  have key : ∀ N : Nat, N ≤ 100000 → ∀ (e : Et), e.size ≤ N → e.fine → Tells 14 Et.is e := by
    intro N
    induction N with
    | zero => intro _ e he; cases e; simp [Et.size] at he
    | succ N IH =>
      intro hN e he hf
      obtain ⟨k, t, ns, a⟩ := e
      have hsz : Et.sizes a ≤ N := by simp only [Et.size] at he; omega
      have hl := length_esizes a
      rw [fine_mk] at hf
      obtain ⟨hf1, hf2, hf3, hf4⟩ := hf
      refine ris_node k t ns a (fun e hm => ?_) (by omega) (by omega)
      obtain ⟨j, hj, rfl⟩ := List.getElem_of_mem hm
      exact IH (by omega) _ (by have := esize_get a j hj; omega) (hf4 _ hm)
  exact key e.size hs e (Nat.le_refl _) hf
end Go.Proofs.YtmcgocbkjdacaaaDoor
