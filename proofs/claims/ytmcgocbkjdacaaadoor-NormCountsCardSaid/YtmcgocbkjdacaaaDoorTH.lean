/- How many arguments are no atoms: thunklaw7's thick. -/
import Derived.Test.YtmcgocbkjdacaaaDoorNI3
import Derived.Test.YtmcgocbkjdacaaaDoorNM2
import Derived.Test.YtmcgocbkjdacaaaDoorNT1
namespace Go.Proofs.YtmcgocbkjdacaaaDoor
open Go.RowKit Go.BigM
set_option linter.unusedVariables false
set_option linter.unusedSimpArgs false
def ThC (e : Et) : Prop := ∀ (S : Nat → Prop) (cs : Array Value) (w : World), Et.At S w e cs → Calls Tryd.prog 24 #[.agg cs] w (RetInt (e.thick : Nat) w)
def ThInv (k : Int) (t : ByteArray) (a : List Et) (w : World) (nv iv : Value) (wr : World) : Prop :=
  ∃ (j n : Nat), j ≤ a.length ∧ iv = .int .i64 (j : Int) ∧ nv = .int .i64 (n : Int) ∧ n = Et.thicks k t 0 (a.take j) ∧ Below w.heap.size w wr
set_option maxHeartbeats 8000000 in
set_option maxRecDepth 100000 in
theorem thick_node (k : Int) (t : ByteArray) (ns : List ByteArray) (a : List Et) (ih : ∀ e ∈ a, ThC e) (hl : Et.sizes a ≤ 50000) (ht : t.size ≤ 100000) : ThC (.mk k t ns a) := by
  intro S cs w hat
  rw [thick_mk]
  rw [EAt_mk] at hat
  obtain ⟨nv, av, rfl, hm, hla⟩ := hat
  have o1 := hm.one
  have o2 := hla.one
  have hln := length_esizes a
  obtain ⟨no, nc, rfl⟩ := hm.form
  obtain ⟨ao, ac, rfl⟩ := hla.form
  have HB := Lib.hid ((Below.refl w.heap.size w).alloc (Nat.le_refl _) (.cells #[.int .i64 k, .string t, .slice no ns.length nc, .slice ao a.length ac] 28))
  have HE : Hid (EB (w.alloc (.cells #[.int .i64 k, .string t, .slice no ns.length nc, .slice ao a.length ac] 28)) w.heap.size k t (.slice no ns.length nc) (.slice ao a.length ac)) := alloc_at _ _
  have HA := Lib.hid (hla.keeps (Keeps.of_below HB.out))
  have HTL : Hid (∀ j (hj : j < a.length), Et.thicks k t 0 (a.take j) + a[j].thick + 1 ≤ 100000) := fun j hj => by
    have h1 := thicks_take k t a j hj
    have h2 := thicks_le k t a (fun e _ => thick_lt e) 0
    omega
  have IH := Lib.hid ih
  clear hm hla ih
  go_enter Tryd.func24, Tryd.ntmps24
  go_upto_region 1 with fail
  generalize w.alloc (.cells #[.int .i64 k, .string t, .slice no ns.length nc, .slice ao a.length ac] 28) = w1 at HB HE HA ⊢
  obtain ⟨ge, hge⟩ : ∃ ge, ge = w.heap.size := ⟨_, rfl⟩
  rw [← hge] at HE
  simp only [← hge]
  clear hge
  go_wp2_with fail
  go_loopw [3, 4] (fun nv iv wr => ThInv k t a w1 nv iv wr) (fun _ iv _ => a.length - (intOf iv).toNat)
  case atStart => exact ⟨0, 0, Nat.zero_le _, rfl, rfl, by rw [List.take_zero, thicks_nil], Below.refl _ _⟩
  case round =>
    obtain ⟨j, n, hj, rfl, rfl, hn, hb⟩ := hrel
    have G2 := Lib.hid hb
    have G3 := Lib.hid (HA.out.keeps (Keeps.of_below hb))
    obtain ⟨d0, d1, -, d3⟩ := EB.cell _ _ _ _ _ _ (show EB wr ge k t _ _ from row_below hb HE.out)
    have HER : Hid (EB wr ge k t (.slice no ns.length nc) (.slice ao a.length ac)) := row_below hb HE.out
    have HN := Lib.hid hn
    clear hb hn
    by_cases hlt : j < a.length
    · have q1 : decide ((j : Int) < (a.length : Int)) = true := decide_eq_true (by omega)
      obtain ⟨g', o, k', t', nv', av', rfl, hS, -, hat, e0, e1, e2, e3, o1', o2'⟩ := G3.out.get j hlt
      have HC := Lib.hid (IH.out a[j] (List.getElem_mem hlt) S _ wr hat)
      have HT := Lib.hid (fun w' (h : Below wr.heap.size wr w') => atom_tells a[j] S _ w' (Et.At.keeps (Keeps.of_below h) _ _ hat))
      have hsn : Et.thicks k t 0 (a.take (j + 1)) = n + (a[j].thick + (if slot k t j && !a[j].atom then 1 else 0)) := by
        rw [take_snoc_et a j hlt, thicks_snoc, ← HN.out, List.length_take, Nat.min_eq_left (by omega), Nat.zero_add]
      have htl := HTL.out j hlt
      rw [← HN.out] at htl
      have HSN := Lib.hid hsn
      obtain ⟨y, hy⟩ : ∃ y, a[j].thick = y := ⟨_, rfl⟩
      obtain ⟨b2, hb2⟩ : ∃ b, a[j].atom = b := ⟨_, rfl⟩
      rw [hy] at HC HSN htl
      rw [hb2] at HT HSN
      have HE0 := Lib.hid (fun w' (h : Below wr.heap.size wr w') => And.intro (cell_below h e0) (And.intro (cell_below h e1) (And.intro (cell_below h e2) (cell_below h e3))))
      clear hsn hy hb2 hat
      go_wp2_with fail
      refine HC.out.mono ?_
      rintro e w2 ⟨rfl, hb⟩
      have HD := Lib.hid (G2.out.trans (hb.mono G2.out.size))
      have HT2 := Lib.hid (HT.out w2 hb)
      obtain ⟨f0, f1, f2, f3⟩ := HE0.out w2 hb
      obtain ⟨p0, p1, -, p3⟩ := EB.cell _ _ _ _ _ _ (show EB w2 ge k t _ _ from row_below hb HER.out)
      clear hb HT HE0
      go_upto_region 6 with fail
      clear e0 e1 e2 e3 d0 d1 d3
      by_cases h7 : k = 7
      · subst h7
        by_cases hj0 : 0 < j
        · have q2 : decide ((0 : Int) < (j : Int)) = true := decide_eq_true (by omega)
          have hsl : slot 7 t j = true := by unfold slot; simp; omega
          go_wp2_with fail
          refine HT2.out.mono ?_
          rintro e w3 ⟨rfl, hb⟩
          have HD3 := Lib.hid (HD.out.trans (hb.mono HD.out.size))
          clear hb
          cases b2
          · have HS2 : Hid (Et.thicks 7 t 0 (a.take (j + 1)) = n + y + 1) := by
              show _ = _
              have h := HSN.out
              rw [hsl] at h; simpa [Nat.add_assoc] using h
            clear HSN hsl
            go_wp2_with fail
            go_roundw
            case rel => exact ⟨j + 1, n + y + 1, by omega, by go_num, by go_num, HS2.out.symm, HD3.out⟩
            case measure => simp [intOf]; omega
          · have HS2 : Hid (Et.thicks 7 t 0 (a.take (j + 1)) = n + y) := by
              show _ = _
              have h := HSN.out
              rw [hsl] at h; simpa using h
            clear HSN hsl
            go_wp2_with fail
            go_roundw
            case rel => exact ⟨j + 1, n + y, by omega, by go_num, by go_num, HS2.out.symm, HD3.out⟩
            case measure => simp [intOf]; omega
        · have q2 : decide ((0 : Int) < (j : Int)) = false := decide_eq_false (by omega)
          have hsl : slot 7 t j = false := by unfold slot; simp; omega
          have HS2 : Hid (Et.thicks 7 t 0 (a.take (j + 1)) = n + y) := by
            show _ = _
            have h := HSN.out
            rw [hsl] at h; simpa using h
          clear HSN hsl
          go_wp2_with fail
          go_roundw
          case rel => exact ⟨j + 1, n + y, by omega, by go_num, by go_num, HS2.out.symm, HD.out⟩
          case measure => simp [intOf]; omega
      · have q0 : (k == 7) = false := by simpa using h7
        by_cases h10 : k = 10
        · subst h10
          obtain ⟨b, hb⟩ : ∃ b, (t.toList == [99, 111, 110, 115]) = b := ⟨_, rfl⟩
          cases b
          · skip
            have hsl : slot 10 t j = false := by unfold slot; rw [hb]; simp
            have HS2 : Hid (Et.thicks 10 t 0 (a.take (j + 1)) = n + y) := by
              show _ = _
              have h := HSN.out
              rw [hsl] at h; simpa using h
            clear HSN hsl
            go_wp2_with fail
            go_roundw
            case rel => exact ⟨j + 1, n + y, by omega, by go_num, by go_num, HS2.out.symm, HD.out⟩
            case measure => simp [intOf]; omega
          · skip
            have hsl : slot 10 t j = true := by unfold slot; rw [hb]; simp
            go_wp2_with fail
            refine HT2.out.mono ?_
            rintro e w3 ⟨rfl, hb⟩
            have HD3 := Lib.hid (HD.out.trans (hb.mono HD.out.size))
            clear hb
            cases b2
            · have HS2 : Hid (Et.thicks 10 t 0 (a.take (j + 1)) = n + y + 1) := by
                show _ = _
                have h := HSN.out
                rw [hsl] at h; simpa [Nat.add_assoc] using h
              clear HSN hsl
              go_wp2_with fail
              go_roundw
              case rel => exact ⟨j + 1, n + y + 1, by omega, by go_num, by go_num, HS2.out.symm, HD3.out⟩
              case measure => simp [intOf]; omega
            · have HS2 : Hid (Et.thicks 10 t 0 (a.take (j + 1)) = n + y) := by
                show _ = _
                have h := HSN.out
                rw [hsl] at h; simpa using h
              clear HSN hsl
              go_wp2_with fail
              go_roundw
              case rel => exact ⟨j + 1, n + y, by omega, by go_num, by go_num, HS2.out.symm, HD3.out⟩
              case measure => simp [intOf]; omega
        · have q3 : (k == 10) = false := by simpa using h10
          have hsl : slot k t j = false := by unfold slot; simp [h7, h10]
          have HS2 : Hid (Et.thicks k t 0 (a.take (j + 1)) = n + y) := by
            show _ = _
            have h := HSN.out
            rw [hsl] at h; simpa using h
          clear HSN hsl
          go_wp2_with fail
          go_roundw
          case rel => exact ⟨j + 1, n + y, by omega, by go_num, by go_num, HS2.out.symm, HD.out⟩
          case measure => simp [intOf]; omega
    · have q1 : decide ((j : Int) < (a.length : Int)) = false := decide_eq_false (by omega)
      have hjn : j = a.length := by omega
      have HE2 : Hid (n = Et.thicks k t 0 a) := by
        show _ = _
        have h := HN.out
        rw [hjn, List.take_length] at h
        exact h
      clear hjn
      go_wp2_with fail
      go_ret
      exact ⟨by rw [← HE2.out]; rfl, HB.out.trans (G2.out.mono HB.out.size)⟩
theorem thick_any (e : Et) (hf : e.fine) (hs : e.size ≤ 50000) : ThC e := by
  have key : ∀ N : Nat, N ≤ 50000 → ∀ (e : Et), e.size ≤ N → e.fine → ThC e := by
    intro N
    induction N with
    | zero => intro _ e he; cases e; simp [Et.size] at he
    | succ N IH =>
      intro hN e he hf
      obtain ⟨k, t, ns, a⟩ := e
      have hsz : Et.sizes a ≤ N := by simp only [Et.size] at he; omega
      rw [fine_mk] at hf
      obtain ⟨hf1, hf2, hf3, hf4⟩ := hf
      refine thick_node k t ns a (fun e hm => ?_) (by omega) (by omega)
      obtain ⟨j, hj, rfl⟩ := List.getElem_of_mem hm
      exact IH (by omega) _ (by have := esize_get a j hj; omega) (hf4 _ hm)
  exact key e.size hs e (Nat.le_refl _) hf
end Go.Proofs.YtmcgocbkjdacaaaDoor
