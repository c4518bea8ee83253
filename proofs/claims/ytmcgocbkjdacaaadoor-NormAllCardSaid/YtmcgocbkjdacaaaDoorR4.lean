/- The contract of the document's Right: of any term. -/
import Derived.Test.YtmcgocbkjdacaaaDoorR3
namespace Go.Proofs.YtmcgocbkjdacaaaDoor
open Go.RowKit Go.BigM
set_option linter.unusedVariables false
set_option linter.unusedSimpArgs false
def RrInv (l : List Et) (w : World) (iv : Value) (wr : World) : Prop := ∃ j : Nat, j ≤ l.length ∧ iv = .int .i64 (j : Int) ∧ Et.rights num (l.take j) = true ∧ Below w.heap.size w wr
set_option maxHeartbeats 4000000 in
set_option maxRecDepth 100000 in
theorem refright_tree (n : Nat) : n ≤ 100000 → ∀ (e : Et), e.size ≤ n → e.fine → ∀ (S : Nat → Prop) (cs : Array Value) (w : World), Et.At S w e cs → Calls Tryd.prog 19 #[.agg cs] w (RetBool (e.right num) w) := by
  induction n with
  | zero => intro _ e he; cases e; simp [Et.size] at he
  | succ n ih =>
    intro hn e he hf S cs w hat
    obtain ⟨k, t, ns, l⟩ := e
    rw [fine_mk] at hf
    obtain ⟨ft, fn, fs, fa⟩ := hf
    have hsz : Et.sizes l ≤ n := by simp only [Et.size] at he; omega
    have hln := length_esizes l
    have IH : Hid (∀ (j : Nat) (h : j < l.length) (cs : Array Value) (w : World), Et.At S w l[j] cs → Calls Tryd.prog 19 #[.agg cs] w (RetBool (l[j].right num) w)) := by
      show _
      intro j hj cs w h
      exact ih (by omega) _ (Nat.le_trans (esize_get l j hj) hsz) (fa _ (List.getElem_mem hj)) S cs w h
    rw [EAt_mk] at hat
    obtain ⟨nv, av, rfl, hm, hl⟩ := hat
    have hb0 := (Below.refl w.heap.size w).alloc (Nat.le_refl _) (.cells #[.int .i64 k, .string t, nv, av] 28)
    have HB := Lib.hid hb0
    have HG := Lib.hid (alloc_at w (.cells #[.int .i64 k, .string t, nv, av] 28))
    have HL := Lib.hid (hl.keeps (Keeps.of_below hb0))
    have HM := hm.keeps (Keeps.of_below hb0)
    obtain ⟨ao, ac, rfl⟩ := hm.form
    obtain ⟨bo, bc, rfl⟩ := hl.form
    have HS := Lib.hid (shape_any k t ns l.length S ao bo ac bc _ HM (by omega) (by omega) (by omega))
    rw [right_mk]
    obtain ⟨b1, hb1⟩ : ∃ b, shapeB num k t ns l.length = b := ⟨_, rfl⟩
    rw [hb1] at HS ⊢
    clear hb1 ih hm hl fa fs hb0 HM
    go_enter Tryd.func19, Tryd.ntmps19
    go_wp2_with (first | (refine wpList_load_row rfl 28 _ rfl w.heap.size rfl 28 #[.int .i64 k, .string t, .slice ao ns.length ac, .slice bo l.length bc] (0, 0) _ HG.out Tryd.underlying28 rfl info28 ?_))
    refine HS.out.mono ?_
    rintro e w1 ⟨rfl, hb⟩
    have HB1 := Lib.hid (HB.out.trans (hb.mono HB.out.size))
    have HG1 := row_below hb HG.out
    have HL1 := Lib.hid (HL.out.keeps (Keeps.of_below hb))
    have HC : Hid (w1.cell? ⟨w.heap.size, 3, none⟩ = some (.slice bo l.length bc)) := by show _ = _; rw [Lib.cell_of_heap HG1]; rfl
    have hw1 : w.heap.size < w1.heap.size := (Array.getElem?_eq_some_iff.1 HG1).1
    clear hb HG1 HS HL
    cases b1
    · go_wp2_with fail
      go_ret
      exact ⟨rfl, HB1.out⟩
    go_wp2_with fail
    go_loopw [3] (fun iv wr => RrInv l w1 iv wr) (fun iv _ => l.length - (intOf iv).toNat)
    case atStart => exact ⟨0, Nat.zero_le _, rfl, rfl, Below.refl _ _⟩
    case round =>
      obtain ⟨j, hj, rfl, hr, hb⟩ := hrel
      have G2 := Lib.hid hb
      have G3 := Lib.hid (HL1.out.keeps (Keeps.of_below hb))
      have cA := (hb.cell (p := ⟨w.heap.size, 3, none⟩) hw1).trans HC.out
      clear hb
      by_cases hlt : j < l.length
      · have q1 : decide ((j : Int) < (l.length : Int)) = true := decide_eq_true (by omega)
        obtain ⟨g, o, k', t', nv', av', rfl, hS, -, hat, e0, e1, e2, e3, o1, o2⟩ := G3.out.get j hlt
        have HC2 := Lib.hid (IH.out j hlt _ wr hat)
        obtain ⟨b, hbb⟩ : ∃ b, Et.right num l[j] = b := ⟨_, rfl⟩
        have hst := rights_take (num := num) l j hlt
        rw [hbb] at HC2 hst
        cases b
        · have HE : Hid (Et.rights num l = false) := rights_false l j hlt hbb
          clear hst hbb hat
          go_wp2_with fail
          refine HC2.out.mono ?_
          rintro e w2 ⟨rfl, hb⟩
          have HD := Lib.hid (HB1.out.trans ((G2.out.trans (hb.mono G2.out.size)).mono HB1.out.size))
          clear hb
          go_wp2_with fail
          go_ret
          exact ⟨by rw [HE.out]; rfl, HD.out⟩
        · have HN : Hid (Et.rights num (l.take (j + 1)) = true) := by show _ = _; rw [hst, hr]; rfl
          clear hst hbb hat
          go_wp2_with fail
          refine HC2.out.mono ?_
          rintro e w2 ⟨rfl, hb⟩
          have HD := Lib.hid (G2.out.trans (hb.mono G2.out.size))
          clear hb
          go_wp2_with fail
          go_roundw
          case rel => exact ⟨j + 1, by omega, by go_num, HN.out, HD.out⟩
          case measure => simp [intOf]; omega
      · have q1 : decide ((j : Int) < (l.length : Int)) = false := decide_eq_false (by omega)
        have hjn : j = l.length := by omega
        have HE : Hid (Et.rights num l = true) := by show _ = _; rw [hjn, List.take_length] at hr; exact hr
        have HD := Lib.hid (HB1.out.trans (G2.out.mono HB1.out.size))
        clear hjn
        go_wp2_with fail
        go_ret
        exact ⟨by rw [HE.out]; rfl, HD.out⟩
theorem refright_any (e : Et) (S : Nat → Prop) (cs : Array Value) (w : World) (hat : Et.At S w e cs) (hs : e.size ≤ 100000) (hf : e.fine) : Calls Tryd.prog 19 #[.agg cs] w (RetBool (e.right num) w) := refright_tree e.size hs e (Nat.le_refl _) hf S cs w hat
end Go.Proofs.YtmcgocbkjdacaaaDoor
