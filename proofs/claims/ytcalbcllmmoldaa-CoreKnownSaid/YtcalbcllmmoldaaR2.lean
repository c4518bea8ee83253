/- The contract of core's Right: of any term. -/
import Derived.Test.YtcalbcllmmoldaaR1
namespace Go.Proofs.Ytcalbcllmmoldaa
open Go.RowKit Go.BigM
set_option linter.unusedVariables false
set_option linter.unusedSimpArgs false
def RC (e : Et) : Prop := ∀ (S : Nat → Prop) (cs : Array Value) (w : World), Et.At S w e cs → Calls Try.prog 15 #[.agg cs] w (RetBool (e.right num) w)
set_option maxHeartbeats 2000000 in
set_option maxRecDepth 100000 in
theorem wrong_of (e : Et) (h : RC e) (S : Nat → Prop) (cs : Array Value) (w : World) (hat : Et.At S w e cs) : Calls Try.prog 40 #[.agg cs] w (RetBool (!e.right num) w) := by
  obtain ⟨k, t, nv, av, rfl, h1, h2⟩ := EAt_form hat
  have hb := (Below.refl w.heap.size w).alloc (Nat.le_refl _) (.cells #[.int .i64 k, .string t, nv, av] 28)
  have HB := Lib.hid hb
  have HC := Lib.hid (h S _ _ (Et.At.keeps (Keeps.of_below hb) _ _ hat))
  have HG := Lib.hid (alloc_at w (.cells #[.int .i64 k, .string t, nv, av] 28))
  obtain ⟨b, hbb⟩ : ∃ b, e.right num = b := ⟨_, rfl⟩
  rw [hbb] at HC ⊢
  clear h hat hb hbb
  go_enter Try.func40, Try.ntmps40
  go_wp2_with (first | (refine wpList_load_row rfl 28 _ rfl w.heap.size rfl 28 #[.int .i64 k, .string t, nv, av] (0, 0) _ HG.out Try.underlying28 rfl info28 ?_))
  refine HC.out.mono ?_
  rintro e w1 ⟨rfl, hb⟩
  have HD := Lib.hid (HB.out.trans (hb.mono HB.out.size))
  clear hb
  go_wp2_with fail
  go_ret
  exact ⟨rfl, HD.out⟩
def IxInv (l : List Et) (w : World) (iv : Value) (wr : World) : Prop := ∃ j : Nat, j ≤ l.length ∧ iv = .int .i64 (j : Int) ∧ Et.rights num (l.take j) = true ∧ Below w.heap.size w wr
def RetIx (l : List Et) (w : World) (e : Ending) (w' : World) : Prop := ∃ r : Int, e = .returned (.int .i64 r) ∧ decide (0 ≤ r) = (!Et.rights num l) ∧ Below w.heap.size w w'
set_option maxHeartbeats 4000000 in
set_option maxRecDepth 100000 in
theorem index_of (l : List Et) (ih : ∀ e ∈ l, RC e) (S : Nat → Prop) (av : Value) (w : World) (hat : AAt S w av l) (hl : l.length ≤ 100000) : Calls Try.prog 53 #[av, .func (.func 40) #[] #[]] w (RetIx l w) := by
  obtain ⟨ao, cap, rfl⟩ := hat.form
  have HL := Lib.hid hat
  have IH := Lib.hid ih
  clear hat ih
  go_enter Try.func53, Try.ntmps53
  go_wp2_with fail
  go_loopw [8] (fun iv wr => IxInv l w iv wr) (fun iv _ => l.length - (intOf iv).toNat)
  case atStart => exact ⟨0, Nat.zero_le _, rfl, rfl, Below.refl _ _⟩
  case round =>
    obtain ⟨j, hj, rfl, hr, hb⟩ := hrel
    have G2 := Lib.hid hb
    have G3 := Lib.hid (HL.out.keeps (Keeps.of_below hb))
    clear hb
    by_cases hlt : j < l.length
    · have q1 : decide ((j : Int) < (l.length : Int)) = true := decide_eq_true (by omega)
      obtain ⟨g, o, k', t', nv', av', rfl, hS, -, hat, e0, e1, e2, e3, o1, o2⟩ := G3.out.get j hlt
      have HC := Lib.hid (wrong_of l[j] (IH.out _ (List.getElem_mem hlt)) S _ wr hat)
      obtain ⟨b, hbb⟩ : ∃ b, Et.right num l[j] = b := ⟨_, rfl⟩
      have hst := rights_take (num := num) l j hlt
      rw [hbb] at HC hst
      cases b
      · have HE : Hid (decide ((0 : Int) ≤ (j : Int)) = (!Et.rights num l)) := by
          show _ = _
          rw [rights_false l j hlt hbb, decide_eq_true (by omega)]; rfl
        clear hst hbb hat
        go_wp2_with fail
        refine HC.out.mono ?_
        rintro e w1 ⟨rfl, hb⟩
        have HD := Lib.hid (G2.out.trans (hb.mono G2.out.size))
        clear hb
        go_wp2_with fail
        go_ret
        exact ⟨_, rfl, HE.out, HD.out⟩
      · have HN : Hid (Et.rights num (l.take (j + 1)) = true) := by show _ = _; rw [hst, hr]; rfl
        clear hst hbb hat
        go_wp2_with fail
        refine HC.out.mono ?_
        rintro e w1 ⟨rfl, hb⟩
        have HD := Lib.hid (G2.out.trans (hb.mono G2.out.size))
        clear hb
        go_wp2_with fail
        go_roundw
        case rel => exact ⟨j + 1, by omega, by go_num, HN.out, HD.out⟩
        case measure => simp [intOf]; omega
    · have q1 : decide ((j : Int) < (l.length : Int)) = false := decide_eq_false (by omega)
      have hjn : j = l.length := by omega
      have HE : Hid (decide ((0 : Int) ≤ -1) = (!Et.rights num l)) := by
        show _ = _
        rw [hjn, List.take_length] at hr
        rw [hr]; rfl
      clear hjn
      go_wp2_with fail
      go_ret
      exact ⟨_, rfl, HE.out, G2.out⟩
set_option maxHeartbeats 4000000 in
set_option maxRecDepth 100000 in
theorem contains_of (l : List Et) (ih : ∀ e ∈ l, RC e) (S : Nat → Prop) (av : Value) (w : World) (hat : AAt S w av l) (hl : l.length ≤ 100000) : Calls Try.prog 39 #[av, .func (.func 40) #[] #[]] w (RetBool (!Et.rights num l) w) := by
  have HI := Lib.hid (index_of l ih S av w hat hl)
  obtain ⟨ao, cap, rfl⟩ := hat.form
  clear hat ih
  go_enter Try.func39, Try.ntmps39
  go_wp2_with fail
  refine HI.out.mono ?_
  rintro e w1 ⟨r, rfl, hr, hb⟩
  have HD := Lib.hid hb
  have HE := Lib.hid hr
  clear hb hr
  go_wp2_with fail
  go_ret
  exact ⟨by rw [← HE.out]; rfl, HD.out⟩
set_option maxHeartbeats 4000000 in
set_option maxRecDepth 100000 in
theorem right_tree (n : Nat) : n ≤ 100000 → ∀ (e : Et), e.size ≤ n → e.fine → RC e := by
  induction n with
  | zero => intro _ e he; cases e; simp [Et.size] at he
  | succ n ih =>
    intro hn e he hf S cs w hat
    obtain ⟨k, t, ns, l⟩ := e
    rw [fine_mk] at hf
    obtain ⟨ft, fn, fs, fa⟩ := hf
    have hsz : Et.sizes l ≤ n := by simp only [Et.size] at he; omega
    have hln := length_esizes l
    have IH : ∀ e ∈ l, RC e := fun e hel => by
      obtain ⟨j, hj, rfl⟩ := List.getElem_of_mem hel
      exact ih (by omega) _ (Nat.le_trans (esize_get l j hj) hsz) (fa _ hel)
    rw [EAt_mk] at hat
    obtain ⟨nv, av, rfl, hm, hl⟩ := hat
    have hm1 := hm.one
    have hl1 := hl.one
    have hb0 := (Below.refl w.heap.size w).alloc (Nat.le_refl _) (.cells #[.int .i64 k, .string t, nv, av] 28)
    have HB := Lib.hid hb0
    have HG := Lib.hid (alloc_at w (.cells #[.int .i64 k, .string t, nv, av] 28))
    have T1 := Lib.hid (fun w => textRight_any k t nv av w (by omega) hm1 hl1)
    have T2 := Lib.hid (fun w' (hw' : Below w.heap.size w w') => namesRight_any k t ns S nv av w' (hm.keeps (Keeps.of_below hw')) (by omega) (fun s hs => by have := fs s hs; omega) hl1)
    have T4 := Lib.hid (fun w' (hw' : Below w.heap.size w w') => contains_of l IH S av w' (hl.keeps (Keeps.of_below hw')) (by omega))
    obtain ⟨ao, ac, rfl⟩ := hm.form
    obtain ⟨bo, bc, rfl⟩ := hl.form
    have T3 := Lib.hid (fun w => partsRight_any k t ns.length l.length ao bo ac bc w (by omega) (by omega))
    rw [right_mk]
    unfold shapeB
    obtain ⟨b1, hb1⟩ : ∃ b, textB num k t = b := ⟨_, rfl⟩
    obtain ⟨b2, hb2⟩ : ∃ b, namesB k ns = b := ⟨_, rfl⟩
    obtain ⟨b3, hb3⟩ : ∃ b, partsB k t ns.length l.length = b := ⟨_, rfl⟩
    obtain ⟨b4, hb4⟩ : ∃ b, Et.rights num l = b := ⟨_, rfl⟩
    rw [hb1] at T1
    rw [hb2] at T2
    rw [hb3] at T3
    rw [hb4] at T4
    rw [hb1, hb2, hb3, hb4]
    clear hb1 hb2 hb3 hb4 IH ih hm hl fa fs hb0
    go_enter Try.func15, Try.ntmps15
    go_wp2_with (first | (refine wpList_load_row rfl 28 _ rfl w.heap.size rfl 28 #[.int .i64 k, .string t, .slice ao ns.length ac, .slice bo l.length bc] (0, 0) _ HG.out Try.underlying28 rfl info28 ?_))
    refine (T1.out _).mono ?_
    rintro e w1 ⟨rfl, hb⟩
    have HB1 := Lib.hid (HB.out.trans (hb.mono HB.out.size))
    have HG1 := Lib.hid (row_below hb HG.out)
    clear hb
    cases b1
    · go_wp2_with fail
      go_ret
      exact ⟨rfl, HB1.out⟩
    have U2 := Lib.hid (T2.out w1 HB1.out)
    go_wp2_with (first | (refine wpList_load_wanted (by rfl) 28 _ rfl w.heap.size rfl 28 #[.int .i64 k, .string t, .slice ao ns.length ac, .slice bo l.length bc] (0, 0) _ HG1.out Try.underlying28 rfl info28 ?_))
    refine U2.out.mono ?_
    rintro e w2 ⟨rfl, hb⟩
    have HB2 := Lib.hid (HB1.out.trans (hb.mono HB1.out.size))
    have HG2 := Lib.hid (row_below hb HG1.out)
    clear hb U2 T2
    cases b2
    · go_wp2_with fail
      go_ret
      exact ⟨rfl, HB2.out⟩
    go_wp2_with (first | (refine wpList_load_wanted (by rfl) 28 _ rfl w.heap.size rfl 28 #[.int .i64 k, .string t, .slice ao ns.length ac, .slice bo l.length bc] (0, 0) _ HG2.out Try.underlying28 rfl info28 ?_))
    refine (T3.out _).mono ?_
    rintro e w3 ⟨rfl, hb⟩
    have HB3 := Lib.hid (HB2.out.trans (hb.mono HB2.out.size))
    have HG3 := row_below hb HG2.out
    have c3 : w3.cell? ⟨w.heap.size, 3, none⟩ = some (.slice bo l.length bc) := by rw [Lib.cell_of_heap HG3]; rfl
    clear hb HG3
    cases b3
    · go_wp2_with fail
      go_ret
      exact ⟨rfl, HB3.out⟩
    have U4 := Lib.hid (T4.out w3 HB3.out)
    go_wp2_with fail
    refine U4.out.mono ?_
    rintro e w4 ⟨rfl, hb⟩
    have HB4 := Lib.hid (HB3.out.trans (hb.mono HB3.out.size))
    clear hb U4 T4
    go_wp2_with fail
    go_ret
    exact ⟨by cases b4 <;> rfl, HB4.out⟩
theorem right_any2 (e : Et) (S : Nat → Prop) (cs : Array Value) (w : World) (hat : Et.At S w e cs) (hs : e.size ≤ 100000) (hf : e.fine) : Calls Try.prog 15 #[.agg cs] w (RetBool (e.right num) w) := right_tree e.size hs e (Nat.le_refl _) hf S cs w hat
end Go.Proofs.Ytcalbcllmmoldaa
