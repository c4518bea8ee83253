/- The document's Free. -/
import Derived.Test.YtmcgocbkjdacaaaDoorFR5
namespace Go.Proofs.YtmcgocbkjdacaaaDoor
open Go.RowKit Go.BigM
set_option linter.unusedVariables false
set_option linter.unusedSimpArgs false
def RetRF (e : Et) (w : World) (r : Ending) (w' : World) : Prop :=
  ∃ v L, r = .returned v ∧ NAt (fun g => w.heap.size ≤ g) w' v L ∧ Srt L ∧ (∀ s, s ∈ L ↔ e.fr s) ∧ L.length ≤ e.size ∧ Below w.heap.size w w'
def RFC (e : Et) : Prop := ∀ (S : Nat → Prop) (cs : Array Value) (w : World), Et.At S w e cs → Calls Tryd.prog 20 #[.agg cs] w (RetRF e w)
/-- A set, so far. -/
def SetAt (B n : Nat) (F : ByteArray → Prop) (w : World) (ov : Value) (wr : World) : Prop :=
  ∃ L, NAt (fun g => B ≤ g) wr ov L ∧ Srt L ∧ (∀ s, s ∈ L ↔ F s) ∧ L.length ≤ n ∧ Below w.heap.size w wr
def OutInv (a : List Et) (B : Nat) (w : World) (ov iv : Value) (wr : World) : Prop :=
  ∃ j : Nat, j ≤ a.length ∧ iv = .int .i64 (j : Int) ∧ SetAt B (Et.sizes (a.take j)) (fun s => Et.frs s (a.take j)) w ov wr
def InnInv (L2 : List ByteArray) (B n : Nat) (F : ByteArray → Prop) (w : World) (ov iv : Value) (wr : World) : Prop :=
  ∃ i : Nat, i ≤ L2.length ∧ iv = .int .i64 (i : Int) ∧ SetAt B (n + i) (fun s => F s ∨ s ∈ L2.take i) w ov wr
set_option maxHeartbeats 8000000 in
set_option maxRecDepth 100000 in
theorem reffree_var (t : ByteArray) : RFC (.mk 5 t [] []) := by
  intro S cs w hat
  rw [EAt_mk] at hat
  obtain ⟨nv, av, rfl, hm, hla⟩ := hat
  have o1 := hm.one
  have o2 := hla.one
  have A1 := (Below.refl w.heap.size w).alloc (Nat.le_refl _) (.cells #[.int .i64 5, .string t, nv, av] 28)
  have A2 := A1.alloc A1.size (.cells (tcells [t]) 9)
  obtain ⟨no, nc, rfl⟩ := hm.form
  obtain ⟨ao, ac, rfl⟩ := hla.form
  have HE := EB.cell _ _ _ _ _ _ (show EB (w.alloc (.cells #[.int .i64 5, .string t, .slice no ([] : List ByteArray).length nc, .slice ao ([] : List Et).length ac] 28)) w.heap.size 5 t _ _ from alloc_at _ _)
  obtain ⟨c0, c1, c2, c3⟩ := HE
  have hs1 : (w.alloc (.cells #[.int .i64 5, .string t, .slice no ([] : List ByteArray).length nc, .slice ao ([] : List Et).length ac] 28)).heap.size = w.heap.size + 1 := by simp
  have HFIN : Hid (RetRF (.mk 5 t [] []) w (.returned (.slice (some ⟨w.heap.size + 1, 0, none⟩) 1 1)) ((w.alloc (.cells #[.int .i64 5, .string t, .slice no ([] : List ByteArray).length nc, .slice ao ([] : List Et).length ac] 28)).alloc (.cells (tcells [t]) 9))) := by
    refine ⟨_, [t], rfl, ?_, by simp [Srt], fun s => ?_, by simp [Et.size], A2⟩
    · have h := NAt.lits (w.alloc (.cells #[.int .i64 5, .string t, .slice no ([] : List ByteArray).length nc, .slice ao ([] : List Et).length ac] 28)) [t]
      rw [hs1] at h
      exact h.mono (fun g hg => by have : w.heap.size + 1 ≤ g := hg; omega)
    · unfold Et.fr; simp [Et.frs]; exact eq_comm
  clear A1 A2 hm hla hs1
  simp only [List.length_nil] at c0 c1 c2 c3 HFIN ⊢
  go_enter Tryd.func20, Tryd.ntmps20
  go_wp2_with fail
  go_ret
  exact HFIN.out
set_option maxHeartbeats 8000000 in
set_option maxRecDepth 100000 in
theorem reffree_node (k : Int) (t : ByteArray) (ns : List ByteArray) (a : List Et) (hk5 : ¬ k = 5) (ih : ∀ e ∈ a, RFC e) (hsz : Et.sizes a ≤ 10000) (hnl : ns.length ≤ 100) : RFC (.mk k t ns a) := by
  intro S cs w hat
  rw [EAt_mk] at hat
  obtain ⟨nv, av, rfl, hm, hla⟩ := hat
  have o1 := hm.one
  have o2 := hla.one
  have hln := length_esizes a
  obtain ⟨no, nc, rfl⟩ := hm.form
  obtain ⟨ao, ac, rfl⟩ := hla.form
  have A1 := Lib.hid ((Below.refl w.heap.size w).alloc (Nat.le_refl _) (.cells #[.int .i64 k, .string t, .slice no ns.length nc, .slice ao a.length ac] 28))
  have HE : Hid (EB (w.alloc (.cells #[.int .i64 k, .string t, .slice no ns.length nc, .slice ao a.length ac] 28)) w.heap.size k t (.slice no ns.length nc) (.slice ao a.length ac)) := alloc_at _ _
  have HM := Lib.hid (hm.keeps (Keeps.of_below A1.out))
  have HA := Lib.hid (hla.keeps (Keeps.of_below A1.out))
  have IH := Lib.hid ih
  have q0 : (k == 5) = false := by simpa using hk5
  clear hm hla ih
  go_enter Tryd.func20, Tryd.ntmps20
  go_upto_region 1 with fail
  generalize w.alloc (.cells #[.int .i64 k, .string t, .slice no ns.length nc, .slice ao a.length ac] 28) = W1 at A1 HE HM HA ⊢
  obtain ⟨gs, hgs⟩ : ∃ gs, gs = w.heap.size := ⟨_, rfl⟩
  rw [← hgs] at HE
  simp only [← hgs]
  clear hgs
  obtain ⟨c0, c1, c2, c3⟩ := EB.cell _ _ _ _ _ _ HE.out
  have hw1 : w.heap.size ≤ W1.heap.size := A1.out.size
  go_wp2_with fail
  go_loopw [3, 4] (fun ov iv wr => OutInv a w.heap.size W1 ov iv wr) (fun _ iv _ => a.length - (intOf iv).toNat)
  case atStart => exact ⟨0, Nat.zero_le _, rfl, [], .inl ⟨rfl, rfl⟩, List.Pairwise.nil, fun s => by simp [Et.frs], by simp, Below.refl _ _⟩
  case round =>
    clear c0 c1 c2 c3
    obtain ⟨j, hj, rfl, L, hL1, hL2, hL3, hL4, hb⟩ := hrel
    have HB := Lib.hid hb
    have HER := Lib.hid (row_below hb HE.out)
    have HAJ := Lib.hid (HA.out.keeps (Keeps.of_below hb))
    have HMJ := Lib.hid (HM.out.keeps (Keeps.of_below hb))
    have HL1 := Lib.hid hL1
    have HL2 := Lib.hid hL2
    have HL3 := Lib.hid hL3
    obtain ⟨oo, oc, rfl⟩ := hL1.form
    obtain ⟨d0, d1, d2, d3⟩ := EB.cell _ _ _ _ _ _ (show EB wr gs k t _ _ from HER.out)
    have hle := esizes_take_le a j
    have hwr : w.heap.size ≤ wr.heap.size := Nat.le_trans hw1 hb.size
    clear hb hL1 hL2 hL3
    by_cases hlt : j < a.length
    · have q1 : decide ((j : Int) < (a.length : Int)) = true := decide_eq_true (by omega)
      obtain ⟨g, o, k5, t5, nv5, av5, rfl, -, -, hat5, e0, e1, e2, e3, o5, o6⟩ := HAJ.out.get j hlt
      have HST := Lib.hid (esizes_take a j hlt)
      have hle2 := esizes_take_le a (j + 1)
      rw [HST.out] at hle2
      have HC := Lib.hid (IH.out _ (List.getElem_mem hlt) _ _ wr hat5)
      clear hat5
      go_wp2_with fail
      refine HC.out.mono ?_
      rintro r w2 ⟨v2, L2, rfl, h1, h2, h3, h4, hb2⟩
      have HB2 := Lib.hid (HB.out.trans (hb2.mono HB.out.size))
      have H21 := Lib.hid (h1.mono (T := fun g => w.heap.size ≤ g) (fun g hg => by have : wr.heap.size ≤ g := hg; omega))
      have H23 := Lib.hid h3
      have HO2 := Lib.hid (HL1.out.keeps (Keeps.of_below hb2))
      have hw2 : w.heap.size ≤ w2.heap.size := Nat.le_trans hwr hb2.size
      have hls : L2.length ≤ a[j].size := h4
      obtain ⟨o2', c2', rfl⟩ := h1.form
      have H0 : Hid (InnInv L2 w.heap.size L.length (fun s => Et.frs s (a.take j)) W1 (.slice oo L.length oc) (.int .i64 0) w2) := ⟨0, Nat.zero_le _, rfl, L, HO2.out, HL2.out, fun s => by rw [HL3.out]; simp, by omega, HB2.out⟩
      obtain ⟨za, hza⟩ : ∃ za, za = a[j].size := ⟨_, rfl⟩
      rw [← hza] at hls hle2
      have HZA := Lib.hid hza
      clear h1 h2 h3 h4 hb2 HC e0 e1 e2 e3 d0 d1 d2 d3 hza
      go_wp2_with fail
      go_loopw [3, 6] (fun ov iv wr => InnInv L2 w.heap.size L.length (fun s => Et.frs s (a.take j)) W1 ov iv wr ∧ Below w2.heap.size w2 wr) (fun _ iv _ => L2.length - (intOf iv).toNat)
      case atStart => exact ⟨H0.out, Below.refl _ _⟩
      case round =>
        clear H0
        obtain ⟨⟨i, hi, rfl, L3, h1, h2, h3, h4, hb3⟩, hb23⟩ := hrel
        have HB3 := Lib.hid hb3
        have HB23 := Lib.hid hb23
        have H31 := Lib.hid h1
        have H32 := Lib.hid h2
        have H33 := Lib.hid h3
        have H2R := Lib.hid (H21.out.keeps (Keeps.of_below hb23))
        obtain ⟨o3, c3', rfl⟩ := h1.form
        clear hb3 hb23 h1 h2 h3
        by_cases hlt2 : i < L2.length
        · have q2 : decide ((i : Int) < (L2.length : Int)) = true := decide_eq_true (by omega)
          obtain ⟨g2, o22, rfl, -, f0⟩ := H2R.out.get i hlt2
          have htk : L2.take (i + 1) = L2.take i ++ [L2[i]] := List.take_succ_eq_append_getElem hlt2
          obtain ⟨x, hx⟩ : ∃ x, x = L2[i] := ⟨_, rfl⟩
          rw [← hx] at f0 htk
          have HW := Lib.hid (with_any L3 H32.out x w.heap.size _ wr H31.out (by omega) (by have := HB23.out.size; omega))
          have HNX : Hid (∀ v' w9, RetWith w.heap.size L3 x wr (.returned v') w9 → (InnInv L2 w.heap.size L.length (fun s => Et.frs s (a.take j)) W1 v' (.int .i64 ((i : Int) + 1)) w9 ∧ Below w2.heap.size w2 w9) ∧ ∃ ao n ac, v' = .slice ao n ac) := by
            show ∀ v' w9, _ → _
            rintro v' w9 ⟨v, L9, e9, g1, g2, g3, g4, g5⟩
            injection e9 with e9
            subst e9
            refine ⟨⟨⟨i + 1, by omega, by go_num, L9, g1, g2, fun s => ?_, by omega, HB3.out.trans (g5.mono HB3.out.size)⟩, HB23.out.trans (g5.mono HB23.out.size)⟩, ?_⟩
            · rw [g3, H33.out, htk]
              simp only [List.mem_append, List.mem_singleton]
              constructor
              · rintro (h | h | h)
                · exact .inr (.inr h)
                · exact .inl h
                · exact .inr (.inl h)
              · rintro (h | h | h)
                · exact .inr (.inl h)
                · exact .inr (.inr h)
                · exact .inl h
            · obtain ⟨ao, ac, e⟩ := g1.form
              exact ⟨ao, _, ac, e⟩
          clear hx htk
          go_wp2_with fail
          refine HW.out.mono ?_
          intro r w9 hret
          obtain ⟨v9, L9, rfl, hrest⟩ := hret
          obtain ⟨h9, ao9, n9, ac9, rfl⟩ := HNX.out v9 w9 ⟨_, L9, rfl, hrest⟩
          have HN9 := Lib.hid h9
          clear hrest h9
          go_wp2_with fail
          go_roundw
          case rel => exact HN9.out
          case measure => simp [intOf]; omega
        · have q2 : decide ((i : Int) < (L2.length : Int)) = false := decide_eq_false (by omega)
          obtain rfl : i = L2.length := by omega
          have HNX : Hid (OutInv a w.heap.size W1 (.slice o3 L3.length c3') (.int .i64 ((j : Int) + 1)) wr) := by
            refine ⟨j + 1, by omega, by go_num, L3, H31.out, H32.out, fun s => ?_, by rw [HST.out, ← HZA.out]; omega, HB3.out⟩
            have h9 := H33.out s
            rw [List.take_length] at h9
            rw [h9, take_snoc_et a j hlt]
            show (Et.frs s (a.take j) ∨ s ∈ L2) ↔ Et.frs s (a.take j ++ [a[j]])
            rw [frs_snoc, H23.out]
          go_wp2_with fail
          go_roundw
          case rel => exact HNX.out
          case measure => simp [intOf]; omega
    · have q1 : decide ((j : Int) < (a.length : Int)) = false := decide_eq_false (by omega)
      obtain rfl : j = a.length := by omega
      have hta : a.take a.length = a := List.take_length
      rw [hta] at hL4 hle
      have HWO := Lib.hid (without_any L ns _ S _ _ wr HL1.out HMJ.out (by omega) (by omega))
      have HEND : Hid (∀ v' w9, RetWo L ns wr (.returned v') w9 → RetRF (.mk k t ns a) w (.returned v') w9 ∧ ∃ ao n ac, v' = .slice ao n ac) := by
        show ∀ v' w9, _ → _
        rintro v' w9 ⟨v, e9, g1, g2⟩
        injection e9 with e9
        subst e9
        refine ⟨⟨v', _, rfl, g1.at.mono (fun g hg => by have := hg.1; omega), wo_srt HL2.out, fun s => ?_, by have := wo_len L ns; simp only [Et.size]; omega, (A1.out.trans (HB.out.mono hw1)).trans (g2.mono hwr)⟩, ?_⟩
        · rw [wo_mem, HL3.out, hta]
          unfold Et.fr
          simp [hk5]
        · obtain ⟨ao, ac, e⟩ := own_form g1
          exact ⟨ao, _, ac, e⟩
      clear hta
      go_wp2_with fail
      refine HWO.out.mono ?_
      intro r w9 hret
      obtain ⟨v9, rfl, hrest⟩ := hret
      obtain ⟨h9, ao9, n9, ac9, rfl⟩ := HEND.out v9 w9 ⟨_, rfl, hrest⟩
      have HN9 := Lib.hid h9
      clear hrest h9
      go_wp2_with fail
      go_ret
      exact HN9.out
theorem reffree_tree (N : Nat) : N ≤ 10000 → ∀ (e : Et), e.size ≤ N → e.right num = true → e.fine → RFC e := by
  induction N with
  | zero => intro _ e he; cases e; simp [Et.size] at he
  | succ N IH =>
    intro hN e he hr hf
    obtain ⟨k, t, ns, a⟩ := e
    have hsz : Et.sizes a ≤ N := by simp only [Et.size] at he; omega
    obtain ⟨hk, hra, -, -, -, -, -, -, hns0, ha0⟩ := kind_of_right hr
    rw [fine_mk] at hf
    obtain ⟨hf1, hf2, hf3, hf4⟩ := hf
    by_cases h5 : k = 5
    · subst h5
      obtain rfl := hns0 (by decide) (by decide)
      obtain rfl := ha0 (by decide)
      exact reffree_var t
    · refine reffree_node k t ns a h5 ?_ (by omega) hf2
      intro e hm
      obtain ⟨j, hj, rfl⟩ := List.getElem_of_mem hm
      exact IH (by omega) _ (by have := esize_get a j hj; omega) ((rights_all a).1 hra _ hm) (hf4 _ hm)
theorem reffree_any (e : Et) (hr : e.right num = true) (hf : e.fine) (hs : e.size ≤ 10000) : RFC e := reffree_tree e.size hs e (Nat.le_refl _) hr hf
end Go.Proofs.YtmcgocbkjdacaaaDoor
