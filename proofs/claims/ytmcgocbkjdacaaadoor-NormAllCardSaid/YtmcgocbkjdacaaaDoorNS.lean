/- Are two terms the same? the document's. -/
import Derived.Test.YtmcgocbkjdacaaaDoorNM
import Derived.Test.YtmcgocbkjdacaaaDoorFR5
import Derived.Test.YtmcgocbkjdacaaaDoorZC
namespace Go.Proofs.YtmcgocbkjdacaaaDoor
open Go.RowKit Go.BigM
set_option linter.unusedVariables false
set_option linter.unusedSimpArgs false
mutual
def Et.same : Et → Et → Bool
  | .mk k t ns l, .mk k' t' ns' l' => (k == k') && ((t.toList == t'.toList) && (decide (ns = ns') && Et.sames l l'))
def Et.sames : List Et → List Et → Bool
  | [], [] => true
  | d :: l, e :: m => d.same e && Et.sames l m
  | [], _ :: _ => false
  | _ :: _, [] => false
end
theorem sames_len : ∀ (l m : List Et), l.length ≠ m.length → Et.sames l m = false
  | [], [], h => absurd rfl h
  | d :: l, e :: m, h => by
    have := sames_len l m (by simpa using h)
    simp [Et.sames, this]
  | [], _ :: _, _ => by simp [Et.sames]
  | _ :: _, [], _ => by simp [Et.sames]
theorem sames_get : ∀ (l m : List Et) (j : Nat) (h1 : j < l.length) (h2 : j < m.length), Et.same l[j] m[j] = false → Et.sames l m = false
  | [], _, j, h1, _, _ => by simp at h1
  | _ :: _, [], j, _, h2, _ => by simp at h2
  | d :: l, e :: m, 0, _, _, h => by
    have h' : Et.same d e = false := h
    simp [Et.sames, h']
  | d :: l, e :: m, j + 1, h1, h2, h => by
    have := sames_get l m j (by simpa using h1) (by simpa using h2) (by simpa using h)
    simp [Et.sames, this]
theorem sames_all : ∀ (l m : List Et), l.length = m.length → (∀ j (h1 : j < l.length) (h2 : j < m.length), Et.same l[j] m[j] = true) → Et.sames l m = true
  | [], [], _, _ => by simp [Et.sames]
  | d :: l, e :: m, hl, h => by
    have h0 := h 0 (by simp) (by simp)
    have := sames_all l m (by simpa using hl) (fun j h1 h2 => by have := h (j + 1) (by simpa using h1) (by simpa using h2); simpa using this)
    have h0' : Et.same d e = true := h0
    simp [Et.sames, h0', this]
theorem esame_mk (k k' : Int) (t t' : ByteArray) (ns ns' : List ByteArray) (l l' : List Et) :
    Et.same (.mk k t ns l) (.mk k' t' ns' l') = ((k == k') && ((t.toList == t'.toList) && (decide (ns = ns') && Et.sames l l'))) := by simp [Et.same]
mutual
theorem same_iff : ∀ (d e : Et), Et.same d e = true ↔ d = e
  | .mk k t ns l, .mk k' t' ns' l' => by
    rw [esame_mk]
    simp only [Bool.and_eq_true, beq_iff_eq, decide_eq_true_eq, sames_iff l l', Et.mk.injEq]
    constructor
    · rintro ⟨h1, h2, h3, h4⟩
      refine ⟨h1, ?_, h3, h4⟩
      have h5 := @str_eq t t'
      rw [beq_iff_eq.2 h2] at h5
      exact of_decide_eq_true h5.symm
    · rintro ⟨rfl, rfl, rfl, rfl⟩; exact ⟨rfl, rfl, rfl, rfl⟩
theorem sames_iff : ∀ (l m : List Et), Et.sames l m = true ↔ l = m
  | [], [] => by simp [Et.sames]
  | d :: l, e :: m => by simp [Et.sames, same_iff d e, sames_iff l m]
  | [], _ :: _ => by simp [Et.sames]
  | _ :: _, [] => by simp [Et.sames]
end
theorem same_dec (d e : Et) : Et.same d e = true ∨ Et.same d e = false := by cases Et.same d e <;> simp
def FInv (l m : List Et) (w : World) (iv : Value) (wr : World) : Prop :=
  ∃ j : Nat, j ≤ l.length ∧ iv = .int .i64 j ∧ (∀ i (h1 : i < l.length) (h2 : i < m.length), i < j → Et.same l[i] m[i] = true) ∧ Below w.heap.size w wr
theorem bcell28 {W W1 : World} (hb : Below W.heap.size W W1) : ∀ b o, b < W.heap.size → W1.cell? ⟨b, o, none⟩ = W.cell? ⟨b, o, none⟩ := fun b o h => hb.cell (p := ⟨b, o, none⟩) h
theorem second_at (w : World) (a b : Array Value) : ((w.alloc (.cells a 28)).alloc (.cells b 28)).heap[w.heap.size + 1]? = some (.cells b 28 (0, 0)) := by
  have h := alloc_at (w.alloc (.cells a 28)) (.cells b 28)
  have e : (w.alloc (.cells a 28)).heap.size = w.heap.size + 1 := by simp
  rw [e] at h; exact h
def RefOk (n : Nat) : Prop := ∀ (d e : Et), d.size ≤ n → d.fine → e.fine → ∀ (S T : Nat → Prop) (cs ds : Array Value) (w : World), Et.At S w d cs → Et.At T w e ds →
    Calls Tryd.prog 15 #[.agg cs, .agg ds] w (RetBool (d.same e) w)

set_option maxHeartbeats 4000000 in
theorem refsame_any (n : Nat) : n ≤ 1000000000 → RefOk n := by
  induction n with
  | zero => intro _ d e hd; cases d; simp [Et.size] at hd
  | succ n ih0 =>
    intro hn d e hd hfd hfe S T cs ds w hat hat2
    have IH := Lib.hid (ih0 (by omega))
    obtain ⟨k, t, ns, l⟩ := d
    obtain ⟨k', t', ns', l'⟩ := e
    rw [fine_mk] at hfd hfe
    obtain ⟨fd1, fd2, fd3, fd4⟩ := hfd
    obtain ⟨fe1, fe2, fe3, fe4⟩ := hfe
    have FD := Lib.hid fd4
    have FE := Lib.hid fe4
    clear fd3 fd4 fe3 fe4
    rw [EAt_mk] at hat hat2
    obtain ⟨mv, lv, rfl, hm, hl⟩ := hat
    obtain ⟨mv', lv', rfl, hm', hl'⟩ := hat2
    have hsz : Et.sizes l ≤ n := by simp only [Et.size] at hd; omega
    have hll := length_esizes l
    rw [esame_mk]
    have o1 := hm.one
    have o2 := hl.one
    have o3 := hm'.one
    have o4 := hl'.one
    have HB := Lib.hid (((Below.refl w.heap.size w).alloc (Nat.le_refl _) (.cells #[.int .i64 k, .string t, mv, lv] 28)).alloc (by simp) (.cells #[.int .i64 k', .string t', mv', lv'] 28))
    have B0 := Keeps.of_below (S := S) HB.out
    have B1 := Keeps.of_below (S := T) HB.out
    have M1 := Lib.hid (hm.keeps B0)
    have M2 := Lib.hid (hm'.keeps B1)
    have L1 := Lib.hid (hl.keeps B0)
    have L2 := Lib.hid (hl'.keeps B1)
    obtain ⟨ao, cap, rfl⟩ := hl.form
    obtain ⟨bo, cap', rfl⟩ := hl'.form
    clear ih0 hm hl hm' hl' hd B0 B1
    by_cases b1 : k = k'
    · subst b1
      rw [beq_self_eq_true, Bool.true_and]
      by_cases b2 : (t.toList == t'.toList) = true
      · have c2 : (t.toList != t'.toList) = false := by rw [bne, b2]; rfl
        have d2 : t.toList = t'.toList := beq_iff_eq.1 b2
        rw [b2, Bool.true_and]
        have HE := fun w m1 m2 => texts_any ns ns' S T mv mv' w m1 m2 (by omega) (by omega)
        by_cases b3 : decide (ns = ns') = true
        · rw [b3] at HE ⊢
          rw [Bool.true_and]
          have HE := Lib.hid HE
          clear b3 b2
          by_cases b4 : l.length = l'.length
          · have c4 : ((l.length : Int) != (l'.length : Int)) = false := by simp [b4]
            have HLN := Lib.hid b4
            clear b4
            go_enter Tryd.func15, Tryd.ntmps15
            go_wp2_with fail
            refine (HE.out _ M1.out M2.out).mono ?_
            rintro e w1 ⟨rfl, hb⟩
            have K1 := Lib.hid (HB.out.trans (hb.mono HB.out.size))
            have K2 := Lib.hid (L1.out.keeps (Keeps.of_below hb))
            have K3 := Lib.hid (L2.out.keeps (Keeps.of_below hb))
            have hsw := hb.size
            have ez : ((w.alloc (.cells #[.int .i64 k, .string t, mv, .slice ao l.length cap] 28)).alloc (.cells #[.int .i64 k, .string t', mv', .slice bo l'.length cap'] 28)).heap.size = w.heap.size + 1 + 1 := by simp
            rw [ez] at hsw
            have cA : w1.cell? ⟨w.heap.size, 3, none⟩ = some (.slice ao l.length cap) := by
              rw [hb.cell (p := ⟨w.heap.size, 3, none⟩) (by show w.heap.size < _; rw [ez]; omega), Lib.cell_of_heap ((Lib.alloc_old _ _ _ (by simp)).trans (alloc_at w _))]; rfl
            have cB : w1.cell? ⟨w.heap.size + 1, 3, none⟩ = some (.slice bo l'.length cap') := by
              rw [hb.cell (p := ⟨w.heap.size + 1, 3, none⟩) (by show w.heap.size + 1 < _; rw [ez]; omega), Lib.cell_of_heap (second_at w _ _)]; rfl
            have CA := Lib.hid cA
            have CB := Lib.hid cB
            clear hb HE M1 M2 L1 L2 HB
            go_wp2_with fail
            clear c2 c4 cA cB
            go_loopw [5] (fun iv wr => FInv l l' w1 iv wr) (fun iv _ => l.length - (intOf iv).toNat)
            case atStart => exact ⟨0, Nat.zero_le _, rfl, fun i _ _ h => absurd h (by omega), Below.refl _ _⟩
            case round =>
              obtain ⟨j, hj, rfl, hsm, hbw⟩ := hrel
              have HM := Lib.hid hsm
              have HBw := Lib.hid hbw
              have hsr := hbw.size
              have cA := (hbw.cell (p := ⟨w.heap.size, 3, none⟩) (by show w.heap.size < _; omega)).trans CA.out
              have cB := (hbw.cell (p := ⟨w.heap.size + 1, 3, none⟩) (by show w.heap.size + 1 < _; omega)).trans CB.out
              clear hsm hbw
              by_cases hlt : j < l.length
              · have q1 : decide ((j : Int) < (l.length : Int)) = true := decide_eq_true (by omega)
                have hlt2 : j < l'.length := by have := HLN.out; omega
                obtain ⟨g, o, k5, t5, mv5, lv5, rfl, hS, -, hat, e0, e1, e2, e3, o5, o6⟩ := (K2.out.keeps (Keeps.of_below HBw.out)).get j hlt
                obtain ⟨g2, o2', k6, t6, mv6, lv6, rfl, hS2, -, hat2, f0, f1, f2, f3, o7, o8⟩ := (K3.out.keeps (Keeps.of_below HBw.out)).get j hlt2
                have hg : g < wr.heap.size := World.block_lt_of_cell? wr _ e0
                have hg2 : g2 < wr.heap.size := World.block_lt_of_cell? wr _ f0
                have hsj := esize_get l j hlt
                have HX' := IH.out l[j] l'[j] (by omega) (FD.out _ (List.getElem_mem hlt)) (FE.out _ (List.getElem_mem hlt2)) S T _ _ wr.drew (Et.At.keeps (Keeps.of_below (Below.refl _ _).drew) _ _ hat) (Et.At.keeps (Keeps.of_below (Below.refl _ _).drew) _ _ hat2)
                obtain ⟨r, hr⟩ : ∃ r, Et.same l[j] l'[j] = r := ⟨_, rfl⟩
                rw [hr] at HX'
                have HX := Lib.hid HX'
                have HRR := Lib.hid hr
                have E0 := Lib.hid e0
                have E1 := Lib.hid e1
                have E2 := Lib.hid e2
                have E3 := Lib.hid e3
                have F0 := Lib.hid f0
                have F1 := Lib.hid f1
                have F2 := Lib.hid f2
                have F3 := Lib.hid f3
                clear HX' hr hat hat2 hS hS2 e0 e1 e2 e3 f0 f1 f2 f3 IH
                go_upto_region 6 with fail
                have DA := Lib.hid cA
                have DB := Lib.hid cB
                clear cA cB q1
                refine wp_region_noPanic ?_
                refine wp_region_held_drew (S := Below wr.heap.size wr) (by kernel_rfl) ((Below.refl _ _).drew) (fun hHeld => ?_)
                refine wpAnyH_take (i := 0) (v := Value.pointer (some ⟨w.heap.size, 3, none⟩)) rfl (by kernel_rfl) (by kernel_rfl) (by kernel_rfl) (fun _ _ _ h => h) (Or.inl ⟨rfl, fun w' hw' => ?_⟩) hHeld ?_
                · go_simp
                simp only [List.getElem_toArray, List.getElem_cons_succ, List.getElem_cons_zero, Act.put, List.setIfInBounds_toArray, List.set_cons_zero, List.set_cons_succ]
                refine wpAnyH_take (i := 1) (v := Value.slice (some ⟨g, o, none⟩) l.length cap) rfl (by kernel_rfl) (by kernel_rfl) (by kernel_rfl) (fun _ _ _ h => h) (Or.inl ⟨rfl, fun w' hw' => ?_⟩) hHeld ?_
                · have c := (hw'.cell (p := ⟨w.heap.size, 3, none⟩) (by show w.heap.size < _; omega)).trans DA.out; go_simp
                simp only [List.getElem_toArray, List.getElem_cons_succ, List.getElem_cons_zero, Act.put, List.setIfInBounds_toArray, List.set_cons_zero, List.set_cons_succ]
                refine wpAnyH_take (i := 2) (v := Value.int .i64 j) rfl (by kernel_rfl) (by kernel_rfl) (by kernel_rfl) (fun _ _ _ h => h) (Or.inl ⟨rfl, fun w' hw' => ?_⟩) hHeld ?_
                · go_simp
                simp only [List.getElem_toArray, List.getElem_cons_succ, List.getElem_cons_zero, Act.put, List.setIfInBounds_toArray, List.set_cons_zero, List.set_cons_succ]
                refine wpAnyH_take (i := 3) (v := Value.pointer (some ⟨g, o + j * 4, none⟩)) rfl (by kernel_rfl) (by kernel_rfl) (by kernel_rfl) (fun _ _ _ h => h) (Or.inl ⟨rfl, fun w' hw' => ?_⟩) hHeld ?_
                · go_simp
                simp only [List.getElem_toArray, List.getElem_cons_succ, List.getElem_cons_zero, Act.put, List.setIfInBounds_toArray, List.set_cons_zero, List.set_cons_succ]
                refine wpAnyH_take (i := 4) (v := Value.agg #[.int .i64 k5, .string t5, mv5, lv5]) rfl (by kernel_rfl) (by kernel_rfl) (by kernel_rfl) (fun _ _ _ h => h) (Or.inl ⟨rfl, fun w' hw' => ?_⟩) hHeld ?_
                · have qE0 := (hw'.cell (p := ⟨g, o + j * 4, none⟩) (by show g < wr.heap.size; omega)).trans E0.out; have qE1 := (hw'.cell (p := ⟨g, o + j * 4 + 1, none⟩) (by show g < wr.heap.size; omega)).trans E1.out; have qE2 := (hw'.cell (p := ⟨g, o + j * 4 + 2, none⟩) (by show g < wr.heap.size; omega)).trans E2.out; have qE3 := (hw'.cell (p := ⟨g, o + j * 4 + 3, none⟩) (by show g < wr.heap.size; omega)).trans E3.out; go_simp
                simp only [List.getElem_toArray, List.getElem_cons_succ, List.getElem_cons_zero, Act.put, List.setIfInBounds_toArray, List.set_cons_zero, List.set_cons_succ]
                refine wpAnyH_take (i := 5) (v := Value.pointer (some ⟨w.heap.size + 1, 3, none⟩)) rfl (by kernel_rfl) (by kernel_rfl) (by kernel_rfl) (fun _ _ _ h => h) (Or.inl ⟨rfl, fun w' hw' => ?_⟩) hHeld ?_
                · go_simp
                simp only [List.getElem_toArray, List.getElem_cons_succ, List.getElem_cons_zero, Act.put, List.setIfInBounds_toArray, List.set_cons_zero, List.set_cons_succ]
                refine wpAnyH_take (i := 6) (v := Value.slice (some ⟨g2, o2', none⟩) l'.length cap') rfl (by kernel_rfl) (by kernel_rfl) (by kernel_rfl) (fun _ _ _ h => h) (Or.inl ⟨rfl, fun w' hw' => ?_⟩) hHeld ?_
                · have c := (hw'.cell (p := ⟨w.heap.size + 1, 3, none⟩) (by show w.heap.size + 1 < _; omega)).trans DB.out; go_simp
                simp only [List.getElem_toArray, List.getElem_cons_succ, List.getElem_cons_zero, Act.put, List.setIfInBounds_toArray, List.set_cons_zero, List.set_cons_succ]
                refine wpAnyH_take (i := 7) (v := Value.int .i64 j) rfl (by kernel_rfl) (by kernel_rfl) (by kernel_rfl) (fun _ _ _ h => h) (Or.inl ⟨rfl, fun w' hw' => ?_⟩) hHeld ?_
                · go_simp
                simp only [List.getElem_toArray, List.getElem_cons_succ, List.getElem_cons_zero, Act.put, List.setIfInBounds_toArray, List.set_cons_zero, List.set_cons_succ]
                refine wpAnyH_take (i := 8) (v := Value.pointer (some ⟨g2, o2' + j * 4, none⟩)) rfl (by kernel_rfl) (by kernel_rfl) (by kernel_rfl) (fun _ _ _ h => h) (Or.inl ⟨rfl, fun w' hw' => ?_⟩) hHeld ?_
                · go_simp
                simp only [List.getElem_toArray, List.getElem_cons_succ, List.getElem_cons_zero, Act.put, List.setIfInBounds_toArray, List.set_cons_zero, List.set_cons_succ]
                refine wpAnyH_take (i := 9) (v := Value.agg #[.int .i64 k6, .string t6, mv6, lv6]) rfl (by kernel_rfl) (by kernel_rfl) (by kernel_rfl) (fun _ _ _ h => h) (Or.inl ⟨rfl, fun w' hw' => ?_⟩) hHeld ?_
                · have qF0 := (hw'.cell (p := ⟨g2, o2' + j * 4, none⟩) (by show g2 < wr.heap.size; omega)).trans F0.out; have qF1 := (hw'.cell (p := ⟨g2, o2' + j * 4 + 1, none⟩) (by show g2 < wr.heap.size; omega)).trans F1.out; have qF2 := (hw'.cell (p := ⟨g2, o2' + j * 4 + 2, none⟩) (by show g2 < wr.heap.size; omega)).trans F2.out; have qF3 := (hw'.cell (p := ⟨g2, o2' + j * 4 + 3, none⟩) (by show g2 < wr.heap.size; omega)).trans F3.out; go_simp
                simp only [List.getElem_toArray, List.getElem_cons_succ, List.getElem_cons_zero, Act.put, List.setIfInBounds_toArray, List.set_cons_zero, List.set_cons_succ]
                refine wpAnyH_ready (rs := [10]) (by kernel_rfl) (by simp) ?_
                refine (AllReadyH.cons rfl (fun K hK => ?_) AllReadyH.nil)
                go_simp
                refine HX.out.mono ?_
                rintro e w7 ⟨rfl, hb⟩
                have hS7 : Below wr.heap.size wr w7 := (Below.refl wr.heap.size wr).drew.trans hb
                have HS7 := Lib.hid hS7
                refine hK.out _ _ hS7 (fun hHeld => ?_)
                clear hK K hb hS7
                try simp only [List.getElem_toArray, List.getElem_cons_succ, List.getElem_cons_zero, Act.put, List.setIfInBounds_toArray, List.set_cons_zero, List.set_cons_succ]
                refine wpAnyH_take (i := 11) (v := Value.bool (!r)) rfl (by kernel_rfl) (by kernel_rfl) (by kernel_rfl) (fun _ _ _ h => h) (Or.inl ⟨rfl, fun w' hw' => ?_⟩) hHeld ?_
                · go_simp
                simp only [List.getElem_toArray, List.getElem_cons_succ, List.getElem_cons_zero, Act.put, List.setIfInBounds_toArray, List.set_cons_zero, List.set_cons_succ]
                refine wpAnyH_done (by kernel_rfl) ?_ _
                refine NoPanic.normal ?_
                clear hHeld
                have HN := Lib.hid (HBw.out.trans (HS7.out.mono HBw.out.size))
                cases r with
                | false =>
                  have HF : Hid (Et.sames l l' = false) := sames_get l l' j hlt hlt2 HRR.out
                  go_wp2
                  go_ret
                  exact ⟨by rw [HF.out]; rfl, K1.out.trans (HN.out.mono K1.out.size)⟩
                | true =>
                  have HQ : Hid (FInv l l' w1 (.int .i64 ((j : Int) + 1)) w7) := ⟨j + 1, by omega, by go_num, fun i h1 h2 h3 => by
                    by_cases hij : i = j
                    · subst hij; exact HRR.out
                    · exact HM.out i h1 h2 (by omega), HN.out⟩
                  go_wp2_with fail
                  go_roundw
                  case rel => exact HQ.out
                  case measure => simp [intOf]; omega
              · obtain rfl : j = l.length := by omega
                have q1 : decide ((l.length : Int) < (l.length : Int)) = false := decide_eq_false (by omega)
                have HF : Hid (Et.sames l l' = true) := sames_all l l' HLN.out (fun i h1 h2 => HM.out i h1 h2 h1)
                go_wp2_with fail
                go_ret
                exact ⟨by rw [HF.out]; rfl, K1.out.trans (HBw.out.mono K1.out.size)⟩
          · have c4 : ((l.length : Int) != (l'.length : Int)) = true := by rw [bne_iff_ne]; omega
            rw [sames_len l l' b4]
            clear b4
            go_enter Tryd.func15, Tryd.ntmps15
            go_wp2_with fail
            refine (HE.out _ M1.out M2.out).mono ?_
            rintro e w1 ⟨rfl, hb⟩
            have K1 := Lib.hid (HB.out.trans (hb.mono HB.out.size))
            have hc := bcell28 hb
            clear hb
            go_wp2
            go_ret
            exact ⟨rfl, K1.out⟩
        · have b3' : decide (ns = ns') = false := by simpa using b3
          rw [b3'] at HE ⊢
          have HE := Lib.hid HE
          clear b3 b3' b2
          go_enter Tryd.func15, Tryd.ntmps15
          go_wp2_with fail
          refine (HE.out _ M1.out M2.out).mono ?_
          rintro e w1 ⟨rfl, hb⟩
          have K1 := Lib.hid (HB.out.trans (hb.mono HB.out.size))
          have hc := bcell28 hb
          clear hb
          go_wp2
          go_ret
          exact ⟨rfl, K1.out⟩
      · have b2' : (t.toList == t'.toList) = false := by simpa using b2
        have c2 : (t.toList != t'.toList) = true := by rw [bne, b2']; rfl
        have d2 : ¬ t.toList = t'.toList := by rw [← beq_iff_eq, b2']; decide
        rw [b2']
        clear b2 b2'
        go_enter Tryd.func15, Tryd.ntmps15
        go_wp2
        go_ret
        exact ⟨rfl, HB.out⟩
    · have b1' : (k == k') = false := by simpa using b1
      have c1 : (k != k') = true := by rw [bne, b1']; rfl
      rw [b1']
      clear b1 b1'
      go_enter Tryd.func15, Tryd.ntmps15
      go_wp2
      go_ret
      exact ⟨rfl, HB.out⟩
theorem same_any (d e : Et) (hd : d.size ≤ 1000000) (hfd : d.fine) (hfe : e.fine) (S T : Nat → Prop) (cs ds : Array Value) (w : World) (h1 : Et.At S w d cs) (h2 : Et.At T w e ds) : Calls Tryd.prog 15 #[.agg cs, .agg ds] w (RetBool (d.same e) w) :=
  refsame_any 1000000 (by omega) d e hd hfd hfe S T cs ds w h1 h2
end Go.Proofs.YtmcgocbkjdacaaaDoor
