/- Contracts of thunkref2's marks and Same. -/
import Derived.Test.YtkjcbaikebdmmaaDoorJ20
import Derived.Deep.QuietTactic
import Derived.Deep.RegionHeld3
import Derived.Deep.Cut
namespace Go.Proofs.YtkjcbaikebdmmaaDoor
open Go.RowKit
set_option linter.unusedVariables false
set_option linter.unusedSimpArgs false
def EInv (ms ns : List Int) (w : World) (iv : Value) (wr : World) : Prop :=
  ∃ j m : Nat, j ≤ ms.length ∧ iv = .int .i64 j ∧ ms.take j = ns.take j ∧ wr = w.drewN m

def FInv (l m : List Dt) (w : World) (iv : Value) (wr : World) : Prop :=
  ∃ j : Nat, j ≤ l.length ∧ iv = .int .i64 j ∧ (∀ i (h1 : i < l.length) (h2 : i < m.length), i < j → Dt.same l[i] m[i] = true) ∧ Below w.heap.size w wr

theorem bcell40 {W W1 : World} (hb : Below W.heap.size W W1) : ∀ b o, b < W.heap.size → W1.cell? ⟨b, o, none⟩ = W.cell? ⟨b, o, none⟩ := fun b o h => hb.cell (p := ⟨b, o, none⟩) h
theorem MAt.form {S : Nat → Prop} {w : World} {mv : Value} {ms : List Int} (h : MAt S w mv ms) : ∃ ao cap, mv = .slice ao ms.length cap := by
  rcases h with ⟨rfl, rfl⟩ | ⟨g, o, cap, arr, fz, rfl, _⟩
  · exact ⟨none, 0, rfl⟩
  · exact ⟨_, _, rfl⟩
theorem MAt.get {S : Nat → Prop} {w : World} {ao : Option Addr} {n cap : Nat} {ms : List Int} (h : MAt S w (.slice ao n cap) ms) (j : Nat) (hj : j < ms.length) :
    ∃ g o, ao = some ⟨g, o, none⟩ ∧ w.cell? ⟨g, o + j, none⟩ = some (.int .i64 ms[j]) := by
  rcases h with ⟨_, rfl⟩ | ⟨g, o, cap', arr, fz, e, hS, hg, hd⟩
  · simp at hj
  · injection e with e1 e2 e3
    subst e1
    exact ⟨g, o, rfl, by rw [Lib.cell_of_heap hg]; exact hd.1 j hj⟩
theorem take_ext (ms ns : List Int) (j : Nat) (h : ms.take j = ns.take j) (h1 : j < ms.length) (h2 : j < ns.length) (he : ms[j] = ns[j]) : ms.take (j + 1) = ns.take (j + 1) := by
  rw [List.take_succ_eq_append_getElem h1, List.take_succ_eq_append_getElem h2, h, he]
/-- The loop of Equal. -/
theorem same_mk (k k' : Int) (t t' : ByteArray) (ms ms' : List Int) (l l' : List Dt) (p p' : Int) :
    Dt.same (.mk k t ms l p) (.mk k' t' ms' l' p') = ((k == k') && ((t.toList == t'.toList) && ((ms == ms') && Dt.sames l l'))) := by simp [Dt.same]



set_option maxHeartbeats 2000000 in
theorem refmarks_any (S T : Nat → Prop) (mv nv : Value) (ms ns : List Int) (w : World) (h1 : MAt S w mv ms) (h2 : MAt T w nv ns) :
    Calls Tryd.prog 39 #[mv, nv] w (RetBool (ms == ns) w) := by
  have hl := h1.short
  obtain ⟨ao, cap, rfl⟩ := h1.form
  obtain ⟨bo, cap', rfl⟩ := h2.form
  have H1 := Lib.hid h1
  have H2 := Lib.hid h2
  clear h1 h2
  by_cases hlen : ms.length = ns.length
  · have q0 : ((ms.length : Int) != (ns.length : Int)) = false := by simp [hlen]
    have HLN := Lib.hid hlen
    clear hlen
    go_enter Tryd.func39, Tryd.ntmps39
    go_wp2_with fail
    go_loopw [5] (fun iv wr => EInv ms ns w iv wr) (fun iv _ => ms.length - (intOf iv).toNat)
    case atStart => exact ⟨0, 0, Nat.zero_le _, rfl, rfl, rfl⟩
    case round =>
      obtain ⟨j, m, hj, rfl, ht, rfl⟩ := hrel
      have HT := Lib.hid ht
      clear ht
      by_cases hlt : j < ms.length
      · have hlt2 : j < ns.length := by have := HLN.out; omega
        obtain ⟨g, o, rfl, e1⟩ := H1.out.get j hlt
        obtain ⟨g2, o2, rfl, e2⟩ := H2.out.get j hlt2
        have hsw : decide ((j : Int) < (ns.length : Int)) = true := decide_eq_true (by omega)
        by_cases he : ms[j] = ns[j]
        · have HN := Lib.hid (take_ext ms ns j HT.out hlt hlt2 he)
          rw [he] at e1
          have q1 : (ns[j] != ns[j]) = false := by simp
          clear he
          go_wp2_with fail
          go_quiet (fail)
          go_wp2_with fail
          go_roundw
          case rel => exact ⟨j + 1, m + nq, by omega, by go_num, HN.out, rfl⟩
          case measure => simp [intOf]; omega
        · have q1 : (ms[j] != ns[j]) = true := by rw [bne_iff_ne]; exact he
          have hr : (ms == ns) = false := by rw [beq_eq_false_iff_ne]; intro e; subst e; exact he rfl
          have HR := Lib.hid hr
          clear he hr
          go_wp2_with fail
          go_quiet (fail)
          go_wp2_with fail
          go_ret
          exact ⟨by rw [HR.out]; rfl, (Below.refl _ _).trans ⟨rfl, rfl, rfl, Nat.le_refl _, fun _ _ => rfl⟩⟩
      · obtain rfl : j = ms.length := by omega
        have hr : (ms == ns) = true := by
          have h := HT.out
          rw [List.take_length, HLN.out, List.take_length] at h
          rw [beq_iff_eq]; exact h
        have HR := Lib.hid hr
        clear hr
        go_wp2_with fail
        go_ret
        exact ⟨by rw [HR.out]; rfl, (Below.refl _ _).trans ⟨rfl, rfl, rfl, Nat.le_refl _, fun _ _ => rfl⟩⟩
  · have q0 : ((ms.length : Int) != (ns.length : Int)) = true := by rw [bne_iff_ne]; omega
    have hr : (ms == ns) = false := by rw [beq_eq_false_iff_ne]; intro e; subst e; exact hlen rfl
    rw [hr]
    clear hlen hr
    go_enter Tryd.func39, Tryd.ntmps39
    go_wp2_with fail
    go_ret
    exact ⟨rfl, Below.refl _ _⟩


theorem second_at (w : World) (a b : Array Value) : ((w.alloc (.cells a 40)).alloc (.cells b 40)).heap[w.heap.size + 1]? = some (.cells b 40 (0, 0)) := by
  have h := alloc_at (w.alloc (.cells a 40)) (.cells b 40)
  have e : (w.alloc (.cells a 40)).heap.size = w.heap.size + 1 := by simp
  rw [e] at h; exact h
def RefOk (n : Nat) : Prop := ∀ (d e : Dt), d.size ≤ n → ∀ (S T : Nat → Prop) (cs ds : Array Value) (w : World), Dt.At S w d cs → Dt.At T w e ds →
    Calls Tryd.prog 22 #[.agg cs, .agg ds] w (RetBool (d.same e) w)

set_option maxHeartbeats 4000000 in
theorem refsame_any (n : Nat) : n ≤ 1000000000 → RefOk n := by
  induction n with
  | zero => intro _ d e hd; cases d; simp [Dt.size] at hd
  | succ n ih0 =>
    intro hn d e hd S T cs ds w hat hat2
    have IH := Lib.hid (ih0 (by omega))
    obtain ⟨k, t, ms, l, p⟩ := d
    obtain ⟨k', t', ms', l', p'⟩ := e
    rw [At_mk] at hat hat2
    obtain ⟨mv, lv, rfl, hm, hl⟩ := hat
    obtain ⟨mv', lv', rfl, hm', hl'⟩ := hat2
    have hsz : Dt.sizes l ≤ n := by simp only [Dt.size] at hd; omega
    have hll := length_sizes l
    rw [same_mk]
    have o1 := hm.one
    have o2 := hl.one
    have o3 := hm'.one
    have o4 := hl'.one
    have HB := Lib.hid (((Below.refl w.heap.size w).alloc (Nat.le_refl _) (.cells #[.int .i64 k, .string t, mv, lv, .int .i64 p] 40)).alloc (by simp) (.cells #[.int .i64 k', .string t', mv', lv', .int .i64 p'] 40))
    have B0 := Keeps.of_below (S := S) HB.out
    have B1 := Keeps.of_below (S := T) HB.out
    have M1 := Lib.hid (hm.keeps B0)
    have M2 := Lib.hid (hm'.keeps B1)
    have L1 := Lib.hid (hl.keeps B0)
    have L2 := Lib.hid (hl'.keeps B1)
    obtain ⟨ao, cap, rfl⟩ := hl.form
    obtain ⟨bo, cap', rfl⟩ := hl'.form
    clear ih0 hm hl hm' hl' hd B0 B1
    by_cases b1 : k = k'
    · subst b1
      rw [beq_self_eq_true, Bool.true_and]
      by_cases b2 : (t.toList == t'.toList) = true
      · have c2 : (t.toList != t'.toList) = false := by rw [bne, b2]; rfl
        have d2 : t.toList = t'.toList := beq_iff_eq.1 b2
        rw [b2, Bool.true_and]
        have HE := fun w m1 m2 => refmarks_any S T mv mv' ms ms' w m1 m2
        by_cases b3 : (ms == ms') = true
        · rw [b3] at HE ⊢
          rw [Bool.true_and]
          have HE := Lib.hid HE
          clear b3 b2
          by_cases b4 : l.length = l'.length
          · have c4 : ((l.length : Int) != (l'.length : Int)) = false := by simp [b4]
            have HLN := Lib.hid b4
            clear b4
            go_enter Tryd.func22, Tryd.ntmps22
            go_wp2_with fail
            refine (HE.out _ M1.out M2.out).mono ?_
            rintro e w1 ⟨rfl, hb⟩
            have K1 := Lib.hid (HB.out.trans (hb.mono HB.out.size))
            have K2 := Lib.hid (L1.out.keeps (Keeps.of_below hb))
            have K3 := Lib.hid (L2.out.keeps (Keeps.of_below hb))
            have hsw := hb.size
            have ez : ((w.alloc (.cells #[.int .i64 k, .string t, mv, .slice ao l.length cap, .int .i64 p] 40)).alloc (.cells #[.int .i64 k, .string t', mv', .slice bo l'.length cap', .int .i64 p'] 40)).heap.size = w.heap.size + 1 + 1 := by simp
            rw [ez] at hsw
            have cA : w1.cell? ⟨w.heap.size, 3, none⟩ = some (.slice ao l.length cap) := by
              rw [hb.cell (p := ⟨w.heap.size, 3, none⟩) (by show w.heap.size < _; rw [ez]; omega), Lib.cell_of_heap ((Lib.alloc_old _ _ _ (by simp)).trans (alloc_at w _))]; rfl
            have cB : w1.cell? ⟨w.heap.size + 1, 3, none⟩ = some (.slice bo l'.length cap') := by
              rw [hb.cell (p := ⟨w.heap.size + 1, 3, none⟩) (by show w.heap.size + 1 < _; rw [ez]; omega), Lib.cell_of_heap (second_at w _ _)]; rfl
            have CA := Lib.hid cA
            have CB := Lib.hid cB
            clear hb HE M1 M2 L1 L2 HB
            go_wp2_with fail
            clear c2 c4 cA cB
            go_loopw [5] (fun iv wr => FInv l l' w1 iv wr) (fun iv _ => l.length - (intOf iv).toNat)
            case atStart => exact ⟨0, Nat.zero_le _, rfl, fun i _ _ h => absurd h (by omega), Below.refl _ _⟩
            case round =>
              obtain ⟨j, hj, rfl, hsm, hbw⟩ := hrel
              have HM := Lib.hid hsm
              have HBw := Lib.hid hbw
              have hsr := hbw.size
              have cA := (hbw.cell (p := ⟨w.heap.size, 3, none⟩) (by show w.heap.size < _; omega)).trans CA.out
              have cB := (hbw.cell (p := ⟨w.heap.size + 1, 3, none⟩) (by show w.heap.size + 1 < _; omega)).trans CB.out
              clear hsm hbw
              by_cases hlt : j < l.length
              · have q1 : decide ((j : Int) < (l.length : Int)) = true := decide_eq_true (by omega)
                have hlt2 : j < l'.length := by have := HLN.out; omega
                obtain ⟨g, o, k5, t5, mv5, lv5, p5, rfl, hS, -, hat, e0, e1, e2, e3, e4, o5, o6⟩ := (K2.out.keeps (Keeps.of_below HBw.out)).get j hlt
                obtain ⟨g2, o2', k6, t6, mv6, lv6, p6, rfl, hS2, -, hat2, f0, f1, f2, f3, f4, o7, o8⟩ := (K3.out.keeps (Keeps.of_below HBw.out)).get j hlt2
                have hg : g < wr.heap.size := World.block_lt_of_cell? wr _ e0
                have hg2 : g2 < wr.heap.size := World.block_lt_of_cell? wr _ f0
                have hsj := size_get l j hlt
                have HX' := IH.out l[j] l'[j] (by omega) S T _ _ wr.drew (Dt.At.keeps (Keeps.of_below (Below.refl _ _).drew) _ _ hat) (Dt.At.keeps (Keeps.of_below (Below.refl _ _).drew) _ _ hat2)
                obtain ⟨r, hr⟩ : ∃ r, Dt.same l[j] l'[j] = r := ⟨_, rfl⟩
                rw [hr] at HX'
                have HX := Lib.hid HX'
                have HRR := Lib.hid hr
                have E0 := Lib.hid e0
                have E1 := Lib.hid e1
                have E2 := Lib.hid e2
                have E3 := Lib.hid e3
                have E4 := Lib.hid e4
                have F0 := Lib.hid f0
                have F1 := Lib.hid f1
                have F2 := Lib.hid f2
                have F3 := Lib.hid f3
                have F4 := Lib.hid f4
                clear HX' hr hat hat2 hS hS2 e0 e1 e2 e3 e4 f0 f1 f2 f3 f4 IH
                go_upto_region 6 with fail
                have DA := Lib.hid cA
                have DB := Lib.hid cB
                clear cA cB q1
                refine wp_region_noPanic ?_
                refine wp_region_held_drew (S := Below wr.heap.size wr) (by kernel_rfl) ((Below.refl _ _).drew) (fun hHeld => ?_)
                refine wpAnyH_take (i := 0) (v := Value.pointer (some ⟨w.heap.size, 3, none⟩)) rfl (by kernel_rfl) (by kernel_rfl) (by kernel_rfl) (fun _ _ _ h => h) (Or.inl ⟨rfl, fun w' hw' => ?_⟩) hHeld ?_
                · go_simp
                simp only [List.getElem_toArray, List.getElem_cons_succ, List.getElem_cons_zero, Act.put, List.setIfInBounds_toArray, List.set_cons_zero, List.set_cons_succ]
                refine wpAnyH_take (i := 1) (v := Value.slice (some ⟨g, o, none⟩) l.length cap) rfl (by kernel_rfl) (by kernel_rfl) (by kernel_rfl) (fun _ _ _ h => h) (Or.inl ⟨rfl, fun w' hw' => ?_⟩) hHeld ?_
                · have c := (hw'.cell (p := ⟨w.heap.size, 3, none⟩) (by show w.heap.size < _; omega)).trans DA.out; go_simp
                simp only [List.getElem_toArray, List.getElem_cons_succ, List.getElem_cons_zero, Act.put, List.setIfInBounds_toArray, List.set_cons_zero, List.set_cons_succ]
                refine wpAnyH_take (i := 2) (v := Value.int .i64 j) rfl (by kernel_rfl) (by kernel_rfl) (by kernel_rfl) (fun _ _ _ h => h) (Or.inl ⟨rfl, fun w' hw' => ?_⟩) hHeld ?_
                · go_simp
                simp only [List.getElem_toArray, List.getElem_cons_succ, List.getElem_cons_zero, Act.put, List.setIfInBounds_toArray, List.set_cons_zero, List.set_cons_succ]
                refine wpAnyH_take (i := 3) (v := Value.pointer (some ⟨g, o + j * 5, none⟩)) rfl (by kernel_rfl) (by kernel_rfl) (by kernel_rfl) (fun _ _ _ h => h) (Or.inl ⟨rfl, fun w' hw' => ?_⟩) hHeld ?_
                · go_simp
                simp only [List.getElem_toArray, List.getElem_cons_succ, List.getElem_cons_zero, Act.put, List.setIfInBounds_toArray, List.set_cons_zero, List.set_cons_succ]
                refine wpAnyH_take (i := 4) (v := Value.agg #[.int .i64 k5, .string t5, mv5, lv5, .int .i64 p5]) rfl (by kernel_rfl) (by kernel_rfl) (by kernel_rfl) (fun _ _ _ h => h) (Or.inl ⟨rfl, fun w' hw' => ?_⟩) hHeld ?_
                · have qE0 := (hw'.cell (p := ⟨g, o + j * 5, none⟩) (by show g < wr.heap.size; omega)).trans E0.out; have qE1 := (hw'.cell (p := ⟨g, o + j * 5 + 1, none⟩) (by show g < wr.heap.size; omega)).trans E1.out; have qE2 := (hw'.cell (p := ⟨g, o + j * 5 + 2, none⟩) (by show g < wr.heap.size; omega)).trans E2.out; have qE3 := (hw'.cell (p := ⟨g, o + j * 5 + 3, none⟩) (by show g < wr.heap.size; omega)).trans E3.out; have qE4 := (hw'.cell (p := ⟨g, o + j * 5 + 4, none⟩) (by show g < wr.heap.size; omega)).trans E4.out; go_simp
                simp only [List.getElem_toArray, List.getElem_cons_succ, List.getElem_cons_zero, Act.put, List.setIfInBounds_toArray, List.set_cons_zero, List.set_cons_succ]
                refine wpAnyH_take (i := 5) (v := Value.pointer (some ⟨w.heap.size + 1, 3, none⟩)) rfl (by kernel_rfl) (by kernel_rfl) (by kernel_rfl) (fun _ _ _ h => h) (Or.inl ⟨rfl, fun w' hw' => ?_⟩) hHeld ?_
                · go_simp
                simp only [List.getElem_toArray, List.getElem_cons_succ, List.getElem_cons_zero, Act.put, List.setIfInBounds_toArray, List.set_cons_zero, List.set_cons_succ]
                refine wpAnyH_take (i := 6) (v := Value.slice (some ⟨g2, o2', none⟩) l'.length cap') rfl (by kernel_rfl) (by kernel_rfl) (by kernel_rfl) (fun _ _ _ h => h) (Or.inl ⟨rfl, fun w' hw' => ?_⟩) hHeld ?_
                · have c := (hw'.cell (p := ⟨w.heap.size + 1, 3, none⟩) (by show w.heap.size + 1 < _; omega)).trans DB.out; go_simp
                simp only [List.getElem_toArray, List.getElem_cons_succ, List.getElem_cons_zero, Act.put, List.setIfInBounds_toArray, List.set_cons_zero, List.set_cons_succ]
                refine wpAnyH_take (i := 7) (v := Value.int .i64 j) rfl (by kernel_rfl) (by kernel_rfl) (by kernel_rfl) (fun _ _ _ h => h) (Or.inl ⟨rfl, fun w' hw' => ?_⟩) hHeld ?_
                · go_simp
                simp only [List.getElem_toArray, List.getElem_cons_succ, List.getElem_cons_zero, Act.put, List.setIfInBounds_toArray, List.set_cons_zero, List.set_cons_succ]
                refine wpAnyH_take (i := 8) (v := Value.pointer (some ⟨g2, o2' + j * 5, none⟩)) rfl (by kernel_rfl) (by kernel_rfl) (by kernel_rfl) (fun _ _ _ h => h) (Or.inl ⟨rfl, fun w' hw' => ?_⟩) hHeld ?_
                · go_simp
                simp only [List.getElem_toArray, List.getElem_cons_succ, List.getElem_cons_zero, Act.put, List.setIfInBounds_toArray, List.set_cons_zero, List.set_cons_succ]
                refine wpAnyH_take (i := 9) (v := Value.agg #[.int .i64 k6, .string t6, mv6, lv6, .int .i64 p6]) rfl (by kernel_rfl) (by kernel_rfl) (by kernel_rfl) (fun _ _ _ h => h) (Or.inl ⟨rfl, fun w' hw' => ?_⟩) hHeld ?_
                · have qF0 := (hw'.cell (p := ⟨g2, o2' + j * 5, none⟩) (by show g2 < wr.heap.size; omega)).trans F0.out; have qF1 := (hw'.cell (p := ⟨g2, o2' + j * 5 + 1, none⟩) (by show g2 < wr.heap.size; omega)).trans F1.out; have qF2 := (hw'.cell (p := ⟨g2, o2' + j * 5 + 2, none⟩) (by show g2 < wr.heap.size; omega)).trans F2.out; have qF3 := (hw'.cell (p := ⟨g2, o2' + j * 5 + 3, none⟩) (by show g2 < wr.heap.size; omega)).trans F3.out; have qF4 := (hw'.cell (p := ⟨g2, o2' + j * 5 + 4, none⟩) (by show g2 < wr.heap.size; omega)).trans F4.out; go_simp
                simp only [List.getElem_toArray, List.getElem_cons_succ, List.getElem_cons_zero, Act.put, List.setIfInBounds_toArray, List.set_cons_zero, List.set_cons_succ]
                refine wpAnyH_ready (rs := [10]) (by kernel_rfl) (by simp) ?_
                refine (AllReadyH.cons rfl (fun K hK => ?_) AllReadyH.nil)
                go_simp
                refine HX.out.mono ?_
                rintro e w7 ⟨rfl, hb⟩
                have hS7 : Below wr.heap.size wr w7 := (Below.refl wr.heap.size wr).drew.trans hb
                have HS7 := Lib.hid hS7
                refine hK.out _ _ hS7 (fun hHeld => ?_)
                clear hK K hb hS7
                try simp only [List.getElem_toArray, List.getElem_cons_succ, List.getElem_cons_zero, Act.put, List.setIfInBounds_toArray, List.set_cons_zero, List.set_cons_succ]
                refine wpAnyH_take (i := 11) (v := Value.bool (!r)) rfl (by kernel_rfl) (by kernel_rfl) (by kernel_rfl) (fun _ _ _ h => h) (Or.inl ⟨rfl, fun w' hw' => ?_⟩) hHeld ?_
                · go_simp
                simp only [List.getElem_toArray, List.getElem_cons_succ, List.getElem_cons_zero, Act.put, List.setIfInBounds_toArray, List.set_cons_zero, List.set_cons_succ]
                refine wpAnyH_done (by kernel_rfl) ?_ _
                refine NoPanic.normal ?_
                clear hHeld
                have HN := Lib.hid (HBw.out.trans (HS7.out.mono HBw.out.size))
                cases r with
                | false =>
                  have HF : Hid (Dt.sames l l' = false) := sames_get l l' j hlt hlt2 HRR.out
                  go_wp2
                  go_ret
                  exact ⟨by rw [HF.out]; rfl, K1.out.trans (HN.out.mono K1.out.size)⟩
                | true =>
                  have HQ : Hid (FInv l l' w1 (.int .i64 ((j : Int) + 1)) w7) := ⟨j + 1, by omega, by go_num, fun i h1 h2 h3 => by
                    by_cases hij : i = j
                    · subst hij; exact HRR.out
                    · exact HM.out i h1 h2 (by omega), HN.out⟩
                  go_wp2_with fail
                  go_roundw
                  case rel => exact HQ.out
                  case measure => simp [intOf]; omega
              · obtain rfl : j = l.length := by omega
                have q1 : decide ((l.length : Int) < (l.length : Int)) = false := decide_eq_false (by omega)
                have HF : Hid (Dt.sames l l' = true) := sames_all l l' HLN.out (fun i h1 h2 => HM.out i h1 h2 h1)
                go_wp2_with fail
                go_ret
                exact ⟨by rw [HF.out]; rfl, K1.out.trans (HBw.out.mono K1.out.size)⟩
          · have c4 : ((l.length : Int) != (l'.length : Int)) = true := by rw [bne_iff_ne]; omega
            rw [sames_len l l' b4]
            clear b4
            go_enter Tryd.func22, Tryd.ntmps22
            go_wp2_with fail
            refine (HE.out _ M1.out M2.out).mono ?_
            rintro e w1 ⟨rfl, hb⟩
            have K1 := Lib.hid (HB.out.trans (hb.mono HB.out.size))
            have hc := bcell40 hb
            clear hb
            go_wp2
            go_ret
            exact ⟨rfl, K1.out⟩
        · have b3' : (ms == ms') = false := by simpa using b3
          rw [b3'] at HE ⊢
          have HE := Lib.hid HE
          clear b3 b3' b2
          go_enter Tryd.func22, Tryd.ntmps22
          go_wp2_with fail
          refine (HE.out _ M1.out M2.out).mono ?_
          rintro e w1 ⟨rfl, hb⟩
          have K1 := Lib.hid (HB.out.trans (hb.mono HB.out.size))
          have hc := bcell40 hb
          clear hb
          go_wp2
          go_ret
          exact ⟨rfl, K1.out⟩
      · have b2' : (t.toList == t'.toList) = false := by simpa using b2
        have c2 : (t.toList != t'.toList) = true := by rw [bne, b2']; rfl
        have d2 : ¬ t.toList = t'.toList := by rw [← beq_iff_eq, b2']; decide
        rw [b2']
        clear b2 b2'
        go_enter Tryd.func22, Tryd.ntmps22
        go_wp2
        go_ret
        exact ⟨rfl, HB.out⟩
    · have b1' : (k == k') = false := by simpa using b1
      have c1 : (k != k') = true := by rw [bne, b1']; rfl
      rw [b1']
      clear b1 b1'
      go_enter Tryd.func22, Tryd.ntmps22
      go_wp2
      go_ret
      exact ⟨rfl, HB.out⟩
end Go.Proofs.YtkjcbaikebdmmaaDoor
