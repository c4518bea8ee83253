/- Contracts of thunkref2's marks and Same. -/
import Derived.Test.YthhaegncnoekbaaYAA
import Derived.Deep.QuietTactic
import Derived.Deep.RegionHeld3
import Derived.Deep.Cut
import Derived.Test.YthhaegncnoekbaaYAN
set_option linter.unusedVariables false
set_option linter.unusedSimpArgs false
namespace Go.Proofs.Ythhaegncnoekbaa
open Go.RowKit
def EInv (ms ns : List Int) (w : World) (iv : Value) (wr : World) : Prop :=
  ∃ j m : Nat, j ≤ ms.length ∧ iv = .int .i64 j ∧ ms.take j = ns.take j ∧ wr = w.drewN m

def FInv (l m : List Dt) (w : World) (iv : Value) (wr : World) : Prop :=
  ∃ j : Nat, j ≤ l.length ∧ iv = .int .i64 j ∧ (∀ i (h1 : i < l.length) (h2 : i < m.length), i < j → Dt.same l[i] m[i] = true) ∧ Below w.heap.size w wr

theorem bcell40 {W W1 : World} (hb : Below W.heap.size W W1) : ∀ b o, b < W.heap.size → W1.cell? ⟨b, o, none⟩ = W.cell? ⟨b, o, none⟩ := fun b o h => hb.cell (p := ⟨b, o, none⟩) h
theorem MAt.form {S : Nat → Prop} {w : World} {mv : Value} {ms : List Int} (h : MAt S w mv ms) : ∃ ao cap, mv = .slice ao ms.length cap := by
  rcases h with ⟨rfl, rfl⟩ | ⟨g, o, cap, arr, fz, rfl, _⟩
  · exact ⟨none, 0, rfl⟩
  · exact ⟨_, _, rfl⟩
theorem MAt.get {S : Nat → Prop} {w : World} {ao : Option Addr} {n cap : Nat} {ms : List Int} (h : MAt S w (.slice ao n cap) ms) (j : Nat) (hj : j < ms.length) :
    ∃ g o, ao = some ⟨g, o, none⟩ ∧ w.cell? ⟨g, o + j, none⟩ = some (.int .i64 ms[j]) := by
  rcases h with ⟨_, rfl⟩ | ⟨g, o, cap', arr, fz, e, hS, hg, hd⟩
  · simp at hj
  · injection e with e1 e2 e3
    subst e1
    exact ⟨g, o, rfl, by rw [Lib.cell_of_heap hg]; exact hd.1 j hj⟩
theorem take_ext (ms ns : List Int) (j : Nat) (h : ms.take j = ns.take j) (h1 : j < ms.length) (h2 : j < ns.length) (he : ms[j] = ns[j]) : ms.take (j + 1) = ns.take (j + 1) := by
  rw [List.take_succ_eq_append_getElem h1, List.take_succ_eq_append_getElem h2, h, he]
/-- The loop of Equal. -/
theorem same_mk (k k' : Int) (t t' : ByteArray) (ms ms' : List Int) (l l' : List Dt) (p p' : Int) :
    Dt.same (.mk k t ms l p) (.mk k' t' ms' l' p') = ((k == k') && ((t.toList == t'.toList) && ((ms == ms') && Dt.sames l l'))) := by simp [Dt.same]



set_option maxHeartbeats 2000000 in
theorem refmarks_any (S T : Nat → Prop) (mv nv : Value) (ms ns : List Int) (w : World) (h1 : MAt S w mv ms) (h2 : MAt T w nv ns) :
    Calls Try.prog 62 #[mv, nv] w (RetBool (ms == ns) w) := by
  have hl := h1.short
  obtain ⟨ao, cap, rfl⟩ := h1.form
  obtain ⟨bo, cap', rfl⟩ := h2.form
  have H1 := Lib.hid h1
  have H2 := Lib.hid h2
  clear h1 h2
  by_cases hlen : ms.length = ns.length
  · have q0 : ((ms.length : Int) != (ns.length : Int)) = false := by simp [hlen]
    have HLN := Lib.hid hlen
    clear hlen
    go_enter Try.func62, Try.ntmps62
    go_wp2_with fail
    go_loopw [5] (fun iv wr => EInv ms ns w iv wr) (fun iv _ => ms.length - (intOf iv).toNat)
    case atStart => exact ⟨0, 0, Nat.zero_le _, rfl, rfl, rfl⟩
    case round =>
      obtain ⟨j, m, hj, rfl, ht, rfl⟩ := hrel
      have HT := Lib.hid ht
      clear ht
      by_cases hlt : j < ms.length
      · have hlt2 : j < ns.length := by have := HLN.out; omega
        obtain ⟨g, o, rfl, e1⟩ := H1.out.get j hlt
        obtain ⟨g2, o2, rfl, e2⟩ := H2.out.get j hlt2
        have hsw : decide ((j : Int) < (ns.length : Int)) = true := decide_eq_true (by omega)
        by_cases he : ms[j] = ns[j]
        · have HN := Lib.hid (take_ext ms ns j HT.out hlt hlt2 he)
          rw [he] at e1
          have q1 : (ns[j] != ns[j]) = false := by simp
          clear he
          go_wp2_with fail
          go_quiet (fail)
          go_wp2_with fail
          go_roundw
          case rel => exact ⟨j + 1, m + nq, by omega, by go_num, HN.out, rfl⟩
          case measure => simp [intOf]; omega
        · have q1 : (ms[j] != ns[j]) = true := by rw [bne_iff_ne]; exact he
          have hr : (ms == ns) = false := by rw [beq_eq_false_iff_ne]; intro e; subst e; exact he rfl
          have HR := Lib.hid hr
          clear he hr
          go_wp2_with fail
          go_quiet (fail)
          go_wp2_with fail
          go_ret
          exact ⟨by rw [HR.out]; rfl, (Below.refl _ _).trans ⟨rfl, rfl, rfl, Nat.le_refl _, fun _ _ => rfl⟩⟩
      · obtain rfl : j = ms.length := by omega
        have hr : (ms == ns) = true := by
          have h := HT.out
          rw [List.take_length, HLN.out, List.take_length] at h
          rw [beq_iff_eq]; exact h
        have HR := Lib.hid hr
        clear hr
        go_wp2_with fail
        go_ret
        exact ⟨by rw [HR.out]; rfl, (Below.refl _ _).trans ⟨rfl, rfl, rfl, Nat.le_refl _, fun _ _ => rfl⟩⟩
  · have q0 : ((ms.length : Int) != (ns.length : Int)) = true := by rw [bne_iff_ne]; omega
    have hr : (ms == ns) = false := by rw [beq_eq_false_iff_ne]; intro e; subst e; exact hlen rfl
    rw [hr]
    clear hlen hr
    go_enter Try.func62, Try.ntmps62
    go_wp2_with fail
    go_ret
    exact ⟨rfl, Below.refl _ _⟩


theorem second_at (w : World) (a b : Array Value) : ((w.alloc (.cells a 29)).alloc (.cells b 29)).heap[w.heap.size + 1]? = some (.cells b 29 (0, 0)) := by
  have h := alloc_at (w.alloc (.cells a 29)) (.cells b 29)
  have e : (w.alloc (.cells a 29)).heap.size = w.heap.size + 1 := by simp
  rw [e] at h; exact h
def RefOk (n : Nat) : Prop := ∀ (d e : Dt), d.size ≤ n → ∀ (S T : Nat → Prop) (cs ds : Array Value) (w : World), Dt.At S w d cs → Dt.At T w e ds →
    Calls Try.prog 34 #[.agg cs, .agg ds] w (RetBool (d.same e) w)

set_option maxHeartbeats 4000000 in
theorem refsame_any (n : Nat) : n ≤ 1000000000 → RefOk n := by
  induction n with
  | zero => intro _ d e hd; cases d; simp [Dt.size] at hd
  | succ n ih0 =>
    intro hn d e hd S T cs ds w hat hat2
    have IH := Lib.hid (ih0 (by omega))
    obtain ⟨k, t, ms, l, p⟩ := d
    obtain ⟨k', t', ms', l', p'⟩ := e
    rw [At_mk] at hat hat2
    obtain ⟨mv, lv, rfl, hm, hl⟩ := hat
    obtain ⟨mv', lv', rfl, hm', hl'⟩ := hat2
    have hsz : Dt.sizes l ≤ n := by simp only [Dt.size] at hd; omega
    have hll := length_sizes l
    rw [same_mk]
    have o1 := hm.one
    have o2 := hl.one
    have o3 := hm'.one
    have o4 := hl'.one
    have HB := Lib.hid (((Below.refl w.heap.size w).alloc (Nat.le_refl _) (.cells #[.int .i64 k, .string t, mv, lv, .int .i64 p] 29)).alloc (by simp) (.cells #[.int .i64 k', .string t', mv', lv', .int .i64 p'] 29))
    have B0 := Keeps.of_below (S := S) HB.out
    have B1 := Keeps.of_below (S := T) HB.out
    have M1 := Lib.hid (hm.keeps B0)
    have M2 := Lib.hid (hm'.keeps B1)
    have L1 := Lib.hid (hl.keeps B0)
    have L2 := Lib.hid (hl'.keeps B1)
    obtain ⟨ao, cap, rfl⟩ := hl.form
    obtain ⟨bo, cap', rfl⟩ := hl'.form
    clear ih0 hm hl hm' hl' hd B0 B1
    by_cases b1 : k = k'
    · subst b1
      rw [beq_self_eq_true, Bool.true_and]
      by_cases b2 : (t.toList == t'.toList) = true
      · have c2 : (t.toList != t'.toList) = false := by rw [bne, b2]; rfl
        have d2 : t.toList = t'.toList := beq_iff_eq.1 b2
        rw [b2, Bool.true_and]
        have HE := fun w m1 m2 => refmarks_any S T mv mv' ms ms' w m1 m2
        by_cases b3 : (ms == ms') = true
        · rw [b3] at HE ⊢
          rw [Bool.true_and]
          have HE := Lib.hid HE
          clear b3 b2
          by_cases b4 : l.length = l'.length
          · have c4 : ((l.length : Int) != (l'.length : Int)) = false := by simp [b4]
            have HLN := Lib.hid b4
            clear b4
            go_enter Try.func34, Try.ntmps34
            go_wp2_with fail
            refine (HE.out _ M1.out M2.out).mono ?_
            rintro e w1 ⟨rfl, hb⟩
            have K1 := Lib.hid (HB.out.trans (hb.mono HB.out.size))
            have K2 := Lib.hid (L1.out.keeps (Keeps.of_below hb))
            have K3 := Lib.hid (L2.out.keeps (Keeps.of_below hb))
            have hsw := hb.size
            have ez : ((w.alloc (.cells #[.int .i64 k, .string t, mv, .slice ao l.length cap, .int .i64 p] 29)).alloc (.cells #[.int .i64 k, .string t', mv', .slice bo l'.length cap', .int .i64 p'] 29)).heap.size = w.heap.size + 1 + 1 := by simp
            rw [ez] at hsw
            have cA : w1.cell? ⟨w.heap.size, 3, none⟩ = some (.slice ao l.length cap) := by
              rw [hb.cell (p := ⟨w.heap.size, 3, none⟩) (by show w.heap.size < _; rw [ez]; omega), Lib.cell_of_heap ((Lib.alloc_old _ _ _ (by simp)).trans (alloc_at w _))]; rfl
            have cB : w1.cell? ⟨w.heap.size + 1, 3, none⟩ = some (.slice bo l'.length cap') := by
              rw [hb.cell (p := ⟨w.heap.size + 1, 3, none⟩) (by show w.heap.size + 1 < _; rw [ez]; omega), Lib.cell_of_heap (second_at w _ _)]; rfl
            have CA := Lib.hid cA
            have CB := Lib.hid cB
            clear hb HE M1 M2 L1 L2 HB
            go_wp2_with fail
            clear c2 c4 cA cB
            go_loopw [5] (fun iv wr => FInv l l' w1 iv wr) (fun iv _ => l.length - (intOf iv).toNat)
            case atStart => exact ⟨0, Nat.zero_le _, rfl, fun i _ _ h => absurd h (by omega), Below.refl _ _⟩
            case round =>
              obtain ⟨j, hj, rfl, hsm, hbw⟩ := hrel
              have HM := Lib.hid hsm
              have HBw := Lib.hid hbw
              have hsr := hbw.size
              have cA := (hbw.cell (p := ⟨w.heap.size, 3, none⟩) (by show w.heap.size < _; omega)).trans CA.out
              have cB := (hbw.cell (p := ⟨w.heap.size + 1, 3, none⟩) (by show w.heap.size + 1 < _; omega)).trans CB.out
              clear hsm hbw
              by_cases hlt : j < l.length
              · have q1 : decide ((j : Int) < (l.length : Int)) = true := decide_eq_true (by omega)
                have hlt2 : j < l'.length := by have := HLN.out; omega
                obtain ⟨g, o, k5, t5, mv5, lv5, p5, rfl, hS, -, hat, e0, e1, e2, e3, e4, o5, o6⟩ := (K2.out.keeps (Keeps.of_below HBw.out)).get j hlt
                obtain ⟨g2, o2', k6, t6, mv6, lv6, p6, rfl, hS2, -, hat2, f0, f1, f2, f3, f4, o7, o8⟩ := (K3.out.keeps (Keeps.of_below HBw.out)).get j hlt2
                have hg : g < wr.heap.size := World.block_lt_of_cell? wr _ e0
                have hg2 : g2 < wr.heap.size := World.block_lt_of_cell? wr _ f0
                have hsj := size_get l j hlt
                have HX' := IH.out l[j] l'[j] (by omega) S T _ _ wr.drew (Dt.At.keeps (Keeps.of_below (Below.refl _ _).drew) _ _ hat) (Dt.At.keeps (Keeps.of_below (Below.refl _ _).drew) _ _ hat2)
                obtain ⟨r, hr⟩ : ∃ r, Dt.same l[j] l'[j] = r := ⟨_, rfl⟩
                rw [hr] at HX'
                have HX := Lib.hid HX'
                have HRR := Lib.hid hr
                have E0 := Lib.hid e0
                have E1 := Lib.hid e1
                have E2 := Lib.hid e2
                have E3 := Lib.hid e3
                have E4 := Lib.hid e4
                have F0 := Lib.hid f0
                have F1 := Lib.hid f1
                have F2 := Lib.hid f2
                have F3 := Lib.hid f3
                have F4 := Lib.hid f4
                clear HX' hr hat hat2 hS hS2 e0 e1 e2 e3 e4 f0 f1 f2 f3 f4 IH
                go_upto_region 6 with fail
                have DA := Lib.hid cA
                have DB := Lib.hid cB
                clear cA cB q1
                refine wp_region_noPanic ?_
                refine wp_region_held_drew (S := Below wr.heap.size wr) (by kernel_rfl) ((Below.refl _ _).drew) (fun hHeld => ?_)
                refine qtk (i := 0) (v := Value.pointer (some ⟨w.heap.size, 3, none⟩)) rfl rfl (fun w' hw' => ?_) hHeld ?_
                · go_simp
                simp only [zt,zs,zz,Act.put,zi,zy,zx]
                refine qtk (i := 1) (v := Value.slice (some ⟨g, o, none⟩) l.length cap) rfl rfl (fun w' hw' => ?_) hHeld ?_
                · have c := (hw'.cell (p := ⟨w.heap.size, 3, none⟩) (by show w.heap.size < _; omega)).trans DA.out; go_simp
                simp only [zt,zs,zz,Act.put,zi,zy,zx]
                refine qtk (i := 2) (v := Value.int .i64 j) rfl rfl (fun w' hw' => ?_) hHeld ?_
                · go_simp
                simp only [zt,zs,zz,Act.put,zi,zy,zx]
                refine qtk (i := 3) (v := Value.pointer (some ⟨g, o + j * 5, none⟩)) rfl rfl (fun w' hw' => ?_) hHeld ?_
                · go_simp
                simp only [zt,zs,zz,Act.put,zi,zy,zx]
                refine qtk (i := 4) (v := Value.agg #[.int .i64 k5, .string t5, mv5, lv5, .int .i64 p5]) rfl rfl (fun w' hw' => ?_) hHeld ?_
                · have qE0 := (hw'.cell (p := ⟨g, o + j * 5, none⟩) (by show g < wr.heap.size; omega)).trans E0.out; have qE1 := (hw'.cell (p := ⟨g, o + j * 5 + 1, none⟩) (by show g < wr.heap.size; omega)).trans E1.out; have qE2 := (hw'.cell (p := ⟨g, o + j * 5 + 2, none⟩) (by show g < wr.heap.size; omega)).trans E2.out; have qE3 := (hw'.cell (p := ⟨g, o + j * 5 + 3, none⟩) (by show g < wr.heap.size; omega)).trans E3.out; have qE4 := (hw'.cell (p := ⟨g, o + j * 5 + 4, none⟩) (by show g < wr.heap.size; omega)).trans E4.out; go_simp
                simp only [zt,zs,zz,Act.put,zi,zy,zx]
                refine qtk (i := 5) (v := Value.pointer (some ⟨w.heap.size + 1, 3, none⟩)) rfl rfl (fun w' hw' => ?_) hHeld ?_
                · go_simp
                simp only [zt,zs,zz,Act.put,zi,zy,zx]
                refine qtk (i := 6) (v := Value.slice (some ⟨g2, o2', none⟩) l'.length cap') rfl rfl (fun w' hw' => ?_) hHeld ?_
                · have c := (hw'.cell (p := ⟨w.heap.size + 1, 3, none⟩) (by show w.heap.size + 1 < _; omega)).trans DB.out; go_simp
                simp only [zt,zs,zz,Act.put,zi,zy,zx]
                refine qtk (i := 7) (v := Value.int .i64 j) rfl rfl (fun w' hw' => ?_) hHeld ?_
                · go_simp
                simp only [zt,zs,zz,Act.put,zi,zy,zx]
                refine qtk (i := 8) (v := Value.pointer (some ⟨g2, o2' + j * 5, none⟩)) rfl rfl (fun w' hw' => ?_) hHeld ?_
                · go_simp
                simp only [zt,zs,zz,Act.put,zi,zy,zx]
                refine qtk (i := 9) (v := Value.agg #[.int .i64 k6, .string t6, mv6, lv6, .int .i64 p6]) rfl rfl (fun w' hw' => ?_) hHeld ?_
                · have qF0 := (hw'.cell (p := ⟨g2, o2' + j * 5, none⟩) (by show g2 < wr.heap.size; omega)).trans F0.out; have qF1 := (hw'.cell (p := ⟨g2, o2' + j * 5 + 1, none⟩) (by show g2 < wr.heap.size; omega)).trans F1.out; have qF2 := (hw'.cell (p := ⟨g2, o2' + j * 5 + 2, none⟩) (by show g2 < wr.heap.size; omega)).trans F2.out; have qF3 := (hw'.cell (p := ⟨g2, o2' + j * 5 + 3, none⟩) (by show g2 < wr.heap.size; omega)).trans F3.out; have qF4 := (hw'.cell (p := ⟨g2, o2' + j * 5 + 4, none⟩) (by show g2 < wr.heap.size; omega)).trans F4.out; go_simp
                simp only [zt,zs,zz,Act.put,zi,zy,zx]
                refine wpAnyH_ready (rs := [10]) (by kernel_rfl) (by simp) ?_
                refine (AllReadyH.cons rfl (fun K hK => ?_) AllReadyH.nil)
                go_simp
                refine HX.out.mono ?_
                rintro e w7 ⟨rfl, hb⟩
                have hS7 : Below wr.heap.size wr w7 := (Below.refl wr.heap.size wr).drew.trans hb
                have HS7 := Lib.hid hS7
                refine hK.out _ _ hS7 (fun hHeld => ?_)
                clear hK K hb hS7
                try simp only [zt,zs,zz,Act.put,zi,zy,zx]
                refine qtk (i := 11) (v := Value.bool (!r)) rfl rfl (fun w' hw' => ?_) hHeld ?_
                · go_simp
                simp only [zt,zs,zz,Act.put,zi,zy,zx]
                refine wpAnyH_done (by kernel_rfl) ?_ _
                refine NoPanic.normal ?_
                clear hHeld
                have HN := Lib.hid (HBw.out.trans (HS7.out.mono HBw.out.size))
                cases r with
                | false =>
                  have HF : Hid (Dt.sames l l' = false) := sames_get l l' j hlt hlt2 HRR.out
                  go_wp2
                  go_ret
                  exact ⟨by rw [HF.out]; rfl, K1.out.trans (HN.out.mono K1.out.size)⟩
                | true =>
                  have HQ : Hid (FInv l l' w1 (.int .i64 ((j : Int) + 1)) w7) := ⟨j + 1, by omega, by go_num, fun i h1 h2 h3 => by
                    by_cases hij : i = j
                    · subst hij; exact HRR.out
                    · exact HM.out i h1 h2 (by omega), HN.out⟩
                  go_wp2_with fail
                  go_roundw
                  case rel => exact HQ.out
                  case measure => simp [intOf]; omega
              · obtain rfl : j = l.length := by omega
                have q1 : decide ((l.length : Int) < (l.length : Int)) = false := decide_eq_false (by omega)
                have HF : Hid (Dt.sames l l' = true) := sames_all l l' HLN.out (fun i h1 h2 => HM.out i h1 h2 h1)
                go_wp2_with fail
                go_ret
                exact ⟨by rw [HF.out]; rfl, K1.out.trans (HBw.out.mono K1.out.size)⟩
          · have c4 : ((l.length : Int) != (l'.length : Int)) = true := by rw [bne_iff_ne]; omega
            rw [sames_len l l' b4]
            clear b4
            go_enter Try.func34, Try.ntmps34
            go_wp2_with fail
            refine (HE.out _ M1.out M2.out).mono ?_
            rintro e w1 ⟨rfl, hb⟩
            have K1 := Lib.hid (HB.out.trans (hb.mono HB.out.size))
            have hc := bcell40 hb
            clear hb
            go_wp2
            go_ret
            exact ⟨rfl, K1.out⟩
        · have b3' : (ms == ms') = false := by simpa using b3
          rw [b3'] at HE ⊢
          have HE := Lib.hid HE
          clear b3 b3' b2
          go_enter Try.func34, Try.ntmps34
          go_wp2_with fail
          refine (HE.out _ M1.out M2.out).mono ?_
          rintro e w1 ⟨rfl, hb⟩
          have K1 := Lib.hid (HB.out.trans (hb.mono HB.out.size))
          have hc := bcell40 hb
          clear hb
          go_wp2
          go_ret
          exact ⟨rfl, K1.out⟩
      · have b2' : (t.toList == t'.toList) = false := by simpa using b2
        have c2 : (t.toList != t'.toList) = true := by rw [bne, b2']; rfl
        have d2 : ¬ t.toList = t'.toList := by rw [← beq_iff_eq, b2']; decide
        rw [b2']
        clear b2 b2'
        go_enter Try.func34, Try.ntmps34
        go_wp2
        go_ret
        exact ⟨rfl, HB.out⟩
    · have b1' : (k == k') = false := by simpa using b1
      have c1 : (k != k') = true := by rw [bne, b1']; rfl
      rw [b1']
      clear b1 b1'
      go_enter Try.func34, Try.ntmps34
      go_wp2
      go_ret
      exact ⟨rfl, HB.out⟩
end Go.Proofs.Ythhaegncnoekbaa
namespace Go.Proofs.Ythhaegncnoekbaa
open Go.RowKit
/-- A slice of names with depths. -/
def NsAt (B : Nat) (w : World) (v : Value) (ns : List (Dt × Int)) : Prop :=
  (v = .slice none 0 0 ∧ ns = []) ∨ ∃ g o cap arr fz, v = .slice (some ⟨g, o, none⟩) ns.length cap ∧ w.heap[g]? = some (.cells arr 93 fz) ∧
    ∀ j (h : j < ns.length), ∃ cs : Array Value, cs.size = 5 ∧ (∀ i, i < 5 → arr[o + 6 * j + i]? = cs[i]?) ∧ arr[o + 6 * j + 5]? = some (.int .i64 ns[j].2) ∧ Dt.At (fun g => g < B) w ns[j].1 cs
theorem OwnN.nsat {B : Nat} {w : World} {v : Value} {ns : List (Dt × Int)} (h : OwnN B w v ns) : NsAt B w v ns := by
  obtain ⟨xs, ho, hd⟩ := h
  rcases ho.2 with ⟨rfl, hz⟩ | ⟨g, cap, cur, rfl, hbg, hg, hnc, hcm, hcs, ht⟩
  · exact .inl ⟨rfl, List.length_eq_zero_iff.1 hz⟩
  · have hl : xs.length = ns.length * 6 := ho.1
    have hx : ∀ i, i < ns.length * 6 → cur[i]? = xs[i]? := fun i hi => by rw [← ht, List.getElem?_take, if_pos hi]; simp
    refine .inr ⟨g, 0, cap, cur, (0, 0), rfl, hg, fun j hj => ?_⟩
    obtain ⟨cs, h5, h1, h2, h3⟩ := hd j hj
    exact ⟨cs, h5, fun i hi => by rw [Nat.zero_add, hx _ (by omega)]; exact h1 i hi, by rw [Nat.zero_add, hx _ (by omega)]; exact h2, h3⟩
theorem NsAt.form {B : Nat} {w : World} {v : Value} {ns : List (Dt × Int)} (h : NsAt B w v ns) : ∃ ao c, v = .slice ao ns.length c := by
  rcases h with ⟨rfl, rfl⟩ | ⟨g, o, cap, arr, fz, rfl, _⟩
  · exact ⟨none, 0, rfl⟩
  · exact ⟨_, _, rfl⟩
theorem NsAt.below {B : Nat} {w w' : World} {v : Value} {ns : List (Dt × Int)} (h : NsAt B w v ns) (hb : Below w.heap.size w w') (hB : B ≤ w.heap.size) : NsAt B w' v ns := by
  rcases h with h | ⟨g, o, cap, arr, fz, e, hg, hd⟩
  · exact .inl h
  · refine .inr ⟨g, o, cap, arr, fz, e, by rw [hb.block g (Array.getElem?_eq_some_iff.1 hg).1]; exact hg, fun j hj => ?_⟩
    obtain ⟨cs, h5, h1, h2, h3⟩ := hd j hj
    exact ⟨cs, h5, h1, h2, Dt.At.keeps (keeps_low (hb.mono hB)) _ _ h3⟩
/-- The first so many. -/
theorem NsAt.take {B : Nat} {w : World} {ao : Option Addr} {n c : Nat} {ns : List (Dt × Int)} (h : NsAt B w (.slice ao n c) ns) (i : Nat) (hi : i ≤ ns.length) : NsAt B w (.slice ao i c) (ns.take i) := by
  rcases h with ⟨e, rfl⟩ | ⟨g, o, cap, arr, fz, e, hg, hd⟩
  · injection e with e1 e2 e3
    simp at hi
    subst hi e1 e3
    exact .inl ⟨rfl, rfl⟩
  · injection e with e1 e2 e3
    subst e1 e3
    refine .inr ⟨g, o, c, arr, fz, by rw [List.length_take]; congr 1; omega, hg, fun j hj => ?_⟩
    rw [List.length_take] at hj
    obtain ⟨cs, h5, h1, h2, h3⟩ := hd j (by omega)
    exact ⟨cs, h5, h1, by rw [List.getElem_take]; exact h2, by rw [List.getElem_take]; exact h3⟩
theorem NsAt.get {B : Nat} {w : World} {ao : Option Addr} {n cap : Nat} {ns : List (Dt × Int)} (h : NsAt B w (.slice ao n cap) ns) (j : Nat) (hj : j < ns.length) :
    ∃ g o k t mv lv p, ao = some ⟨g, o, none⟩ ∧ Dt.At (fun g => g < B) w ns[j].1 #[.int .i64 k, .string t, mv, lv, .int .i64 p] ∧ w.cell? ⟨g, o + j * 6, none⟩ = some (.int .i64 k) ∧ w.cell? ⟨g, o + j * 6 + 1, none⟩ = some (.string t) ∧ w.cell? ⟨g, o + j * 6 + 2, none⟩ = some mv ∧
      w.cell? ⟨g, o + j * 6 + 3, none⟩ = some lv ∧ w.cell? ⟨g, o + j * 6 + 4, none⟩ = some (.int .i64 p) ∧ w.cell? ⟨g, o + j * 6 + 5, none⟩ = some (.int .i64 ns[j].2) ∧ mv.oneCell' = true ∧ lv.oneCell' = true := by
  rcases h with ⟨_, rfl⟩ | ⟨g, o, cap', arr, fz, e, hg, hd⟩
  · simp at hj
  · injection e with e1 e2 e3
    subst e1
    obtain ⟨cs, h5, h1, h2, h3⟩ := hd j hj
    obtain ⟨mv, lv, rfl, q1, q2⟩ := At_five h3
    have e : o + j * 6 = o + 6 * j := by omega
    refine ⟨g, o, _, _, mv, lv, _, rfl, h3, ?_, ?_, ?_, ?_, ?_, ?_, q1, q2⟩
    · rw [e, Lib.cell_of_heap hg]; exact h1 0 (by decide)
    · rw [e, Lib.cell_of_heap hg]; exact h1 1 (by decide)
    · rw [e, Lib.cell_of_heap hg]; exact h1 2 (by decide)
    · rw [e, Lib.cell_of_heap hg]; exact h1 3 (by decide)
    · rw [e, Lib.cell_of_heap hg]; exact h1 4 (by decide)
    · rw [e, Lib.cell_of_heap hg]; exact h2
def fnd1 : List (Dt × Int) → Dt → Int
  | [], _ => -1
  | x :: r, d => if x.1.same d = true then x.2 else fnd1 r d
/-- A variable's depth; -1: it is none. -/
def fnd (ns : List (Dt × Int)) (d : Dt) : Int := if (d.kind == 3) = true then fnd1 ns d else -1
def FnInv (ns : List (Dt × Int)) (d : Dt) (w : World) (iv : Value) (wr : World) : Prop := ∃ j : Nat, j ≤ ns.length ∧ iv = .int .i64 (j : Int) ∧ fnd ns d = fnd (ns.drop j) d ∧ Below w.heap.size w wr
def RetI (n : Int) (w : World) (e : Ending) (w' : World) : Prop := e = .returned (.int .i64 n) ∧ Below w.heap.size w w'
set_option maxHeartbeats 16000000 in
set_option maxRecDepth 100000 in
theorem find_any (B : Nat) (ns : List (Dt × Int)) (v : Value) (d : Dt) (cs : Array Value) (w : World) (hB : B ≤ w.heap.size) (hn : NsAt B w v ns) (hnl : ns.length ≤ 10000000) (hs : ∀ x ∈ ns, x.1.size ≤ 1000000000) (hd : Dt.At (fun g => g < B) w d cs) : Calls Try.prog 50 #[v, .agg cs] w (RetI (fnd ns d) w) := by
  have hda := hd
  obtain ⟨mv, lv, rfl, o1, o2⟩ := At_five hd
  obtain ⟨k, hk⟩ : ∃ k, k = d.kind := ⟨_, rfl⟩
  obtain ⟨t, ht⟩ : ∃ k, k = d.text := ⟨_, rfl⟩
  obtain ⟨p, hp⟩ : ∃ k, k = d.place := ⟨_, rfl⟩
  rw [← hk, ← ht, ← hp] at hda ⊢
  have hb0 : Below w.heap.size w (w.alloc (.cells #[.int .i64 k, .string t, mv, lv, .int .i64 p] 29)) := (Below.refl _ _).alloc (Nat.le_refl _) _
  have hx := alloc_at w (.cells #[.int .i64 k, .string t, mv, lv, .int .i64 p] 29)
  have hxs : (w.alloc (.cells #[.int .i64 k, .string t, mv, lv, .int .i64 p] 29)).heap.size = w.heap.size + 1 := by simp
  have HNS := Lib.hid (hn.below hb0 hB)
  have HD := Lib.hid (Dt.At.keeps (keeps_low (hb0.mono hB)) _ _ hda)
  have HB0 := Lib.hid hb0
  have HX := Lib.hid hx
  have HSS := Lib.hid hs
  have HXS := Lib.hid hxs
  have HKD := Lib.hid hk
  obtain ⟨ao, cap, rfl⟩ := hn.form
  clear hd hda hk ht hp hb0 hx hn hs hxs
  obtain ⟨X, hX⟩ : ∃ X, X = w.alloc (.cells #[.int .i64 k, .string t, mv, lv, .int .i64 p] 29) := ⟨_, rfl⟩
  rw [← hX] at HNS HD HB0 HX HXS
  have HXE := Lib.hid hX
  clear hX
  go_enter Try.func50, Try.ntmps50
  go_upto_region 1 with fail
  rw [← HXE.out]
  go_wp2_with fail
  go_loopw [5] (fun iv wr => FnInv ns d X iv wr) (fun iv _ => ns.length - (intOf iv).toNat)
  case atStart => exact ⟨0, Nat.zero_le _, rfl, rfl, Below.refl _ _⟩
  case round =>
    obtain ⟨j, hj, rfl, hf, hbw⟩ := hrel
    have HBW := Lib.hid hbw
    have HF := Lib.hid hf
    have hsw := hbw.size
    clear hbw hf
    by_cases hlt : j < ns.length
    · have q1 : decide ((j : Int) < (ns.length : Int)) = true := decide_eq_true (by omega)
      obtain ⟨g, o, k5, t5, mv5, lv5, p5, rfl, hat, e0, e1, e2, e3, e4, e5, o5, o6⟩ := (HNS.out.below HBW.out (by rw [HXS.out]; omega)).get j hlt
      have hdr : ns.drop j = ns[j] :: ns.drop (j + 1) := List.drop_eq_getElem_cons hlt
      have hg : g < wr.heap.size := World.block_lt_of_cell? wr _ e0
      have hbx : w.heap.size < wr.heap.size := by rw [HXS.out] at hsw; omega
      have hxw : wr.heap[w.heap.size]? = some (.cells #[.int .i64 k, .string t, mv, lv, .int .i64 p] 29 (0, 0)) := by rw [HBW.out.block _ (by rw [HXS.out]; omega)]; exact HX.out
      have HXW := Lib.hid hxw
      have HC : Hid (∀ w', Below wr.heap.size wr w' → (w'.cell? ⟨w.heap.size, 0, none⟩ = some (.int .i64 k) ∧ w'.rangeAt w.heap.size 0 [.int .i64 k, .string t, mv, lv, .int .i64 p]) ∧ (w'.cell? ⟨g, o + j * 6, none⟩ = some (.int .i64 k5) ∧ w'.cell? ⟨g, o + j * 6 + 1, none⟩ = some (.string t5) ∧ w'.cell? ⟨g, o + j * 6 + 2, none⟩ = some mv5 ∧ w'.cell? ⟨g, o + j * 6 + 3, none⟩ = some lv5 ∧ w'.cell? ⟨g, o + j * 6 + 4, none⟩ = some (.int .i64 p5))) :=
        fun w' hw' => ⟨⟨by rw [hw'.cell (p := ⟨w.heap.size, 0, none⟩) hbx, Lib.cell_of_heap hxw]; rfl, box_range (by unfold Boxed; rw [hw'.block _ hbx]; exact hxw)⟩, (hw'.cell hg).trans e0, (hw'.cell hg).trans e1, (hw'.cell hg).trans e2, (hw'.cell hg).trans e3, (hw'.cell hg).trans e4⟩
      have HE5 : Hid (∀ w', Below wr.heap.size wr w' → w'.cell? ⟨g, o + j * 6 + 5, none⟩ = some (.int .i64 ns[j].2)) := fun w' hw' => (hw'.cell hg).trans e5
      have FS := Lib.hid (refsame_any 1000000000 (by decide) ns[j].1 d (HSS.out _ (List.getElem_mem hlt)) _ _ _ _ wr.drew (Dt.At.keeps (Keeps.of_below (Below.refl _ _).drew) _ _ hat) (Dt.At.keeps (keeps_low ((HBW.out.drew).mono (by rw [HXS.out]; omega))) _ _ HD.out))
      clear e0 e1 e2 e3 e4 e5 hxw hat
      obtain ⟨b3, hb3⟩ : ∃ b, b = (k == 3) := ⟨_, rfl⟩
      have E3 : ((k == 3) : Bool) = b3 := hb3.symm
      have HK3 : Hid (b3 = (d.kind == 3)) := by show _ = _; rw [hb3, HKD.out]
      obtain ⟨bs, hbs⟩ : ∃ b, b = ns[j].1.same d := ⟨_, rfl⟩
      rw [← hbs] at FS
      have HFC : Hid (fnd ns d = if b3 = true then (if bs = true then ns[j].2 else fnd1 (ns.drop (j + 1)) d) else -1) := by
        show _ = _
        rw [HF.out, hdr, HK3.out, hbs]
        rfl
      clear hb3 hdr hbs
      cases b3 with
      | false =>
        have HFN : Hid (fnd ns d = fnd (ns.drop (j + 1)) d) := by show _ = _; rw [HFC.out, if_neg (by decide)]; unfold fnd; rw [← HK3.out, if_neg (by decide)]
        go_upto_region 4 with fail
        clear q1
        refine wp_region_noPanic ?_
        refine wp_region_held_drew (S := Below wr.heap.size wr) (by kernel_rfl) ((Below.refl _ _).drew) (fun hHeld => ?_)
        generalize wr.drew = X2 at FS hHeld ⊢
        have HB2 := Lib.hid (HBW.out.trans (hHeld.mono HBW.out.size))
        refine qtk (i := 0) (v := ?v0) rfl rfl (fun w' hw' => ?h0) hHeld ?r0
        case h0 => go_simp; try with_reducible rfl
        simp only [zt,zs,zz,Act.put,zi,zy,zx]
        refine qtk (i := 1) (v := ?v1) rfl rfl (fun w' hw' => ?h1) hHeld ?r1
        case h1 => (obtain ⟨⟨d0, _⟩, _⟩ := HC.out w' hw'; go_simp); try with_reducible rfl
        simp only [zt,zs,zz,Act.put,zi,zy,zx]
        refine qtk (i := 2) (v := Value.bool false) rfl rfl (fun w' hw' => ?_) hHeld ?_
        · go_simp
        simp only [zt,zs,zz,Act.put,zi,zy,zx]
        refine qtk (i := 3) (v := Value.bool false) rfl rfl (fun w' hw' => ?_) hHeld ?_
        · go_simp
        simp only [zt,zs,zz,Act.put,zi,zy,zx]
        refine qtu (i := 4) rfl rfl hHeld ?_
        simp only [zt,zs,zz,Act.put,zi,zy,zx]
        refine qtu (i := 5) rfl rfl hHeld ?_
        simp only [zt,zs,zz,Act.put,zi,zy,zx]
        refine qtu (i := 6) rfl rfl hHeld ?_
        simp only [zt,zs,zz,Act.put,zi,zy,zx]
        refine qtu (i := 7) rfl rfl hHeld ?_
        simp only [zt,zs,zz,Act.put,zi,zy,zx]
        refine qtu (i := 8) rfl rfl hHeld ?_
        simp only [zt,zs,zz,Act.put,zi,zy,zx]
        refine qtu (i := 9) rfl rfl hHeld ?_
        simp only [zt,zs,zz,Act.put,zi,zy,zx]
        refine qtu (i := 10) rfl rfl hHeld ?_
        simp only [zt,zs,zz,Act.put,zi,zy,zx]
        refine qtk (i := 11) (v := Value.bool false) rfl rfl (fun w' hw' => ?_) hHeld ?_
        · go_simp
        simp only [zt,zs,zz,Act.put,zi,zy,zx]
        refine wpAnyH_done (by kernel_rfl) ?_ _
        refine NoPanic.normal ?_
        clear hHeld
        go_wp2_with fail
        go_roundw
        case rel => exact ⟨j + 1, by omega, by go_num, HFN.out, HB2.out⟩
        case measure => simp [intOf]; omega
      | true =>
        go_upto_region 4 with fail
        clear q1
        refine wp_region_noPanic ?_
        refine wp_region_held_drew (S := Below wr.heap.size wr) (by kernel_rfl) ((Below.refl _ _).drew) (fun hHeld => ?_)
        generalize wr.drew = X2 at FS hHeld ⊢
        refine qtk (i := 0) (v := ?v12) rfl rfl (fun w' hw' => ?h12) hHeld ?r12
        case h12 => go_simp; try with_reducible rfl
        simp only [zt,zs,zz,Act.put,zi,zy,zx]
        refine qtk (i := 1) (v := ?v13) rfl rfl (fun w' hw' => ?h13) hHeld ?r13
        case h13 => (obtain ⟨⟨d0, _⟩, _⟩ := HC.out w' hw'; go_simp); try with_reducible rfl
        simp only [zt,zs,zz,Act.put,zi,zy,zx]
        refine qtk (i := 2) (v := Value.bool true) rfl rfl (fun w' hw' => ?_) hHeld ?_
        · go_simp
        simp only [zt,zs,zz,Act.put,zi,zy,zx]
        refine qtk (i := 3) (v := Value.bool true) rfl rfl (fun w' hw' => ?_) hHeld ?_
        · go_simp
        simp only [zt,zs,zz,Act.put,zi,zy,zx]
        refine qtk (i := 4) (v := ?v16) rfl rfl (fun w' hw' => ?h16) hHeld ?r16
        case h16 => go_simp; try with_reducible rfl
        simp only [zt,zs,zz,Act.put,zi,zy,zx]
        refine qtk (i := 5) (v := ?v17) rfl rfl (fun w' hw' => ?h17) hHeld ?r17
        case h17 => go_simp; try with_reducible rfl
        simp only [zt,zs,zz,Act.put,zi,zy,zx]
        refine qtk (i := 6) (v := Value.pointer (some ⟨g, o + j * 6, none⟩)) rfl rfl (fun w' hw' => ?_) hHeld ?_
        · go_simp
        simp only [zt,zs,zz,Act.put,zi,zy,zx]
        refine qtk (i := 7) (v := ?v19) rfl rfl (fun w' hw' => ?h19) hHeld ?r19
        case h19 => go_simp; try with_reducible rfl
        simp only [zt,zs,zz,Act.put,zi,zy,zx]
        refine qtk (i := 8) (v := Value.agg #[.int .i64 k5, .string t5, mv5, lv5, .int .i64 p5]) rfl rfl (fun w' hw' => ?_) hHeld ?_
        · (obtain ⟨_, d0, d1, d2, d3, d4⟩ := HC.out w' hw'; go_simp)
        simp only [zt,zs,zz,Act.put,zi,zy,zx]
        refine wpAnyH_take (i := 9) rfl (by kernel_rfl) (by kernel_rfl) (by kernel_rfl) (fun _ _ _ h => h) (yieldsIf_load_mid (by rfl) _ _ rfl w.heap.size 0 rfl [.int .i64 k, .string t, mv, lv, .int .i64 p] _ (fun w' hw' => (HC.out w' hw').1.2) Try.underlying29 rfl info40) hHeld ?_
        simp only [zt,zs,zz,Act.put,zi,zy,zx]
        refine wpAnyH_ready (rs := [10]) (by kernel_rfl) (by simp) ?_
        refine (AllReadyH.cons rfl (fun K hK => ?_) AllReadyH.nil)
        go_simp
        refine FS.out.mono ?_
        rintro e w7 ⟨rfl, hb⟩
        have hS7 : Below wr.heap.size wr w7 := hHeld.trans (hb.mono (by have := hHeld.size; omega))
        have HS7 := Lib.hid hS7
        have HB2 := Lib.hid (HBW.out.trans (hS7.mono HBW.out.size))
        refine hK.out _ _ hS7 (fun hHeld => ?_)
        clear hb hS7
        clear hK K
        try simp only [zt,zs,zz,Act.put,zi,zy,zx]
        refine qtk (i := 11) (v := ?v21) rfl rfl (fun w' hw' => ?h21) hHeld ?r21
        case h21 => go_simp; try with_reducible rfl
        simp only [zt,zs,zz,Act.put,zi,zy,zx]
        refine wpAnyH_done (by kernel_rfl) ?_ _
        refine NoPanic.normal ?_
        clear hHeld
        cases bs with
        | true =>
          have HFN : Hid (fnd ns d = ns[j].2) := by show _ = _; rw [HFC.out, if_pos rfl, if_pos rfl]
          have e5 := HE5.out _ HS7.out
          go_wp2_with fail
          go_ret
          exact ⟨by rw [HFN.out]; rfl, HB0.out.trans (HB2.out.mono HB0.out.size)⟩
        | false =>
          have HFN : Hid (fnd ns d = fnd (ns.drop (j + 1)) d) := by show _ = _; rw [HFC.out, if_pos rfl, if_neg (by decide)]; unfold fnd; rw [← HK3.out, if_pos rfl]
          go_wp2_with fail
          go_roundw
          case rel => exact ⟨j + 1, by omega, by go_num, HFN.out, HB2.out⟩
          case measure => simp [intOf]; omega
    · obtain rfl : j = ns.length := by omega
      have q1 : decide ((ns.length : Int) < (ns.length : Int)) = false := decide_eq_false (by omega)
      have HFN : Hid (fnd ns d = -1) := by
        show _ = _; rw [HF.out, List.drop_length]; unfold fnd fnd1; split <;> rfl
      go_wp2_with fail
      go_ret
      exact ⟨by rw [HFN.out]; rfl, HB0.out.trans (HBW.out.mono HB0.out.size)⟩
end Go.Proofs.Ythhaegncnoekbaa
namespace Go.Proofs.Ythhaegncnoekbaa
open Go.RowKit
theorem below_setRow {b : Nat} {a w : World} (h : Below b a w) (g : Nat) (cs : Array Value) (hg : b ≤ g) : Below b a (w.setRow g cs) :=
  h.trans ⟨rfl, rfl, rfl, by simp, fun k hk => setRow_other w g k cs (by omega)⟩
theorem infoI : (Try.prog.info? 3).map (fun i => (i.zero, i.size, i.bytes)) = some (some (.int .i64 0), 1, 8) := by kernel_rfl
/-- A row of numbers that the call owns. -/
def Nums (B : Nat) (w : World) (v : Value) (ms : List Int) : Prop := w.ownsRow B 3 1 v ms.length (ms.map (Value.int .i64))
theorem Nums.at {B : Nat} {w : World} {v : Value} {ms : List Int} (h : Nums B w v ms) (hm : ms.length ≤ 1000000000) : MAt (fun g => B ≤ g) w v ms := by
  rcases h.2 with ⟨rfl, hz⟩ | ⟨g, cap, cur, rfl, hbg, hg, hnc, hcm, hcs, htake⟩
  · exact .inl ⟨rfl, List.length_eq_zero_iff.1 hz⟩
  · refine .inr ⟨g, 0, cap, cur, (0, 0), rfl, hbg, hg, fun j hj => ?_, hm⟩
    have h1 : (cur.toList.take (ms.length * 1))[j]? = some (.int .i64 ms[j]) := by rw [htake, List.getElem?_map, List.getElem?_eq_getElem hj]; rfl
    rw [List.getElem?_take, if_pos (by omega)] at h1
    simpa using h1
theorem MAt.ne {S : Nat → Prop} {w : World} {v : Value} {ms : List Int} {ob : Nat} {c : Array Value} {fz : Nat × Nat} (h : MAt S w v ms) (ho : w.heap[ob]? = some (.cells c 29 fz)) : MAt (fun x => S x ∧ x ≠ ob) w v ms := by
  rcases h with h | ⟨g, o, cap, arr, fz', h1, h2, h3, h4⟩
  · exact .inl h
  · refine .inr ⟨g, o, cap, arr, fz', h1, ⟨h2, ?_⟩, h3, h4⟩
    rintro rfl
    rw [ho] at h3
    injection h3 with h3
    injection h3 with _ h3 _
    exact absurd h3 (by decide)
end Go.Proofs.Ythhaegncnoekbaa
namespace Go.Proofs.Ythhaegncnoekbaa
open Go.RowKit
inductive Bd where
  | mk (n : Dt) (q : Int) (d : Dt) (l : List Bd) : Bd
namespace Bd
def name : Bd → Dt | mk n _ _ _ => n
def deep : Bd → Int | mk _ q _ _ => q
def dat : Bd → Dt | mk _ _ d _ => d
def rows : Bd → List Bd | mk _ _ _ l => l
end Bd
/-- A datum's five cells, by its own words. -/
def Dt.five (d : Dt) (mv lv : Value) : List Value := [.int .i64 d.kind, .string d.text, mv, lv, .int .i64 d.place]
/-- All rows stand. -/
def KeepsB (S : Nat → Prop) (w w' : World) : Prop := ∀ g c T fz, S g → w.heap[g]? = some (.cells c T fz) → ∃ fz', w'.heap[g]? = some (.cells c T fz')
theorem KeepsB.keeps {S : Nat → Prop} {w w' : World} (h : KeepsB S w w') : Keeps S w w' := fun g c T fz hs hg _ => h g c T fz hs hg
theorem KeepsB.of_below {S : Nat → Prop} {w w' : World} (h : Below w.heap.size w w') : KeepsB S w w' := fun g c T fz _ hg => ⟨fz, by rw [h.block g (Array.getElem?_eq_some_iff.1 hg).1]; exact hg⟩
theorem KeepsB.of_grown {S : Nat → Prop} {w w' : World} {row : Option Nat} (h : w.grownBy w' row) (hS : ∀ g, S g → some g ≠ row) : KeepsB S w w' := fun g c T fz hs hg => ⟨fz, by rw [h.block g (Array.getElem?_eq_some_iff.1 hg).1 (hS g hs)]; exact hg⟩
theorem keepsB_low {B : Nat} {w w' : World} (h : Below B w w') : KeepsB (fun g => g < B) w w' := fun g c T fz hs hg => ⟨fz, by rw [h.block g hs]; exact hg⟩
end Go.Proofs.Ythhaegncnoekbaa
namespace Go.Proofs.Ythhaegncnoekbaa
open Go.RowKit
def ZB : Array Value := #[.int .i64 0, .string ⟨#[]⟩, .slice none 0 0, .slice none 0 0, .int .i64 0, .int .i64 0, .int .i64 0, .string ⟨#[]⟩, .slice none 0 0, .slice none 0 0, .int .i64 0, .slice none 0 0]
end Go.Proofs.Ythhaegncnoekbaa
namespace Go.Proofs.Ythhaegncnoekbaa
open Go.RowKit
mutual
theorem same_refl : ∀ (d : Dt), Dt.same d d = true
  | .mk k t ms l p => by rw [same_mk, sames_refl l]; simp
theorem sames_refl : ∀ (l : List Dt), Dt.sames l l = true
  | [] => by simp [Dt.sames]
  | d :: l => by simp [Dt.sames, same_refl d, sames_refl l]
end
end Go.Proofs.Ythhaegncnoekbaa
namespace Go.Proofs.Ythhaegncnoekbaa
open Go.RowKit
/-- The newest mark; 0 of none. -/
def lastM (ms : List Int) : Int := ms.getLastD 0
/-- A key's three fields. -/
def keyV (d : Dt) : Array Value := #[.string d.text, .int .i64 (d.marks.length : Int), .int .i64 (lastM d.marks)]
def RetKey (d : Dt) (w : World) (e : Ending) (w' : World) : Prop := e = .returned (.agg (keyV d)) ∧ Below w.heap.size w w'
theorem lastM_at (ms : List Int) (h : 0 < ms.length) : lastM ms = ms[ms.length - 1]'(by omega) := by
  unfold lastM
  rw [List.getLastD_eq_getLast?, List.getLast?_eq_getElem?, List.getElem?_eq_getElem (by omega)]; rfl
theorem infoK : (Try.prog.info? 120).map (·.size) = some 3 := by kernel_rfl
theorem second2 (w : World) (A B : Obj) : ((w.alloc A).alloc B).heap[w.heap.size + 1]? = some B := by
  have h := heap_alloc_new (w.alloc A) B
  have e : (w.alloc A).heap.size = w.heap.size + 1 := by simp
  rw [e] at h; exact h
set_option maxHeartbeats 16000000 in
set_option maxRecDepth 100000 in
theorem keyOf_any {S : Nat → Prop} {w : World} {d : Dt} {cs : Array Value} (hd : Dt.At S w d cs) : Calls Try.prog 69 #[.agg cs] w (RetKey d w) := by
  obtain ⟨k, t, ms, l, p⟩ := d
  rw [At_mk] at hd
  obtain ⟨mv, lv, rfl, hm, hl⟩ := hd
  have hm1 := hm.one
  obtain ⟨ao, cap, rfl⟩ := hm.form
  have hms := hm.short
  have HM := Lib.hid hm
  have hl1 : lv.oneCell' = true := by
    rcases hl with ⟨rfl, _⟩ | ⟨g, o, cap, arr, fz, rfl, _⟩ <;> rfl
  clear hl hm
  go_enter Try.func69, Try.ntmps69
  obtain ⟨nm, hnm⟩ : ∃ n, n = ms.length := ⟨_, rfl⟩
  by_cases h0 : 0 < ms.length
  · obtain ⟨g, o, rfl, hc⟩ := HM.out.get (ms.length - 1) (by omega)
    have hg : g < w.heap.size := World.block_lt_of_cell? w _ hc
    have hB : Below w.heap.size w (((w.alloc (.cells #[.int .i64 k, .string t, .slice (some ⟨g, o, none⟩) ms.length cap, lv, .int .i64 p] 29)).alloc (.cells #[.string ⟨#[]⟩, .int .i64 0, .int .i64 0] 120)).alloc (.cells #[.string t, .int .i64 (ms.length : Int), .int .i64 0] 120)) := (((Below.refl _ _).alloc (Nat.le_refl _) _).alloc (by simp) _).alloc (by simp; omega) _
    have hc' : (((w.alloc (.cells #[.int .i64 k, .string t, .slice (some ⟨g, o, none⟩) ms.length cap, lv, .int .i64 p] 29)).alloc (.cells #[.string ⟨#[]⟩, .int .i64 0, .int .i64 0] 120)).alloc (.cells #[.string t, .int .i64 (ms.length : Int), .int .i64 0] 120)).cell? ⟨g, o + (ms.length - 1), none⟩ = some (.int .i64 ms[ms.length - 1]) := (hB.cell (p := ⟨g, o + (ms.length - 1), none⟩) hg).trans hc
    have HB := Lib.hid hB
    clear hB
    go_wp2_with fail
    refine bodyPost_ret (results_cell_row rfl _ _ (w.heap.size + 1) 120 #[.string t, .int .i64 (ms.length : Int), .int .i64 ms[ms.length - 1]] (0, 0) _ rfl ((Lib.alloc_old _ _ _ (by simp)).trans (second2 w _ _)) Try.underlying120 rfl infoK) rfl ?_
    refine ⟨by rw [keyV]; simp only [Dt.text, Dt.marks, lastM_at ms h0], ?_⟩
    exact (((Below.refl _ _).alloc (Nat.le_refl _) _).alloc (by simp) _).alloc (by simp; omega) _
  · obtain rfl : ms = [] := List.length_eq_zero_iff.1 (by omega)
    go_wp2_with fail
    refine bodyPost_ret (results_cell_row rfl _ _ (w.heap.size + 1) 120 #[.string t, .int .i64 0, .int .i64 0] (0, 0) _ rfl ((Lib.alloc_old _ _ _ (by simp)).trans (second2 w _ _)) Try.underlying120 rfl infoK) rfl ?_
    refine ⟨rfl, ?_⟩
    exact (((Below.refl _ _).alloc (Nat.le_refl _) _).alloc (by simp) _).alloc (by simp; omega) _
end Go.Proofs.Ythhaegncnoekbaa
namespace Go.Proofs.Ythhaegncnoekbaa
open Go.RowKit
mutual
/-- The twelve cells cs are this binding; all blocks that it leads to are some of S. -/
def Bd.PAt (S : Nat → Prop) (w : World) : Bd → Array Value → Prop
  | .mk n q d l, cs => ∃ m1 l1 m2 l2 lv, cs = (n.five m1 l1 ++ [Value.int .i64 q] ++ d.five m2 l2 ++ [lv]).toArray ∧ Dt.At S w n (n.five m1 l1).toArray ∧ Dt.At S w d (d.five m2 l2).toArray ∧
      ((lv = .slice none 0 0 ∧ l = []) ∨ ∃ g o cap arr fz, lv = .slice (some ⟨g, o, none⟩) l.length cap ∧ S g ∧ w.heap[g]? = some (.cells arr 60 fz) ∧ Bds.PAt S w l arr o)
/-- From place o on the cells of a row are these bindings, one behind the other. -/
def Bds.PAt (S : Nat → Prop) (w : World) : List Bd → Array Value → Nat → Prop
  | [], _, _ => True
  | b :: l, arr, o => (∃ cs, (∀ i, i < 12 → arr[o + i]? = cs[i]?) ∧ Bd.PAt S w b cs) ∧ Bds.PAt S w l arr (o + 12)
end
/-- A slice of bindings that reads as l. -/
def PsAt (S : Nat → Prop) (w : World) (lv : Value) (l : List Bd) : Prop :=
  (lv = .slice none 0 0 ∧ l = []) ∨ ∃ g o cap arr fz, lv = .slice (some ⟨g, o, none⟩) l.length cap ∧ S g ∧ w.heap[g]? = some (.cells arr 60 fz) ∧ Bds.PAt S w l arr o
theorem BdPAt_mk (S : Nat → Prop) (w : World) (n : Dt) (q : Int) (d : Dt) (l : List Bd) (cs : Array Value) :
    Bd.PAt S w (.mk n q d l) cs ↔ ∃ m1 l1 m2 l2 lv, cs = (n.five m1 l1 ++ [Value.int .i64 q] ++ d.five m2 l2 ++ [lv]).toArray ∧ Dt.At S w n (n.five m1 l1).toArray ∧ Dt.At S w d (d.five m2 l2).toArray ∧ PsAt S w lv l := by
  unfold Bd.PAt PsAt; rfl
mutual
theorem Bd.PAt.keeps {S : Nat → Prop} {w w' : World} (k : KeepsB S w w') : ∀ (b : Bd) (cs : Array Value), Bd.PAt S w b cs → Bd.PAt S w' b cs
  | .mk n q d l, cs, h => by
    rw [BdPAt_mk] at h ⊢
    obtain ⟨m1, l1, m2, l2, lv, e, hn, hd, hl⟩ := h
    refine ⟨m1, l1, m2, l2, lv, e, hn.keeps k.keeps, hd.keeps k.keeps, ?_⟩
    rcases hl with hl | ⟨g, o, cap, arr, fz, h1, h2, h3, h4⟩
    · exact .inl hl
    · obtain ⟨fz', h5⟩ := k g arr 60 fz h2 h3
      exact .inr ⟨g, o, cap, arr, fz', h1, h2, h5, Bds.PAt.keeps k l arr o h4⟩
theorem Bds.PAt.keeps {S : Nat → Prop} {w w' : World} (k : KeepsB S w w') : ∀ (l : List Bd) (arr : Array Value) (o : Nat), Bds.PAt S w l arr o → Bds.PAt S w' l arr o
  | [], _, _, _ => by unfold Bds.PAt; trivial
  | b :: l, arr, o, h => by
    unfold Bds.PAt at h ⊢
    obtain ⟨⟨cs, hc, hd⟩, hr⟩ := h
    exact ⟨⟨cs, hc, Bd.PAt.keeps k b cs hd⟩, Bds.PAt.keeps k l arr (o + 12) hr⟩
end
mutual
theorem Bd.PAt.mono {S T : Nat → Prop} {w : World} (k : ∀ g, S g → T g) : ∀ (b : Bd) (cs : Array Value), Bd.PAt S w b cs → Bd.PAt T w b cs
  | .mk n q d l, cs, h => by
    rw [BdPAt_mk] at h ⊢
    obtain ⟨m1, l1, m2, l2, lv, e, hn, hd, hl⟩ := h
    refine ⟨m1, l1, m2, l2, lv, e, hn.mono k, hd.mono k, ?_⟩
    rcases hl with hl | ⟨g, o, cap, arr, fz, h1, h2, h3, h4⟩
    · exact .inl hl
    · exact .inr ⟨g, o, cap, arr, fz, h1, k g h2, h3, Bds.PAt.mono k l arr o h4⟩
theorem Bds.PAt.mono {S T : Nat → Prop} {w : World} (k : ∀ g, S g → T g) : ∀ (l : List Bd) (arr : Array Value) (o : Nat), Bds.PAt S w l arr o → Bds.PAt T w l arr o
  | [], _, _, _ => by unfold Bds.PAt; trivial
  | b :: l, arr, o, h => by
    unfold Bds.PAt at h ⊢
    obtain ⟨⟨cs, hc, hd⟩, hr⟩ := h
    exact ⟨⟨cs, hc, Bd.PAt.mono k b cs hd⟩, Bds.PAt.mono k l arr (o + 12) hr⟩
end
theorem Bds.PAt.get {S : Nat → Prop} {w : World} : ∀ (l : List Bd) (arr : Array Value) (o : Nat), Bds.PAt S w l arr o → ∀ j (h : j < l.length), ∃ cs, (∀ i, i < 12 → arr[o + 12 * j + i]? = cs[i]?) ∧ Bd.PAt S w l[j] cs
  | [], _, _, _, j, h => by simp at h
  | b :: l, arr, o, H, j, h => by
    unfold Bds.PAt at H
    cases j with
    | zero => simpa using H.1
    | succ j =>
      obtain ⟨cs, h1, h2⟩ := Bds.PAt.get l arr (o + 12) H.2 j (by simpa using h)
      exact ⟨cs, fun i hi => by rw [← h1 i hi]; congr 1; omega, h2⟩
theorem Bds.PAt.of_get {S : Nat → Prop} {w : World} : ∀ (l : List Bd) (arr : Array Value) (o : Nat), (∀ j (h : j < l.length), ∃ cs, (∀ i, i < 12 → arr[o + 12 * j + i]? = cs[i]?) ∧ Bd.PAt S w l[j] cs) → Bds.PAt S w l arr o
  | [], _, _, _ => by unfold Bds.PAt; trivial
  | b :: l, arr, o, H => by
    unfold Bds.PAt
    refine ⟨?_, Bds.PAt.of_get l arr (o + 12) fun j h => ?_⟩
    · have := H 0 (by simp)
      simpa using this
    · obtain ⟨cs, h1, h2⟩ := H (j + 1) (by simpa using h)
      exact ⟨cs, fun i hi => by rw [← h1 i hi]; congr 1; omega, by simpa using h2⟩
theorem PsAt.keeps {S : Nat → Prop} {w w' : World} {lv : Value} {l : List Bd} (h : PsAt S w lv l) (k : KeepsB S w w') : PsAt S w' lv l := by
  rcases h with h | ⟨g, o, cap, arr, fz, h1, h2, h3, h4⟩
  · exact .inl h
  · obtain ⟨fz', h5⟩ := k g arr 60 fz h2 h3
    exact .inr ⟨g, o, cap, arr, fz', h1, h2, h5, Bds.PAt.keeps k l arr o h4⟩
theorem PsAt.mono {S T : Nat → Prop} {w : World} {lv : Value} {l : List Bd} (h : PsAt S w lv l) (k : ∀ g, S g → T g) : PsAt T w lv l := by
  rcases h with h | ⟨g, o, cap, arr, fz, h1, h2, h3, h4⟩
  · exact .inl h
  · exact .inr ⟨g, o, cap, arr, fz, h1, k g h2, h3, Bds.PAt.mono k l arr o h4⟩
theorem PsAt.form {S : Nat → Prop} {w : World} {v : Value} {l : List Bd} (h : PsAt S w v l) : ∃ ao c, v = .slice ao l.length c := by
  rcases h with ⟨rfl, rfl⟩ | ⟨g, o, cap, arr, fz, rfl, _⟩
  · exact ⟨none, 0, rfl⟩
  · exact ⟨_, _, rfl⟩
theorem PsAt.one {S : Nat → Prop} {w : World} {v : Value} {l : List Bd} (h : PsAt S w v l) : v.oneCell' = true := by
  obtain ⟨ao, c, rfl⟩ := h.form; rfl
/-- The twelve cells of a binding, one by one. -/
theorem BdPAt_twelve {S : Nat → Prop} {w : World} {b : Bd} {cs : Array Value} (h : Bd.PAt S w b cs) : ∃ m1 l1 m2 l2 lv, cs = #[.int .i64 b.name.kind, .string b.name.text, m1, l1, .int .i64 b.name.place, .int .i64 b.deep, .int .i64 b.dat.kind, .string b.dat.text, m2, l2, .int .i64 b.dat.place, lv] ∧
    Dt.At S w b.name #[.int .i64 b.name.kind, .string b.name.text, m1, l1, .int .i64 b.name.place] ∧ Dt.At S w b.dat #[.int .i64 b.dat.kind, .string b.dat.text, m2, l2, .int .i64 b.dat.place] ∧ PsAt S w lv b.rows ∧
    m1.oneCell' = true ∧ l1.oneCell' = true ∧ m2.oneCell' = true ∧ l2.oneCell' = true ∧ lv.oneCell' = true := by
  cases b with
  | mk n q d l =>
    rw [BdPAt_mk] at h
    obtain ⟨m1, l1, m2, l2, lv, e, hn, hd, hl⟩ := h
    exact ⟨m1, l1, m2, l2, lv, by rw [e]; simp [Dt.five, Bd.name, Bd.deep, Bd.dat], hn, hd, hl, (At_one hn).1, (At_one hn).2, (At_one hd).1, (At_one hd).2, hl.one⟩
theorem PsAt.get {S : Nat → Prop} {w : World} {ao : Option Addr} {n cap : Nat} {l : List Bd} (h : PsAt S w (.slice ao n cap) l) (j : Nat) (hj : j < l.length) :
    ∃ g o arr fz cs, ao = some ⟨g, o, none⟩ ∧ S g ∧ w.heap[g]? = some (.cells arr 60 fz) ∧ (∀ i, i < 12 → w.cell? ⟨g, o + j * 12 + i, none⟩ = cs[i]?) ∧ Bd.PAt S w l[j] cs := by
  rcases h with ⟨_, rfl⟩ | ⟨g, o, cap', arr, fz, e, hS, hg, hd⟩
  · simp at hj
  · injection e with e1 e2 e3
    subst e1
    obtain ⟨cs, h1, h2⟩ := Bds.PAt.get l arr o hd j hj
    exact ⟨g, o, arr, fz, cs, rfl, hS, hg, fun i hi => by rw [Lib.cell_of_heap hg, show o + j * 12 + i = o + 12 * j + i by omega]; exact h1 i hi, h2⟩
end Go.Proofs.Ythhaegncnoekbaa
