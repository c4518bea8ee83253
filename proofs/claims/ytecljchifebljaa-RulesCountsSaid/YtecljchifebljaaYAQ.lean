/- Rules: the program's formed: its walk. -/
import Derived.Test.YtecljchifebljaaYAB
import Derived.Test.YtecljchifebljaaDP2
import Derived.Test.YtecljchifebljaaVB
set_option linter.unusedVariables false
set_option linter.unusedSimpArgs false
namespace Go.Proofs.Ytecljchifebljaa
open Go.RowKit
theorem part_ok {d : Dt} (h : d.wf) : (d.dots || d.pat) = (!(d.kind == 4) || pats d.parts true false) := by
 obtain ⟨k, t, ms, l, p⟩ := d
 rw [wf_mk] at h
 rw [pat_mk]
 show _ = (!(k == 4) || pats l true false)
 by_cases hk : k = 4
 ·subst hk
  have e : (Dt.mk 4 t ms l p).dots = false := rfl
  rw [e]; simp
 ·rw [h.1 hk]
  have e : (k == 4) = false := beq_eq_false_iff_ne.2 hk
  rw [e]
  cases (Dt.mk k t ms [] p).dots <;> simp [pats]
def FmInv (l : List Dt) (w : World) (iv : Value) (wr : World) : Prop := ∃ j : Nat, j ≤ l.length ∧ iv = .int .i64 (j : Int) ∧ (∀ i (hi : i < l.length), i < j → (l[i].dots || l[i].pat) = true) ∧ Below w.heap.size w wr
set_option maxHeartbeats 16000000 in
set_option maxRecDepth 100000 in
theorem formed_any (n : Nat) : n ≤ 1000000 → ∀ (l : List Dt), Dt.sizes l < n → wfs l → ∀ (S : Nat → Prop) (v : Value) (w : World), LAt S w v l → Calls Try.prog 42 #[v] w (RetBool (pats l true false) w) := by
 induction n with
 | zero => intro _ l hl; exact absurd hl (by omega)
 | succ n ih0 =>
  intro hn l hl hwf S v w hv
  have IH := Lib.hid (ih0 (by omega))
  have hll := length_sizes l
  have HV := Lib.hid hv
  have HWF := Lib.hid hwf
  have FI := Lib.hid (index_any l v w hv (by omega))
  obtain ⟨ao, ac, rfl⟩ := hv.form
  have hcap := hv.cap.2
  clear hv hwf ih0
  have HP := Lib.hid (pats_is l)
  obtain ⟨ix, hix⟩ : ∃ x, x = ixD l := ⟨_, rfl⟩
  have hsp := ixD_spec l
  rw [← hix] at FI hsp
  have HIX := Lib.hid hix
  clear hix
  go_enter Try.func42, Try.ntmps42
  go_wp2_with fail
  refine FI.out.mono ?_
  rintro e w2 ⟨rfl, hb2⟩
  have HB2 := Lib.hid hb2
  have HV2 := Lib.hid (HV.out.keeps (Keeps.of_below hb2))
  clear hb2 FI HV
  rcases hsp with ⟨rfl, hno⟩ | ⟨j0, hj0, rfl, hd0, hpre⟩
  ·have HDO : Hid (dotsOk l = true) := by
    show _ = _
    unfold dotsOk
    rw [← HIX.out]; rfl
   clear hno
   go_wp2_with fail
   go_loopw [23] (fun iv wr => FmInv l w2 iv wr) (fun iv _ => l.length - (intOf iv).toNat)
   case atStart => exact ⟨0, Nat.zero_le _, rfl, fun i hi h => absurd h (by omega), Below.refl _ _⟩
   case round =>
    obtain ⟨j, hj, rfl, hr, hbw⟩ := hrel
    have HBW := Lib.hid hbw
    have HR := Lib.hid hr
    have HVr := Lib.hid (HV2.out.keeps (Keeps.of_below hbw))
    clear hbw hr
    by_cases hlt : j < l.length
    ·have q1 : decide ((j : Int) < (l.length : Int)) = true := decide_eq_true (by omega)
     obtain ⟨g, o, k5, t5, mv5, lv5, p5, he5, hS, _, hat, e0, e1, e2, e3, e4, o5, o6⟩ := HVr.out.get j hlt
     first | subst he5 | (simp only [Option.some.injEq, Addr.mk.injEq, and_true] at he5; obtain ⟨rfl, rfl⟩ := he5)
     have hsj := size_get l j hlt
     have hwj := wfs_get HWF.out j hlt
     have hok := part_ok hwj
     obtain ⟨d, hd⟩ : ∃ d, d = l[j] := ⟨_, rfl⟩
     rw [← hd] at hat hsj hwj hok
     have HD := Lib.hid hd
     obtain ⟨dk, dt, dms, dl, dp⟩ := d
     rw [At_mk] at hat
     obtain ⟨mv6, lv6, e6, hM6, hL6⟩ := hat
     simp only [Array.mk.injEq, List.cons.injEq, Value.int.injEq, Value.string.injEq, true_and, and_true] at e6
     obtain ⟨rfl, rfl, rfl, rfl, rfl⟩ := e6
     obtain ⟨lo6, lc6, rfl⟩ := hL6.form
     obtain ⟨mo6, mc6, rfl⟩ := MAt.form2 hM6
     clear hM6
     have hbY : Below wr.heap.size wr (wr.alloc (.cells #[.int .i64 k5, .string t5, .slice mo6 dms.length mc6, .slice lo6 dl.length lc6, .int .i64 p5] 29)) := (Below.refl _ _).alloc (Nat.le_refl _) _
     have HFF := Lib.hid (fun w' (hw' : Below wr.heap.size wr w') => IH.out dl (by simp only [Dt.size] at hsj; omega) hwj.parts S (.slice lo6 dl.length lc6) w' (hL6.keeps (Keeps.of_below hw')))
     have HOK : Hid ((l[j].dots || l[j].pat) = (!(k5 == 4) || pats dl true false)) := by show _ = _; rw [← HD.out]; exact hok
     have HBY := Lib.hid hbY
     clear hL6 hwj hok hd hsj hbY hS
     by_cases hk : k5 = 4
     ·subst hk
      obtain ⟨b, hb⟩ : ∃ b, b = pats dl true false := ⟨_, rfl⟩
      rw [← hb] at HFF HOK
      clear hb
      have FF := Lib.hid (HFF.out _ HBY.out)
      go_wp2_with fail
      refine FF.out.mono ?_
      rintro e w3 ⟨rfl, hb3⟩
      have HB3 := Lib.hid (HBW.out.trans ((HBY.out.trans (hb3.mono HBY.out.size)).mono HBW.out.size))
      clear hb3 e0 e1 e2 e3 e4 FF HFF HBY
      cases b with
      | true =>
       have HOK2 : Hid ((l[j].dots || l[j].pat) = true) := by show _ = _; rw [HOK.out]; rfl
       go_wp2_with fail
       go_roundw
       case rel => exact ⟨j + 1, by omega, by go_num, fun i hi h => (if e : i = j then (by subst e; exact HOK2.out) else HR.out i hi (by omega)), HB3.out⟩
       case measure => simp [intOf]; omega
      | false =>
       have HE : Hid (pats l true false = false) := by
        show _ = _
        rw [HP.out, Bool.and_eq_false_iff]
        right
        rw [List.all_eq_false]
        exact ⟨_, List.getElem_mem hlt, by rw [HOK.out]; decide⟩
       go_wp2_with fail
       go_ret
       exact ⟨by rw [HE.out]; rfl, HB2.out.trans (HB3.out.mono HB2.out.size)⟩
     ·have q4 : (k5 == 4) = false := beq_eq_false_iff_ne.2 hk
      have HOK2 : Hid ((l[j].dots || l[j].pat) = true) := by show _ = _; rw [HOK.out, q4]; rfl
      have HB3 := Lib.hid (HBW.out.trans (HBY.out.mono HBW.out.size))
      clear HFF
      go_wp2_with fail
      go_roundw
      case rel => exact ⟨j + 1, by omega, by go_num, fun i hi h => (if e : i = j then (by subst e; exact HOK2.out) else HR.out i hi (by omega)), HB3.out⟩
      case measure => simp [intOf]; omega
    ·obtain rfl : j = l.length := by omega
     have q1 : decide ((l.length : Int) < (l.length : Int)) = false := decide_eq_false (by omega)
     have HE : Hid (pats l true false = true) := by
      show _ = _
      rw [HP.out, HDO.out, Bool.true_and, List.all_eq_true]
      intro x hx
      obtain ⟨i, hi, rfl⟩ := List.getElem_of_mem hx
      exact HR.out i hi hi
     go_wp2_with fail
     go_ret
     exact ⟨by rw [HE.out]; rfl, HB2.out.trans (HBW.out.mono HB2.out.size)⟩
  ·by_cases hz : j0 = 0
   ·subst hz
    have HE : Hid (pats l true false = false) := by
     show _ = _
     rw [HP.out]
     unfold dotsOk
     rw [← HIX.out]; rfl
    clear hpre hd0
    go_wp2_with fail
    go_ret
    exact ⟨by rw [HE.out]; rfl, HB2.out⟩
   ·have q0 : ((j0 : Int) == 0) = false := beq_eq_false_iff_ne.2 (by omega)
    have q1 : decide ((0 : Int) < (j0 : Int)) = true := decide_eq_true (by omega)
    obtain ⟨g, o, k5, t5, mv5, lv5, p5, he5, hS, _⟩ := HV2.out.get j0 hj0
    subst he5
    by_cases hz2 : ac = j0 + 1
    ·have hz3 : ac - (j0 + 1) = 0 := by omega
     have HVD := Lib.hid (HV2.out.dropz (j0 + 1) (by omega))
     have FC := Lib.hid (contains_any _ _ w2 HVD.out (by rw [List.length_drop]; omega))
     obtain ⟨b, hb⟩ : ∃ b, b = (l.drop (j0 + 1)).any Dt.dots := ⟨_, rfl⟩
     rw [← hb] at FC
     have HDO1 : Hid (dotsOk l = !b) := by
      show _ = _
      unfold dotsOk
      rw [← HIX.out, q0, q1, hb]; rfl
     clear hb hpre hd0 hS HVD
     go_wp2_with fail
     refine FC.out.mono ?_
     rintro e w3 ⟨rfl, hb3⟩
     have HB3 := Lib.hid (HB2.out.trans (hb3.mono HB2.out.size))
     have HV3 := Lib.hid (HV2.out.keeps (Keeps.of_below hb3))
     clear hb3 FC HB2 HV2 hz2 hz3
     cases b with
     | true =>
      have HE : Hid (pats l true false = false) := by
       show _ = _
       rw [HP.out, HDO1.out]; rfl
      go_wp2_with fail
      go_ret
      exact ⟨by rw [HE.out]; rfl, HB3.out⟩
     | false =>
      have HDO : Hid (dotsOk l = true) := HDO1.out
      clear q0 q1
      go_wp2_with fail
      go_loopw [23] (fun iv wr => FmInv l w3 iv wr) (fun iv _ => l.length - (intOf iv).toNat)
      case atStart => exact ⟨0, Nat.zero_le _, rfl, fun i hi h => absurd h (by omega), Below.refl _ _⟩
      case round =>
       obtain ⟨j, hj, rfl, hr, hbw⟩ := hrel
       have HBW := Lib.hid hbw
       have HR := Lib.hid hr
       have HVr := Lib.hid (HV3.out.keeps (Keeps.of_below hbw))
       clear hbw hr
       by_cases hlt : j < l.length
       ·have q1 : decide ((j : Int) < (l.length : Int)) = true := decide_eq_true (by omega)
        obtain ⟨g, o, k5, t5, mv5, lv5, p5, he5, hS, _, hat, e0, e1, e2, e3, e4, o5, o6⟩ := HVr.out.get j hlt
        first | subst he5 | (simp only [Option.some.injEq, Addr.mk.injEq, and_true] at he5; obtain ⟨rfl, rfl⟩ := he5)
        have hsj := size_get l j hlt
        have hwj := wfs_get HWF.out j hlt
        have hok := part_ok hwj
        obtain ⟨d, hd⟩ : ∃ d, d = l[j] := ⟨_, rfl⟩
        rw [← hd] at hat hsj hwj hok
        have HD := Lib.hid hd
        obtain ⟨dk, dt, dms, dl, dp⟩ := d
        rw [At_mk] at hat
        obtain ⟨mv6, lv6, e6, hM6, hL6⟩ := hat
        simp only [Array.mk.injEq, List.cons.injEq, Value.int.injEq, Value.string.injEq, true_and, and_true] at e6
        obtain ⟨rfl, rfl, rfl, rfl, rfl⟩ := e6
        obtain ⟨lo6, lc6, rfl⟩ := hL6.form
        obtain ⟨mo6, mc6, rfl⟩ := MAt.form2 hM6
        clear hM6
        have hbY : Below wr.heap.size wr (wr.alloc (.cells #[.int .i64 k5, .string t5, .slice mo6 dms.length mc6, .slice lo6 dl.length lc6, .int .i64 p5] 29)) := (Below.refl _ _).alloc (Nat.le_refl _) _
        have HFF := Lib.hid (fun w' (hw' : Below wr.heap.size wr w') => IH.out dl (by simp only [Dt.size] at hsj; omega) hwj.parts S (.slice lo6 dl.length lc6) w' (hL6.keeps (Keeps.of_below hw')))
        have HOK : Hid ((l[j].dots || l[j].pat) = (!(k5 == 4) || pats dl true false)) := by show _ = _; rw [← HD.out]; exact hok
        have HBY := Lib.hid hbY
        clear hL6 hwj hok hd hsj hbY hS
        by_cases hk : k5 = 4
        ·subst hk
         obtain ⟨b, hb⟩ : ∃ b, b = pats dl true false := ⟨_, rfl⟩
         rw [← hb] at HFF HOK
         clear hb
         have FF := Lib.hid (HFF.out _ HBY.out)
         go_wp2_with fail
         refine FF.out.mono ?_
         rintro e w3 ⟨rfl, hb3⟩
         have HB8 := Lib.hid (HBW.out.trans ((HBY.out.trans (hb3.mono HBY.out.size)).mono HBW.out.size))
         clear hb3 e0 e1 e2 e3 e4 FF HFF HBY
         cases b with
         | true =>
          have HOK2 : Hid ((l[j].dots || l[j].pat) = true) := by show _ = _; rw [HOK.out]; rfl
          go_wp2_with fail
          go_roundw
          case rel => exact ⟨j + 1, by omega, by go_num, fun i hi h => (if e : i = j then (by subst e; exact HOK2.out) else HR.out i hi (by omega)), HB8.out⟩
          case measure => simp [intOf]; omega
         | false =>
          have HE : Hid (pats l true false = false) := by
           show _ = _
           rw [HP.out, Bool.and_eq_false_iff]
           right
           rw [List.all_eq_false]
           exact ⟨_, List.getElem_mem hlt, by rw [HOK.out]; decide⟩
          go_wp2_with fail
          go_ret
          exact ⟨by rw [HE.out]; rfl, HB3.out.trans (HB8.out.mono HB3.out.size)⟩
        ·have q4 : (k5 == 4) = false := beq_eq_false_iff_ne.2 hk
         have HOK2 : Hid ((l[j].dots || l[j].pat) = true) := by show _ = _; rw [HOK.out, q4]; rfl
         have HB8 := Lib.hid (HBW.out.trans (HBY.out.mono HBW.out.size))
         clear HFF
         go_wp2_with fail
         go_roundw
         case rel => exact ⟨j + 1, by omega, by go_num, fun i hi h => (if e : i = j then (by subst e; exact HOK2.out) else HR.out i hi (by omega)), HB8.out⟩
         case measure => simp [intOf]; omega
       ·obtain rfl : j = l.length := by omega
        have q1 : decide ((l.length : Int) < (l.length : Int)) = false := decide_eq_false (by omega)
        have HE : Hid (pats l true false = true) := by
         show _ = _
         rw [HP.out, HDO.out, Bool.true_and, List.all_eq_true]
         intro x hx
         obtain ⟨i, hi, rfl⟩ := List.getElem_of_mem hx
         exact HR.out i hi hi
        go_wp2_with fail
        go_ret
        exact ⟨by rw [HE.out]; rfl, HB3.out.trans (HBW.out.mono HB3.out.size)⟩
    ·have hz3 : 0 < ac - (j0 + 1) := by omega
     have HVD := Lib.hid (HV2.out.drop (j0 + 1) (by omega))
     have FC := Lib.hid (contains_any _ _ w2 HVD.out (by rw [List.length_drop]; omega))
     obtain ⟨b, hb⟩ : ∃ b, b = (l.drop (j0 + 1)).any Dt.dots := ⟨_, rfl⟩
     rw [← hb] at FC
     have HDO1 : Hid (dotsOk l = !b) := by
      show _ = _
      unfold dotsOk
      rw [← HIX.out, q0, q1, hb]; rfl
     clear hb hpre hd0 hS HVD
     go_wp2_with fail
     refine FC.out.mono ?_
     rintro e w3 ⟨rfl, hb3⟩
     have HB3 := Lib.hid (HB2.out.trans (hb3.mono HB2.out.size))
     have HV3 := Lib.hid (HV2.out.keeps (Keeps.of_below hb3))
     clear hb3 FC HB2 HV2 hz2 hz3
     cases b with
     | true =>
      have HE : Hid (pats l true false = false) := by
       show _ = _
       rw [HP.out, HDO1.out]; rfl
      go_wp2_with fail
      go_ret
      exact ⟨by rw [HE.out]; rfl, HB3.out⟩
     | false =>
      have HDO : Hid (dotsOk l = true) := HDO1.out
      clear q0 q1
      go_wp2_with fail
      go_loopw [23] (fun iv wr => FmInv l w3 iv wr) (fun iv _ => l.length - (intOf iv).toNat)
      case atStart => exact ⟨0, Nat.zero_le _, rfl, fun i hi h => absurd h (by omega), Below.refl _ _⟩
      case round =>
       obtain ⟨j, hj, rfl, hr, hbw⟩ := hrel
       have HBW := Lib.hid hbw
       have HR := Lib.hid hr
       have HVr := Lib.hid (HV3.out.keeps (Keeps.of_below hbw))
       clear hbw hr
       by_cases hlt : j < l.length
       ·have q1 : decide ((j : Int) < (l.length : Int)) = true := decide_eq_true (by omega)
        obtain ⟨g, o, k5, t5, mv5, lv5, p5, he5, hS, _, hat, e0, e1, e2, e3, e4, o5, o6⟩ := HVr.out.get j hlt
        first | subst he5 | (simp only [Option.some.injEq, Addr.mk.injEq, and_true] at he5; obtain ⟨rfl, rfl⟩ := he5)
        have hsj := size_get l j hlt
        have hwj := wfs_get HWF.out j hlt
        have hok := part_ok hwj
        obtain ⟨d, hd⟩ : ∃ d, d = l[j] := ⟨_, rfl⟩
        rw [← hd] at hat hsj hwj hok
        have HD := Lib.hid hd
        obtain ⟨dk, dt, dms, dl, dp⟩ := d
        rw [At_mk] at hat
        obtain ⟨mv6, lv6, e6, hM6, hL6⟩ := hat
        simp only [Array.mk.injEq, List.cons.injEq, Value.int.injEq, Value.string.injEq, true_and, and_true] at e6
        obtain ⟨rfl, rfl, rfl, rfl, rfl⟩ := e6
        obtain ⟨lo6, lc6, rfl⟩ := hL6.form
        obtain ⟨mo6, mc6, rfl⟩ := MAt.form2 hM6
        clear hM6
        have hbY : Below wr.heap.size wr (wr.alloc (.cells #[.int .i64 k5, .string t5, .slice mo6 dms.length mc6, .slice lo6 dl.length lc6, .int .i64 p5] 29)) := (Below.refl _ _).alloc (Nat.le_refl _) _
        have HFF := Lib.hid (fun w' (hw' : Below wr.heap.size wr w') => IH.out dl (by simp only [Dt.size] at hsj; omega) hwj.parts S (.slice lo6 dl.length lc6) w' (hL6.keeps (Keeps.of_below hw')))
        have HOK : Hid ((l[j].dots || l[j].pat) = (!(k5 == 4) || pats dl true false)) := by show _ = _; rw [← HD.out]; exact hok
        have HBY := Lib.hid hbY
        clear hL6 hwj hok hd hsj hbY hS
        by_cases hk : k5 = 4
        ·subst hk
         obtain ⟨b, hb⟩ : ∃ b, b = pats dl true false := ⟨_, rfl⟩
         rw [← hb] at HFF HOK
         clear hb
         have FF := Lib.hid (HFF.out _ HBY.out)
         go_wp2_with fail
         refine FF.out.mono ?_
         rintro e w3 ⟨rfl, hb3⟩
         have HB8 := Lib.hid (HBW.out.trans ((HBY.out.trans (hb3.mono HBY.out.size)).mono HBW.out.size))
         clear hb3 e0 e1 e2 e3 e4 FF HFF HBY
         cases b with
         | true =>
          have HOK2 : Hid ((l[j].dots || l[j].pat) = true) := by show _ = _; rw [HOK.out]; rfl
          go_wp2_with fail
          go_roundw
          case rel => exact ⟨j + 1, by omega, by go_num, fun i hi h => (if e : i = j then (by subst e; exact HOK2.out) else HR.out i hi (by omega)), HB8.out⟩
          case measure => simp [intOf]; omega
         | false =>
          have HE : Hid (pats l true false = false) := by
           show _ = _
           rw [HP.out, Bool.and_eq_false_iff]
           right
           rw [List.all_eq_false]
           exact ⟨_, List.getElem_mem hlt, by rw [HOK.out]; decide⟩
          go_wp2_with fail
          go_ret
          exact ⟨by rw [HE.out]; rfl, HB3.out.trans (HB8.out.mono HB3.out.size)⟩
        ·have q4 : (k5 == 4) = false := beq_eq_false_iff_ne.2 hk
         have HOK2 : Hid ((l[j].dots || l[j].pat) = true) := by show _ = _; rw [HOK.out, q4]; rfl
         have HB8 := Lib.hid (HBW.out.trans (HBY.out.mono HBW.out.size))
         clear HFF
         go_wp2_with fail
         go_roundw
         case rel => exact ⟨j + 1, by omega, by go_num, fun i hi h => (if e : i = j then (by subst e; exact HOK2.out) else HR.out i hi (by omega)), HB8.out⟩
         case measure => simp [intOf]; omega
       ·obtain rfl : j = l.length := by omega
        have q1 : decide ((l.length : Int) < (l.length : Int)) = false := decide_eq_false (by omega)
        have HE : Hid (pats l true false = true) := by
         show _ = _
         rw [HP.out, HDO.out, Bool.true_and, List.all_eq_true]
         intro x hx
         obtain ⟨i, hi, rfl⟩ := List.getElem_of_mem hx
         exact HR.out i hi hi
        go_wp2_with fail
        go_ret
        exact ⟨by rw [HE.out]; rfl, HB3.out.trans (HBW.out.mono HB3.out.size)⟩
end Go.Proofs.Ytecljchifebljaa
namespace Go.Proofs.Ytecljchifebljaa
open Go Go.RowKit
theorem allows_any (d : Dt) (hwf : d.wf) (B : Nat) (cs : Array Value) (bs : List Bd) (tv : Value) (bm : Nat) (w : World) (hB : B ≤ w.heap.size) (hd : Dt.At (fun g => g < B) w d cs) (hp : PsAt (fun g => g < B) w tv bs) (ht : TbAt w (bm + 1) bm (keysB bs))
  (hl : bs.length ≤ 1000000) (hz : ∀ b ∈ bs, b.name.size ≤ 1000000) (hs : d.size ≤ 9000) :
  Calls Try.prog 47 #[.agg #[tv, .map (some bm)], .agg cs] w (RetBool (d.dpst bs 0).isSome w) := by
 obtain ⟨to, tc, rfl⟩ := hp.form
 obtain ⟨k, t, mo, mn, mc, lo, ln, lc, p, rfl⟩ := At_slices hd
 have hb0 : Below w.heap.size w ((w.alloc (.cells #[.slice to bs.length tc, .map (some bm)] 86)).alloc (.cells #[.int .i64 k, .string t, .slice mo mn mc, .slice lo ln lc, .int .i64 p] 29)) := ((Below.refl _ _).alloc (Nat.le_refl _) _).alloc (by simp) _
 have hx0 : ((w.alloc (.cells #[.slice to bs.length tc, .map (some bm)] 86)).alloc (.cells #[.int .i64 k, .string t, .slice mo mn mc, .slice lo ln lc, .int .i64 p] 29)).heap[w.heap.size]? = some (Obj.cells #[.slice to bs.length tc, .map (some bm)] 86 (0, 0)) := (Lib.alloc_old _ _ _ (by simp)).trans (alloc_at _ _)
 have hx1 : ((w.alloc (.cells #[.slice to bs.length tc, .map (some bm)] 86)).alloc (.cells #[.int .i64 k, .string t, .slice mo mn mc, .slice lo ln lc, .int .i64 p] 29)).heap[w.heap.size + 1]? = some (Obj.cells #[.int .i64 k, .string t, .slice mo mn mc, .slice lo ln lc, .int .i64 p] 29 (0, 0)) := by
  have h := alloc_at (w.alloc (.cells #[.slice to bs.length tc, .map (some bm)] 86)) (.cells #[.int .i64 k, .string t, .slice mo mn mc, .slice lo ln lc, .int .i64 p] 29)
  rw [World.size_alloc] at h; exact h
 have hs0 : ((w.alloc (.cells #[.slice to bs.length tc, .map (some bm)] 86)).alloc (.cells #[.int .i64 k, .string t, .slice mo mn mc, .slice lo ln lc, .int .i64 p] 29)).heap.size = w.heap.size + 1 + 1 := by simp
 have DP := Lib.hid fun (X : World) (hb : Below w.heap.size w X) => deepest_any (d.size) (by omega) d (Nat.le_refl _) hwf B _ bs _ bm 0 X (by have := hb.size; omega) (Dt.At.keeps (Keeps.of_below hb) _ _ hd) (hp.keeps (KeepsB.of_below hb)) (ht.kept (Below.grownRow hb none) (fun r e => by cases e)) hl hz (by omega) (by omega)
 go_enter Try.func47, Try.ntmps47
 go_upto_region 1 with fail
 obtain ⟨X, hX⟩ : ∃ X, X = ((w.alloc (.cells #[.slice to bs.length tc, .map (some bm)] 86)).alloc (.cells #[.int .i64 k, .string t, .slice mo mn mc, .slice lo ln lc, .int .i64 p] 29)) := ⟨_, rfl⟩
 rw [← hX] at hb0 hx0 hx1 hs0
 rw [← hX]
 clear hX
 have y0 : X.cell? ⟨w.heap.size, 0, none⟩ = some (.slice to bs.length tc) := by rw [Lib.cell_of_heap hx0]; rfl
 have y1 : X.cell? ⟨w.heap.size, 1, none⟩ = some (.map (some bm)) := by rw [Lib.cell_of_heap hx0]; rfl
 have y60 : X.cell? ⟨w.heap.size + 1, 0, none⟩ = some (.int .i64 k) := by rw [Lib.cell_of_heap hx1]; rfl
 have y61 : X.cell? ⟨w.heap.size + 1, 1, none⟩ = some (.string t) := by rw [Lib.cell_of_heap hx1]; rfl
 have y62 : X.cell? ⟨w.heap.size + 1, 2, none⟩ = some (.slice mo mn mc) := by rw [Lib.cell_of_heap hx1]; rfl
 have y63 : X.cell? ⟨w.heap.size + 1, 3, none⟩ = some (.slice lo ln lc) := by rw [Lib.cell_of_heap hx1]; rfl
 have y64 : X.cell? ⟨w.heap.size + 1, 4, none⟩ = some (.int .i64 p) := by rw [Lib.cell_of_heap hx1]; rfl
 have HB0 := Lib.hid hb0
 clear hx0 hx1 hd hp ht hb0
 go_wp2_with fail
 refine (DP.out X HB0.out).mono ?_
 rintro e w3 ⟨m, rfl, hm, hb3⟩
 clear y0 y1 y60 y61 y62 y63 y64 hm
 go_wp2_with fail
 go_ret
 exact ⟨rfl, HB0.out.trans (hb3.mono (by omega))⟩
mutual
theorem vars_of (V : Dt → Bool) : ∀ (d : Dt) (n : Int), d.wf → ∀ x ∈ d.vars V n, x.1.wf ∧ x.1.size ≤ d.size
 | .mk k t ms l p, n, h, x, hx => by
  rw [vars_mk] at hx
  by_cases hv : V (.mk k t ms l p) = true
  ·rw [if_pos hv, List.mem_singleton] at hx
   subst hx; exact ⟨h, Nat.le_refl _⟩
  ·rw [if_neg hv] at hx
   have hi := varss_of V l n ((wf_mk ..).1 h).2.2.1 x hx
   exact ⟨hi.1, by simp only [Dt.size]; omega⟩
theorem varss_of (V : Dt → Bool) : ∀ (l : List Dt) (n : Int), wfs l → ∀ x ∈ varss V l n, x.1.wf ∧ x.1.size ≤ Dt.sizes l
 | [], n, _, x, hx => by rw [varss] at hx; cases hx
 | d :: r, n, h, x, hx => by
  rw [varss_cons, List.mem_append] at hx
  rcases hx with hx | hx
  ·have hi := vars_of V d _ h.1 x hx
   exact ⟨hi.1, by simp only [Dt.sizes]; omega⟩
  ·have hi := varss_of V r n h.2 x hx
   exact ⟨hi.1, by simp only [Dt.sizes]; omega⟩
end
/-- The variables of a pattern, as the checker's table holds them. -/
def tabB (ls : List ByteArray) (d : Dt) : List Bd := (d.vars (isVar ls) 0).map vB
theorem tabB_of {ls : List ByteArray} {d : Dt} (h : d.wf) : (tabB ls d).length ≤ d.size ∧ ∀ b ∈ tabB ls d, b.name.wf ∧ b.name.size ≤ d.size := by
 refine ⟨by unfold tabB; rw [List.length_map]; exact vars_len _ d 0, fun b hb => ?_⟩
 obtain ⟨x, hx, rfl⟩ := List.mem_map.1 hb
 exact vars_of _ d 0 h x hx
/-- A step that keeps the blocks of data and of bound rows. -/
def KeepsT (S : Nat → Prop) (w w' : World) : Prop := ∀ g c T fz, S g → w.heap[g]? = some (.cells c T fz) → (T = 29 ∨ T = 3 ∨ T = 60) → ∃ fz', w'.heap[g]? = some (.cells c T fz')
theorem KeepsT.keeps {S : Nat → Prop} {w w' : World} (h : KeepsT S w w') : Keeps S w w' := fun g c T fz hs hg hT => h g c T fz hs hg (by rcases hT with h | h; exact .inl h; exact .inr (.inl h))
theorem KeepsT.of_cells {S : Nat → Prop} {w w' : World} {b : Nat} {c0 : Array Value} {T0 : TypeId} {fz0 : Nat × Nat} (hg : w.grownBy w' (some b)) (hb : w.heap[b]? = some (.cells c0 T0 fz0)) (h1 : T0 ≠ 29) (h2 : T0 ≠ 3) (h3 : T0 ≠ 60) : KeepsT S w w' := fun g c T fz hs h hT =>
 ⟨fz, (hg.block g (Array.getElem?_eq_some_iff.1 h).1 (fun e => by injection e with e; subst e; rw [hb] at h; injection h with h; injection h with _ h _; subst h; rcases hT with h | h | h <;> contradiction)).trans h⟩
mutual
theorem Bd.PAt.keepsT {S : Nat → Prop} {w w' : World} (k : KeepsT S w w') : ∀ (b : Bd) (cs : Array Value), Bd.PAt S w b cs → Bd.PAt S w' b cs
 | .mk n q d l, cs, h => by
  rw [BdPAt_mk] at h ⊢
  obtain ⟨m1, l1, m2, l2, lv, e, hn, hd, hl⟩ := h
  refine ⟨m1, l1, m2, l2, lv, e, hn.keeps k.keeps, hd.keeps k.keeps, ?_⟩
  rcases hl with hl | ⟨g, o, cap, arr, fz, h1, h2, h3, h4⟩
  ·exact .inl hl
  ·obtain ⟨fz', h5⟩ := k g arr 60 fz h2 h3 (.inr (.inr rfl))
   exact .inr ⟨g, o, cap, arr, fz', h1, h2, h5, Bds.PAt.keepsT k l arr o h4⟩
theorem Bds.PAt.keepsT {S : Nat → Prop} {w w' : World} (k : KeepsT S w w') : ∀ (l : List Bd) (arr : Array Value) (o : Nat), Bds.PAt S w l arr o → Bds.PAt S w' l arr o
 | [], _, _, _ => by unfold Bds.PAt; trivial
 | b :: l, arr, o, h => by
  unfold Bds.PAt at h ⊢
  obtain ⟨⟨cs, hc, hd⟩, hr⟩ := h
  exact ⟨⟨cs, hc, Bd.PAt.keepsT k b cs hd⟩, Bds.PAt.keepsT k l arr (o + 12) hr⟩
end
theorem PsAt.keepsT {S : Nat → Prop} {w w' : World} {lv : Value} {l : List Bd} (h : PsAt S w lv l) (k : KeepsT S w w') : PsAt S w' lv l := by
 rcases h with h | ⟨g, o, cap, arr, fz, h1, h2, h3, h4⟩
 ·exact .inl h
 ·obtain ⟨fz', h5⟩ := k g arr 60 fz h2 h3 (.inr (.inr rfl))
  exact .inr ⟨g, o, cap, arr, fz', h1, h2, h5, Bds.PAt.keepsT k l arr o h4⟩
theorem OwnPI.nil (S : Nat → Prop) (B : Nat) (w : World) : OwnPI S B w (.slice none 0 0) [] := ⟨[], ⟨rfl, .inl ⟨rfl, rfl⟩⟩, fun j h => absurd h (by simp)⟩
theorem OwnPI.atlow {B B' : Nat} {w : World} {v : Value} {bs : List Bd} (h : OwnPI (fun g => g < B) B' w v bs) (hB : B ≤ w.heap.size) : PsAt (fun g => g < w.heap.size) w v bs :=
 h.at.mono fun g hg => hg.elim (fun h => by have : g < B := h; show g < _; omega) (fun e => (h.low g e).2)
theorem Below.of_grown_none {w w' : World} (h : w.grownBy w' none) : Below w.heap.size w w' := ⟨h.os, h.tape, h.output, h.size, fun k hk => h.block k hk (by simp)⟩
theorem TBNE {w : World} {base b x : Nat} {ks : List Value} (h : TbAt w base b ks) {c : Array Value} {T : TypeId} {fz : Nat × Nat} (hx : w.heap[x]? = some (.cells c T fz)) : x ≠ b := fun e => by
 subst e; obtain ⟨es, ck, e2, _⟩ := h; rw [hx] at e2; cases e2
end Go.Proofs.Ytecljchifebljaa
