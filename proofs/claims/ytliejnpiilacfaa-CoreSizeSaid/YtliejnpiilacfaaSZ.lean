/- The walk of CoreSize. -/
import Derived.Test.YtliejnpiilacfaaTM4
import Derived.Test.YtliejnpiilacfaaK2
import Derived.Test.YtliejnpiilacfaaS1
namespace Go.Proofs.Ytliejnpiilacfaa
open Go.RowKit Go.BigM
set_option linter.unusedVariables false
set_option linter.unusedSimpArgs false
/-- The loop: the sum of so many parts. -/
def CzInv (l : List Et) (W : World) (sv iv : Value) (wr : World) : Prop :=
  ∃ j : Nat, j ≤ l.length ∧ iv = .int .i64 j ∧ sv = .int .i64 ((1 + Et.sizes (l.take j) : Nat) : Int) ∧ Below W.heap.size W wr
set_option maxHeartbeats 4000000 in
set_option maxRecDepth 100000 in
theorem size_walk (l : List Rw) (ao : Option Addr) (cap : Nat) (w : World) (hR : RsAt w ao l) : Calls Try.prog 8 #[.slice ao l.length cap] w (RetBool true w) := by
  have K0 := Lib.hid (fun w => known_any w)
  have HR := Lib.hid hR
  clear hR
  go_enter Try.func8, Try.ntmps8
  go_wp2_with fail
  refine (K0.out _).mono ?_
  rintro e w1 ⟨rfl, hb1⟩
  have HR1 := Lib.hid (HR.out.below hb1)
  have HB1 := Lib.hid hb1
  have HFE := Lib.hid (few_any l ao cap w1 HR1.out)
  clear hb1
  go_wp2_with fail
  refine HFE.out.mono ?_
  rintro e w2 ⟨r, rfl, hr, rfl⟩
  cases r with
  | false =>
    go_wp2_with fail
    go_ret
    exact ⟨rfl, HB1.out⟩
  | true =>
    have HT := Lib.hid (term_any l ao cap w1 HR1.out (hr rfl))
    clear hr
    go_wp2_with fail
    refine HT.out.mono ?_
    rintro e w5 ⟨cs, t, m', rfl, hat, hM, hsz, hm', hb5⟩
    obtain ⟨k0, t0, nv0, av0, rfl, o10, o20⟩ := EAt_form hat
    have z0 : (#[.int .i64 k0, .string t0, nv0, av0] : Array Value).all (·.oneCell') = true := by simp [Value.oneCell'] at o10 o20 ⊢; exact ⟨o10, o20⟩
    have HB5 := Lib.hid (HB1.out.trans (hb5.mono HB1.out.size))
    have HAT := Lib.hid (Et.At.mono (fun x _ => trivial) _ _ hat : Et.At (fun _ => True) w5 t #[.int .i64 k0, .string t0, nv0, av0])
    clear hat hM hb5 HT HFE
    go_upto_region 6 with (refine wpList_store_row rfl 28 _ _ rfl w5.heap.size #[.int .i64 k0, .string t0, nv0, av0] rfl rfl 28 Z4 (alloc_at _ _) info28 rfl z0 ?_)
    try simp only [Act.put]
    have E0 : (w5.alloc (.cells #[.int .i64 0, .string ⟨#[]⟩, .slice none 0 0, .slice none 0 0] 28)).setRow w5.heap.size #[.int .i64 k0, .string t0, nv0, av0] = w5.alloc (.cells #[.int .i64 k0, .string t0, nv0, av0] 28) := setRow_new _ _ _ _
    try rw [E0]
    clear E0
    have F0 := (Below.refl w5.heap.size w5).alloc (Nat.le_refl _) (.cells #[.int .i64 k0, .string t0, nv0, av0] 28)
    have HB6 := Lib.hid (HB5.out.trans (F0.mono HB5.out.size))
    have HA6 := Lib.hid (Et.At.keeps (Keeps.of_below F0) _ _ HAT.out)
    have HE6 : Hid (EB (w5.alloc (.cells #[.int .i64 k0, .string t0, nv0, av0] 28)) w5.heap.size k0 t0 nv0 av0) := alloc_at w5 (.cells #[.int .i64 k0, .string t0, nv0, av0] 28)
    have hz6 : w5.heap.size < (w5.alloc (.cells #[.int .i64 k0, .string t0, nv0, av0] 28)).heap.size := by simp
    generalize w5.alloc (.cells #[.int .i64 k0, .string t0, nv0, av0] 28) = W at HB6 HA6 HE6 hz6 ⊢
    clear F0 HAT
    obtain ⟨ge, hge⟩ : ∃ ge, ge = w5.heap.size := ⟨_, rfl⟩
    rw [← hge] at HE6 hz6
    simp only [← hge]
    obtain ⟨k, tt, ns, lst⟩ := t
    have hA := HA6.out
    rw [EAt_mk] at hA
    obtain ⟨mv, lv, hcs, hm, hl⟩ := hA
    obtain ⟨ao3, cap3, rfl⟩ := hl.form
    injection hcs with hcs
    have HCS := Lib.hid hcs
    simp only [List.cons.injEq] at hcs
    obtain ⟨ek, et, en, ea, -⟩ := hcs
    subst en ea
    injection ek with _ ek
    injection et with et
    subst ek et
    have hln := length_esizes lst
    have hss : Et.sizes lst ≤ 400 := by simp only [Et.size] at hsz; omega
    have HL := Lib.hid hl
    have hds : (Et.mk k0 t0 ns lst).size = 1 + Et.sizes lst := by simp [Et.size]
    have HSZ := Lib.hid (fun (w' : World) (hb : Below W.heap.size W w') => size_any 400 (by decide) _ hsz _ _ w' (Et.At.keeps (Keeps.of_below hb) _ _ HA6.out))
    rw [hds] at HSZ
    clear hl hm hge HCS hsz hds
    go_wp2_with fail
    go_loopw [4, 5] (fun sv iv wr => CzInv lst W sv iv wr) (fun _ iv _ => lst.length - (intOf iv).toNat)
    case atStart => exact ⟨0, Nat.zero_le _, rfl, by simp [Et.sizes], Below.refl _ _⟩
    case round =>
      obtain ⟨j, hj, rfl, rfl, hb⟩ := hrel
      have G2 := Lib.hid hb
      have G3 := Lib.hid (HL.out.keeps (Keeps.of_below hb))
      have hBr : W.heap.size ≤ wr.heap.size := hb.size
      have HEr : Hid (EB wr ge k0 t0 nv0 (.slice ao3 lst.length cap3)) := row_below hb HE6.out
      have c3 := (EB.cell _ _ _ _ _ _ HEr.out).2.2.2
      have hle := esizes_take_le lst j
      clear hb
      by_cases hlt : j < lst.length
      · have q1 : decide ((j : Int) < (lst.length : Int)) = true := decide_eq_true (by omega)
        obtain ⟨g, o, k', t', mv', lv', rfl, hS, -, hat, e0, e1, e2, e3, o1, o2⟩ := G3.out.get j hlt
        have hsj := esize_get lst j hlt
        have hst := esizes_take lst j hlt
        have hle2 := esizes_take_le lst (j + 1)
        have HST := Lib.hid hst
        have hle3 : Et.sizes (lst.take j) + lst[j].size ≤ Et.sizes lst := by omega
        obtain ⟨sj, hsj'⟩ : ∃ s, s = lst[j].size := ⟨_, rfl⟩
        obtain ⟨st, hst'⟩ : ∃ s, s = Et.sizes (lst.take j) := ⟨_, rfl⟩
        rw [← hsj', ← hst'] at hle3
        have HC := Lib.hid (size_any 400 (by decide) lst[j] (by omega) _ _ wr hat)
        rw [← hsj'] at HC hsj
        rw [← hst']
        have HSJ := Lib.hid hsj'
        have HSTT := Lib.hid hst'
        clear hat hst hle2 hsj' hst' hsj hle
        go_wp2_with fail
        refine HC.out.mono ?_
        rintro e w8 ⟨rfl, hb8⟩
        have HNX : Hid (CzInv lst W (.int .i64 (1 + (st : Int) + (sj : Int))) (.int .i64 ((j : Int) + 1)) w8) := ⟨j + 1, by omega, by go_num, by have := HST.out; rw [HSTT.out, HSJ.out]; congr 1; omega, G2.out.trans (hb8.mono hBr)⟩
        clear hb8 e0 e1 e2 e3 HC G3
        go_wp2_with fail
        go_roundw
        case rel => exact HNX.out
        case measure => simp [intOf]; omega
      · have q1 : decide ((j : Int) < (lst.length : Int)) = false := decide_eq_false (by omega)
        obtain rfl : j = lst.length := by omega
        have htk : Et.sizes (lst.take lst.length) = Et.sizes lst := by rw [List.take_length]
        rw [htk]
        obtain ⟨st, hst'⟩ : ∃ s, s = Et.sizes lst := ⟨_, rfl⟩
        rw [← hst'] at hss hln hle HSZ ⊢
        have HC := Lib.hid (HSZ.out wr G2.out)
        have p1 : 1 ≤ 1 + st := by omega
        have p2 : (1 : Int) ≤ ((1 + st : Nat) : Int) := by omega
        have q2 : decide ((1 : Int) ≤ ((1 + st : Nat) : Int)) = true := decide_eq_true p2
        have HBF := Lib.hid (HB6.out.trans (G2.out.mono HB6.out.size))
        clear htk hst' hle HSZ
        go_wp2_with (refine wpList_load_row rfl 28 _ rfl ge rfl 28 #[.int .i64 k0, .string t0, nv0, .slice ao3 lst.length cap3] (0, 0) _ HEr.out Try.underlying28 rfl info28 ?_)
        refine HC.out.mono ?_
        rintro e w9 ⟨rfl, hb9⟩
        have HF := Lib.hid (HBF.out.trans (hb9.mono HBF.out.size))
        clear hb9
        go_wp2_with fail
        go_ret
        exact ⟨by show Ending.returned (Value.bool (decide ((1 : Int) ≤ 1 + (st : Int)))) = _; rw [decide_eq_true (by omega)], HF.out⟩
end Go.Proofs.Ytliejnpiilacfaa
