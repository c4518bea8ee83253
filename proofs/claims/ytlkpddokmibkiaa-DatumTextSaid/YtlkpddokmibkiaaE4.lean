/- The contract of Same, at any two data. -/
import Derived.Test.YtlkpddokmibkiaaE3
namespace Go.Proofs.Ytlkpddokmibkiaa
open Go.RowKit
set_option linter.unusedVariables false
set_option linter.unusedSimpArgs false

theorem same_mk (k k' : Int) (t t' : ByteArray) (ms ms' : List Int) (l l' : List Dt) (p p' : Int) :
    Dt.same (.mk k t ms l p) (.mk k' t' ms' l' p') = ((k == k') && ((t.toList == t'.toList) && ((ms == ms') && Dt.sames l l'))) := by simp [Dt.same]

set_option maxHeartbeats 4000000 in
theorem same_any (n : Nat) : n ≤ 1000000000 → SameOk n := by
  induction n with
  | zero => intro _ d e hd; cases d; simp [Dt.size] at hd
  | succ n ih0 =>
    intro hn d e hd S T cs ds w hat hat2
    have IH := Lib.hid (ih0 (by omega))
    obtain ⟨k, t, ms, l, p⟩ := d
    obtain ⟨k', t', ms', l', p'⟩ := e
    rw [At_mk] at hat hat2
    obtain ⟨mv, lv, rfl, hm, hl⟩ := hat
    obtain ⟨mv', lv', rfl, hm', hl'⟩ := hat2
    have hsz : Dt.sizes l ≤ n := by simp only [Dt.size] at hd; omega
    rw [same_mk]
    have o1 := hm.one
    have o2 := hl.one
    have o3 := hm'.one
    have o4 := hl'.one
    have HB := Lib.hid (((Below.refl w.heap.size w).alloc (Nat.le_refl _) (.cells #[.int .i64 k, .string t, mv, lv, .int .i64 p] 28)).alloc (by simp) (.cells #[.int .i64 k', .string t', mv', lv', .int .i64 p'] 28))
    have B0 := Keeps.of_below (S := S) HB.out
    have B1 := Keeps.of_below (S := T) HB.out
    have M1 := Lib.hid (hm.keeps B0)
    have M2 := Lib.hid (hm'.keeps B1)
    have L1 := Lib.hid (hl.keeps B0)
    have L2 := Lib.hid (hl'.keeps B1)
    clear ih0 hm hl hm' hl' hd B0 B1
    by_cases b1 : (k == k') = true
    · rw [b1]
      by_cases b2 : (t.toList == t'.toList) = true
      · rw [b2]
        have HE := fun w m1 m2 => equal_any S T mv mv' ms ms' w m1 m2
        by_cases b3 : (ms == ms') = true
        · rw [b3] at HE ⊢
          have HE := Lib.hid HE
          have HF := Lib.hid (fun w h1 h2 => equalFunc_any n IH.out S T lv lv' l l' w h1 h2 hsz (by omega))
          obtain ⟨r, hr⟩ : ∃ r, r = Dt.sames l l' := ⟨_, rfl⟩
          rw [← hr] at HF ⊢
          clear hr b3
          go_enter Try.func19, Try.ntmps19
          go_wp2_with fail
          refine (HE.out _ M1.out M2.out).mono ?_
          rintro e w1 ⟨rfl, hb⟩
          have K1 := Lib.hid (HB.out.trans (hb.mono HB.out.size))
          have K2 := Lib.hid (L1.out.keeps (Keeps.of_below hb))
          have K3 := Lib.hid (L2.out.keeps (Keeps.of_below hb))
          have hc := bcell28 hb
          clear hb
          go_wp2_with fail
          refine (HF.out _ K2.out K3.out).mono ?_
          rintro e w2 ⟨rfl, hb⟩
          have K4 := Lib.hid (K1.out.trans (hb.mono K1.out.size))
          clear hb hc
          go_wp2
          go_ret
          exact ⟨rfl, K4.out⟩
        · have b3' : (ms == ms') = false := by simpa using b3
          rw [b3'] at HE ⊢
          have HE := Lib.hid HE
          clear b3 b3'
          go_enter Try.func19, Try.ntmps19
          go_wp2_with fail
          refine (HE.out _ M1.out M2.out).mono ?_
          rintro e w1 ⟨rfl, hb⟩
          have K1 := Lib.hid (HB.out.trans (hb.mono HB.out.size))
          clear hb
          go_wp2
          go_ret
          exact ⟨rfl, K1.out⟩
      · have b2' : (t.toList == t'.toList) = false := by simpa using b2
        rw [b2']
        clear b2
        go_enter Try.func19, Try.ntmps19
        go_wp2
        go_ret
        exact ⟨rfl, HB.out⟩
    · have b1' : (k == k') = false := by simpa using b1
      rw [b1']
      clear b1
      go_enter Try.func19, Try.ntmps19
      go_wp2
      go_ret
      exact ⟨rfl, HB.out⟩
end Go.Proofs.Ytlkpddokmibkiaa
