/- The contracts of both Size. -/
import Derived.Test.YtmcgocbkjdacaaaDoorZA
import Derived.Deep.Cut
namespace Go.Proofs.YtmcgocbkjdacaaaDoor
open Go.RowKit
set_option linter.unusedVariables false
set_option linter.unusedSimpArgs false
/-- The loop of Size. -/
def SInv (l : List Et) (w : World) (sv iv : Value) (wr : World) : Prop :=
  ∃ j : Nat, j ≤ l.length ∧ iv = .int .i64 j ∧ sv = .int .i64 ((1 + Et.sizes (l.take j) : Nat) : Int) ∧ Below w.heap.size w wr

set_option maxHeartbeats 4000000 in
set_option maxRecDepth 100000 in
theorem refsize_any (n : Nat) : n ≤ 100000 → ∀ (d : Et), d.size ≤ n → ∀ (S : Nat → Prop) (cs : Array Value) (w : World), Et.At S w d cs →
    Calls Tryd.prog 23 #[.agg cs] w (RetInt (d.size : Int) w) := by
  induction n with
  | zero => intro _ d hd; cases d; simp [Et.size] at hd
  | succ n ih0 =>
    intro hn d hd S cs w hat
    have IH := Lib.hid (ih0 (by omega))
    clear ih0
    obtain ⟨k, t, ns, lst⟩ := d
    rw [EAt_mk] at hat
    obtain ⟨mv, lv, rfl, hm, hl⟩ := hat
    have hsz : Et.sizes lst ≤ n := by simp only [Et.size] at hd; omega
    have hln := length_esizes lst
    have hm1 := hm.one
    have hl1 := hl.one
    have HB := Lib.hid ((Below.refl w.heap.size w).alloc (Nat.le_refl _) (.cells #[.int .i64 k, .string t, mv, lv] 28))
    have HL := Lib.hid (hl.keeps (Keeps.of_below HB.out))
    have hds : (Et.mk k t ns lst).size = 1 + Et.sizes lst := by simp [Et.size]
    rw [hds]
    clear hm hd hds
    obtain ⟨ao, cap, rfl⟩ := hl.form
    clear hl
    have CA : Hid ((w.alloc (.cells #[.int .i64 k, .string t, mv, .slice ao lst.length cap] 28)).cell? ⟨w.heap.size, 3, none⟩ = some (.slice ao lst.length cap)) := by show _ = _; rw [Lib.cell_of_heap (alloc_at w _)]; rfl
    have hsw : w.heap.size < (w.alloc (.cells #[.int .i64 k, .string t, mv, .slice ao lst.length cap] 28)).heap.size := by simp
    go_enter Tryd.func23, Tryd.ntmps23
    go_wp2_with fail
    generalize w.alloc (.cells #[.int .i64 k, .string t, mv, .slice ao lst.length cap] 28) = W at HB HL CA hsw ⊢
    go_loopw [3, 4] (fun sv iv wr => SInv lst W sv iv wr) (fun _ iv _ => lst.length - (intOf iv).toNat)
    case atStart => exact ⟨0, Nat.zero_le _, rfl, by simp [Et.sizes], Below.refl _ _⟩
    case round =>
      obtain ⟨j, hj, rfl, rfl, hb⟩ := hrel
      have G2 := Lib.hid hb
      have G3 := Lib.hid (HL.out.keeps (Keeps.of_below hb))
      have hBr : W.heap.size ≤ wr.heap.size := hb.size
      have hle := esizes_take_le lst j
      have cA := (hb.cell (p := ⟨w.heap.size, 3, none⟩) (by show w.heap.size < _; omega)).trans CA.out
      clear hb
      by_cases hlt : j < lst.length
      · have q1 : decide ((j : Int) < (lst.length : Int)) = true := decide_eq_true (by omega)
        obtain ⟨g, o, k', t', mv', lv', rfl, hS, -, hat, e0, e1, e2, e3, o1, o2⟩ := G3.out.get j hlt
        have hsj := esize_get lst j hlt
        have hst := esizes_take lst j hlt
        have hle2 := esizes_take_le lst (j + 1)
        have hle3 : Et.sizes (lst.take j) + lst[j].size ≤ Et.sizes lst := by omega
        have HST := Lib.hid hst
        clear hst hle2
        obtain ⟨sj, hsj'⟩ : ∃ s, s = lst[j].size := ⟨_, rfl⟩
        obtain ⟨st, hst'⟩ : ∃ s, s = Et.sizes (lst.take j) := ⟨_, rfl⟩
        have HC := Lib.hid (IH.out lst[j] (by omega) S _ wr hat)
        rw [← hsj', ← hst'] at hle3
        rw [← hsj'] at HC hsj
        rw [← hst'] at hle ⊢
        have HSJ := Lib.hid hsj'
        have HST2 := Lib.hid hst'
        clear hsj' hst' hat hS
        go_wp2_with fail
        refine HC.out.mono ?_
        rintro e w4 ⟨rfl, hb4⟩
        have HN := Lib.hid (show SInv lst W (.int .i64 (1 + (st : Int) + (sj : Int))) (.int .i64 ((j : Int) + 1)) w4 from ⟨j + 1, by omega, by go_num, by rw [HST.out, ← HSJ.out, ← HST2.out]; congr 1; omega, G2.out.trans (hb4.mono hBr)⟩)
        clear hb4 e0 e1 e2 e3
        go_wp2_with fail
        go_roundw
        case rel => exact HN.out
        case measure => simp [intOf]; omega
      · obtain rfl : j = lst.length := by omega
        have q1 : decide ((lst.length : Int) < (lst.length : Int)) = false := decide_eq_false (by omega)
        have hend : Et.sizes (lst.take lst.length) = Et.sizes lst := by rw [List.take_length]
        rw [hend] at hle ⊢
        clear hend hlt
        have H1 := Lib.hid (HB.out.trans (G2.out.mono HB.out.size))
        obtain ⟨st, hst'⟩ : ∃ s, s = Et.sizes lst := ⟨_, rfl⟩
        rw [← hst']
        have HST2 := Lib.hid hst'
        clear hst'
        go_wp2_with fail
        go_ret
        exact ⟨by rw [← HST2.out]; rfl, H1.out⟩

end Go.Proofs.YtmcgocbkjdacaaaDoor
