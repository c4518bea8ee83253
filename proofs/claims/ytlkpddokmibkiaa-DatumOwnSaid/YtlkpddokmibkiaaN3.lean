/- bare: has a datum no marks? -/
import Derived.Test.YtlkpddokmibkiaaN2
import Derived.Test.YtlkpddokmibkiaaS1
import Derived.Test.YtlkpddokmibkiaaY0
namespace Go.Proofs.Ytlkpddokmibkiaa
open Go.RowKit
set_option linter.unusedVariables false
set_option linter.unusedSimpArgs false

theorem bares_all : ∀ (l : List Dt), (∀ j (h : j < l.length), l[j].bare = true) → Dt.bares l = true
  | [], _ => by simp [Dt.bares]
  | d :: l, h => by
    have h0 : d.bare = true := h 0 (by simp)
    have := bares_all l (fun j hj => by have := h (j + 1) (by simpa using hj); simpa using this)
    simp [Dt.bares, h0, this]
theorem bares_get : ∀ (l : List Dt) (j : Nat) (h : j < l.length), l[j].bare = false → Dt.bares l = false
  | [], j, h, _ => by simp at h
  | d :: l, 0, _, h => by
    have h' : d.bare = false := h
    simp [Dt.bares, h']
  | d :: l, j + 1, hl, h => by
    have := bares_get l j (by simpa using hl) (by simpa using h)
    simp [Dt.bares, this]
def BInv (l : List Dt) (w : World) (iv : Value) (wr : World) : Prop := ∃ j : Nat, j ≤ l.length ∧ iv = .int .i64 j ∧ (∀ i (h : i < l.length), i < j → l[i].bare = true) ∧ Below w.heap.size w wr

set_option maxHeartbeats 4000000 in
theorem bare_any (n : Nat) : n ≤ 1000000 → ∀ (d : Dt), d.size ≤ n → ∀ (S : Nat → Prop) (cs : Array Value) (w : World), Dt.At S w d cs → Calls Try.prog 28 #[.agg cs] w (RetBool d.bare w) := by
  induction n with
  | zero => intro _ d hd; cases d; simp [Dt.size] at hd
  | succ n ih0 =>
    intro hn d hd S cs w hat
    have IH := Lib.hid (ih0 (by omega))
    obtain ⟨k, t, ms, l, p⟩ := d
    rw [At_mk] at hat
    obtain ⟨mv, lv, rfl, hm, hl⟩ := hat
    have hsz : Dt.sizes l ≤ n := by simp only [Dt.size] at hd; omega
    have hll := length_sizes l
    have o1 := hm.one
    have o2 := hl.one
    obtain ⟨mo, mc, rfl⟩ := hm.form
    obtain ⟨ao, cap, rfl⟩ := hl.form
    have hms := hm.short
    have B1 := (Below.refl w.heap.size w).alloc (Nat.le_refl _) (.cells #[.int .i64 k, .string t, .slice mo ms.length mc, .slice ao l.length cap, .int .i64 p] 28)
    have HB := Lib.hid B1
    have L1 := Lib.hid (hl.keeps (Keeps.of_below B1))
    have hsw : w.heap.size < (w.alloc (.cells #[.int .i64 k, .string t, .slice mo ms.length mc, .slice ao l.length cap, .int .i64 p] 28)).heap.size := by simp
    have A0 := alloc_at w (.cells #[.int .i64 k, .string t, .slice mo ms.length mc, .slice ao l.length cap, .int .i64 p] 28)
    have CA : Hid ((w.alloc (.cells #[.int .i64 k, .string t, .slice mo ms.length mc, .slice ao l.length cap, .int .i64 p] 28)).cell? ⟨w.heap.size, 3, none⟩ = some (.slice ao l.length cap)) := by show _ = _; rw [Lib.cell_of_heap A0]; rfl
    have CM : Hid ((w.alloc (.cells #[.int .i64 k, .string t, .slice mo ms.length mc, .slice ao l.length cap, .int .i64 p] 28)).cell? ⟨w.heap.size, 2, none⟩ = some (.slice mo ms.length mc)) := by show _ = _; rw [Lib.cell_of_heap A0]; rfl
    clear hm hl B1 A0 hd ih0
    by_cases hb : ms = []
    · have hbe : (Dt.mk k t ms l p).bare = Dt.bares l := by subst hb; simp [Dt.bare]
      have hm0 : ms.length = 0 := by rw [hb]; rfl
      have q0 : ¬ 0 < ms.length := by omega
      rw [hbe]
      clear hb hbe hm0
      go_enter Try.func28, Try.ntmps28
      obtain ⟨W1, hW1⟩ : ∃ W1, W1 = w.alloc (.cells #[.int .i64 k, .string t, .slice mo ms.length mc, .slice ao l.length cap, .int .i64 p] 28) := ⟨_, rfl⟩
      rw [← hW1] at HB L1 hsw CA CM
      have cm := CM.out
      rw [hW1] at cm
      go_wp2_with fail
      rw [← hW1]
      clear cm q0
      go_loopw [3] (fun iv wr => BInv l W1 iv wr) (fun iv _ => l.length - (intOf iv).toNat)
      case atStart => exact ⟨0, Nat.zero_le _, rfl, fun i _ h => absurd h (by omega), Below.refl _ _⟩
      case round =>
        obtain ⟨j, hj, rfl, hsm, hbw⟩ := hrel
        have HM := Lib.hid hsm
        have HBw := Lib.hid hbw
        have hsr := hbw.size
        have cA := (hbw.cell (p := ⟨w.heap.size, 3, none⟩) (by show w.heap.size < _; omega)).trans CA.out
        clear hsm hbw
        by_cases hlt : j < l.length
        · have q1 : decide ((j : Int) < (l.length : Int)) = true := decide_eq_true (by omega)
          obtain ⟨g, o, k5, t5, mv5, lv5, p5, rfl, hS, -, hat, e0, e1, e2, e3, e4, o5, o6⟩ := (L1.out.keeps (Keeps.of_below HBw.out)).get j hlt
          have hsj := size_get l j hlt
          have HX' := IH.out l[j] (by omega) S _ wr hat
          obtain ⟨r, hr⟩ : ∃ r, l[j].bare = r := ⟨_, rfl⟩
          rw [hr] at HX'
          have HX := Lib.hid HX'
          have HRR := Lib.hid hr
          clear HX' hr hat hS IH
          go_wp2_with fail
          refine HX.out.mono ?_
          rintro e w7 ⟨rfl, hb7⟩
          have HN := Lib.hid (HBw.out.trans (hb7.mono HBw.out.size))
          clear hb7 e0 e1 e2 e3 e4
          cases r with
          | false =>
            have HF : Hid (Dt.bares l = false) := bares_get l j hlt HRR.out
            go_wp2_with fail
            go_ret
            exact ⟨by rw [HF.out]; rfl, HB.out.trans (HN.out.mono HB.out.size)⟩
          | true =>
            have HQ : Hid (BInv l W1 (.int .i64 ((j : Int) + 1)) w7) := ⟨j + 1, by omega, by go_num, fun i h1 h2 => by
              by_cases hij : i = j
              · subst hij; exact HRR.out
              · exact HM.out i h1 (by omega), HN.out⟩
            go_wp2_with fail
            go_roundw
            case rel => exact HQ.out
            case measure => simp [intOf]; omega
        · obtain rfl : j = l.length := by omega
          have q1 : decide ((l.length : Int) < (l.length : Int)) = false := decide_eq_false (by omega)
          have HF : Hid (Dt.bares l = true) := bares_all l (fun i h1 => HM.out i h1 h1)
          go_wp2_with fail
          go_ret
          exact ⟨by rw [HF.out]; rfl, HB.out.trans (HBw.out.mono HB.out.size)⟩
    · have hbe : (Dt.mk k t ms l p).bare = false := by
        cases ms with
        | nil => exact absurd rfl hb
        | cons a b => simp [Dt.bare]
      have hm0 : 0 < ms.length := List.length_pos_iff.2 hb
      have q0 : 0 < ms.length := by omega
      rw [hbe]
      clear hb hbe
      have cm := CM.out
      go_enter Try.func28, Try.ntmps28
      go_wp2_with fail
      go_ret
      exact ⟨rfl, HB.out⟩
end Go.Proofs.Ytlkpddokmibkiaa
