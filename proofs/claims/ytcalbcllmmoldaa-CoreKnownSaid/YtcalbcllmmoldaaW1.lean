/- The contract of the writer's put: texts, one behind the other. -/
import Derived.Test.YtcalbcllmmoldaaB2
import Derived.Deep.Cut
namespace Go.Proofs.Ytcalbcllmmoldaa
open Go.RowKit
set_option linter.unusedVariables false
set_option linter.unusedSimpArgs false
theorem Keeps.of_fr {S : Nat → Prop} {B b : Nat} {l : List UInt8} {w w' : World} (hW : Wr B b l w) (h : Fr B b w w') : Keeps S w w' := by
  intro g c T fz _ hg hT
  have hne : g ≠ b := by
    rintro rfl
    rcases hW with hx | hx <;> (obtain ⟨_, v, hb, _⟩ := hx; rw [hb] at hg; simp only [Option.some.injEq, Obj.cells.injEq] at hg; obtain ⟨_, rfl, _⟩ := hg; rcases hT with h | h <;> cases h)
  exact ⟨fz, h.keep hg (by rcases hT with rfl | rfl <;> decide) hne⟩
/-- Texts, one behind the other. -/
def cat (ts : List ByteArray) : List UInt8 := ts.flatMap fun s => s.data.toList
theorem cat_snoc (l : List ByteArray) (x : ByteArray) : cat (l ++ [x]) = cat l ++ x.data.toList := by simp [cat]
theorem cat_take (ts : List ByteArray) (j : Nat) (h : j < ts.length) : cat (ts.take (j + 1)) = cat (ts.take j) ++ ts[j].data.toList := by
  rw [List.take_succ_eq_append_getElem h, cat_snoc]
theorem cat_le (ts : List ByteArray) (j : Nat) : (cat (ts.take j)).length ≤ (cat ts).length := by
  have : cat ts = cat (ts.take j) ++ cat (ts.drop j) := by unfold cat; rw [← List.flatMap_append, List.take_append_drop]
  rw [this, List.length_append]; omega
def PutInv (B b : Nat) (l : List UInt8) (ts : List ByteArray) (w : World) (iv : Value) (wr : World) : Prop :=
  ∃ j : Nat, j ≤ ts.length ∧ iv = .int .i64 (j : Int) ∧ Wr B b (l ++ cat (ts.take j)) wr ∧ Fr B b w wr
/-- What was written stands behind what was there. -/
def RetPut (B b : Nat) (l : List UInt8) (w : World) (e : Ending) (w' : World) : Prop := e = .returned (.tuple #[]) ∧ Wr B b l w' ∧ Fr B b w w'
set_option maxHeartbeats 4000000 in
set_option maxRecDepth 100000 in
theorem put_any (B b : Nat) (l : List UInt8) (ts : List ByteArray) (S : Nat → Prop) (tv : Value) (w : World) (hts : NAt S w tv ts) (hW : Wr B b l w) (hlen : l.length + (cat ts).length ≤ 1000000000) (hn : ts.length ≤ 1000) (hBw : B ≤ w.heap.size) :
    Calls Try.prog 56 #[.pointer (some ⟨b, 0, none⟩), tv] w (RetPut B b (l ++ cat ts) w) := by
  obtain ⟨ao, cap, rfl⟩ := hts.form
  have HT := Lib.hid hts
  have H0 := Lib.hid hW
  have HL := Lib.hid hlen
  clear hts hW hlen
  go_enter Try.func56, Try.ntmps56
  go_wp2_with fail
  go_loopw [8] (fun iv wr => PutInv B b l ts w iv wr) (fun iv _ => ts.length - (intOf iv).toNat)
  case atStart => exact ⟨0, Nat.zero_le _, rfl, by simpa [cat] using H0.out, Fr.refl _ _ _⟩
  case round =>
    obtain ⟨j, hj, rfl, hWj, hFj⟩ := hrel
    have G1 := Lib.hid hWj
    have G2 := Lib.hid hFj
    have G3 := Lib.hid (HT.out.keeps (Keeps.of_fr H0.out hFj))
    have hBr : B ≤ wr.heap.size := by have h1 := hFj.1.size; omega
    clear hWj hFj
    by_cases hlt : j < ts.length
    · have q1 : decide ((j : Int) < (ts.length : Int)) = true := decide_eq_true (by omega)
      obtain ⟨g, o, rfl, hS, e0⟩ := G3.out.get j hlt
      obtain ⟨x, hx⟩ : ∃ x, ts[j] = x := ⟨_, rfl⟩
      have htk := cat_take ts j hlt
      have hle := cat_le ts (j + 1)
      rw [htk, List.length_append] at hle
      rw [hx] at e0 htk hle
      have HC := Lib.hid (wstring B b (l ++ cat (ts.take j)) x wr G1.out (by have h1 := HL.out; have h2 : x.size = x.data.toList.length := Lib.size_eq x; rw [List.length_append]; omega) hBr)
      have HTK := Lib.hid htk
      clear hx hS htk hle
      go_wp2_with fail
      refine HC.out.mono ?_
      rintro e w1 ⟨⟨n, rfl⟩, hW1, hF1⟩
      have K1 : Hid (Wr B b (l ++ cat (ts.take (j + 1))) w1) := by show _; rw [HTK.out, ← List.append_assoc]; exact hW1
      have K2 := Lib.hid (G2.out.trans hF1)
      clear hW1 hF1
      go_wp2_with fail
      go_roundw
      case rel => exact ⟨j + 1, by omega, by go_num, K1.out, K2.out⟩
      case measure => simp [intOf]; omega
    · have q1 : decide ((j : Int) < (ts.length : Int)) = false := decide_eq_false (by omega)
      have hjn : j = ts.length := by omega
      have K1 : Hid (Wr B b (l ++ cat ts) wr) := by show _; have := G1.out; rw [hjn, List.take_length] at this; exact this
      clear hjn
      go_wp2_with fail
      go_end0
      exact ⟨rfl, K1.out, G2.out⟩
theorem NAt.lits (w : World) (ts : List ByteArray) : NAt (fun g => w.heap.size ≤ g) (w.alloc (.cells (tcells ts) 9)) (.slice (some ⟨w.heap.size, 0, none⟩) ts.length ts.length) ts :=
  .inr ⟨w.heap.size, 0, ts.length, tcells ts, (0, 0), rfl, Nat.le_refl _, alloc_at _ _, fun j hj => by rw [Nat.zero_add]; exact tcells_at ts j hj, Nat.le_refl _⟩
end Go.Proofs.Ytcalbcllmmoldaa
