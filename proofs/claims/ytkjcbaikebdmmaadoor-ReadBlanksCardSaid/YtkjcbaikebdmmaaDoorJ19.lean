/- known: the chapter's example is read as it must be. -/
import Derived.Test.YtkjcbaikebdmmaaDoorJ18
namespace Go.Proofs.YtkjcbaikebdmmaaDoor
open Go.RowKit
set_option linter.unusedVariables false
set_option linter.unusedSimpArgs false
theorem rd_none : rd [] 3 .next 0 ⟨0, false, []⟩ [] = some (.ok []) := by kernel_rfl
def exDt : List Dt := [.mk 4 ⟨#[]⟩ [] [.mk 3 ⟨#[97]⟩ [] [] 1, .mk 1 ⟨#[49]⟩ [] [] 3] 0]
theorem rd_ex : rd [40, 97, 32, 49, 41] 20 .next 0 ⟨0, false, []⟩ [] = some (.ok exDt) := by kernel_rfl
def RetBool (b : Bool) (w : World) (e : Ending) (w' : World) : Prop := e = .returned (.bool b) ∧ Below w.heap.size w w'
/-- A slice of data: the cells of the one at a place. -/
theorem LAt.at {S : Nat → Prop} {w : World} {g o n cap : Nat} {l : List Dt} (h : LAt S w (.slice (some ⟨g, o, none⟩) n cap) l) (j : Nat) (hj : j < l.length) : ∃ k t mv lv p, Dt.At S w l[j] #[.int .i64 k, .string t, mv, lv, .int .i64 p] ∧
      w.cell? ⟨g, o + j * 5, none⟩ = some (.int .i64 k) ∧ w.cell? ⟨g, o + j * 5 + 1, none⟩ = some (.string t) ∧ w.cell? ⟨g, o + j * 5 + 2, none⟩ = some mv ∧
      w.cell? ⟨g, o + j * 5 + 3, none⟩ = some lv ∧ w.cell? ⟨g, o + j * 5 + 4, none⟩ = some (.int .i64 p) := by
  obtain ⟨g', o', k, t, mv, lv, p, e, _, _, h1, h2, h3, h4, h5, h6, _⟩ := h.get j hj
  injection e with e
  injection e with e1 e2 _
  subst e1 e2
  exact ⟨k, t, mv, lv, p, h1, h2, h3, h4, h5, h6⟩
theorem LAt.some {S : Nat → Prop} {w : World} {v : Value} {l : List Dt} (h : LAt S w v l) (hl : l ≠ []) : ∃ g o cap, v = .slice (some ⟨g, o, none⟩) l.length cap := by
  rcases h with ⟨_, h2⟩ | ⟨g, o, cap, arr, fz, rfl, _⟩
  · exact absurd h2 hl
  · exact ⟨g, o, cap, rfl⟩
set_option maxRecDepth 100000 in
set_option maxHeartbeats 1000000 in
theorem known_any (w : World) : Calls Tryd.prog 13 #[] w (RetBool true w) := by
  have F1 := Lib.hid (fun w => read_any ⟨#[]⟩ w (by decide) _ _ rd_none)
  have F2 := Lib.hid (fun w => read_any ⟨#[40, 97, 32, 49, 41]⟩ w (by decide) _ _ rd_ex)
  go_enter Tryd.func13, Tryd.ntmps13
  go_wp2_with fail
  refine (F1.out _).mono ?_
  rintro e1 w1 ⟨hb1, v1, rfl, hv1⟩
  obtain ⟨o1, c1, rfl⟩ := hv1.form
  have B1 := Lib.hid hb1
  clear hb1 hv1
  simp only [List.length_nil]
  go_wp2_with fail
  refine (F2.out _).mono ?_
  rintro e2 w2 ⟨hb2, v2, rfl, hv2⟩
  have B2 := Lib.hid (B1.out.trans (hb2.mono B1.out.size))
  obtain ⟨g, o, cap, rfl⟩ := hv2.some (by simp [exDt])
  obtain ⟨k, t, mv, lv, p, ha, a0, a1, a2, a3, a4⟩ := hv2.at 0 (by simp [exDt])
  have ha' : Dt.At _ w2 (.mk 4 ⟨#[]⟩ [] [.mk 3 ⟨#[97]⟩ [] [] 1, .mk 1 ⟨#[49]⟩ [] [] 3] 0) _ := ha
  rw [At_mk] at ha'
  obtain ⟨mv', lv', e, hm, hl⟩ := ha'
  simp at e
  obtain ⟨_, _, _, rfl, _⟩ := e
  obtain ⟨g2, o2, cap2, rfl⟩ := hl.some (by simp)
  obtain ⟨k3, t3, mv3, lv3, p3, ha3, b0, b1, b2, b3, b4⟩ := hl.at 0 (by simp)
  have ha3' : Dt.At _ w2 (.mk 3 ⟨#[97]⟩ [] [] 1) _ := ha3
  rw [At_mk] at ha3'
  obtain ⟨mv4, lv4, e4, _, _⟩ := ha3'
  simp at e4
  obtain ⟨_, rfl, _, _, _⟩ := e4
  simp only [Nat.zero_mul, Nat.add_zero] at a3 b1
  have hl2 : exDt.length = 1 := rfl
  clear ha hm hl ha3 b0 b2 b3 b4 a0 a1 a2 a4 hv2 hb2
  simp only [hl2, List.length_cons, List.length_nil]
  go_wp2_with fail
  go_ret
  exact ⟨rfl, B2.out⟩
end Go.Proofs.YtkjcbaikebdmmaaDoor
