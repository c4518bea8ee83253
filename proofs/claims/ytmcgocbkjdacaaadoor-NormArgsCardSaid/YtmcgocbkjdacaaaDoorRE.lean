/- What operations of regions that build terms leave. -/
import Derived.Test.YtmcgocbkjdacaaaDoorRI
import Derived.Test.YtmcgocbkjdacaaaDoorNK
namespace Go.Proofs.YtmcgocbkjdacaaaDoor
open Go.RowKit Go.BigM
set_option linter.unusedVariables false
set_option linter.unusedSimpArgs false
/-- A value that is a term, a row of terms, a row of names. -/
inductive Sh where
  | t (e : Et) : Sh
  | r (l : List Et) : Sh
  | n (l : List ByteArray) : Sh
def Sh.ok : Sh → Value → World → Prop
  | .t e, v, w => ∃ cs, v = .agg cs ∧ Et.At (fun _ => True) w e cs
  | .r l, v, w => AAt (fun _ => True) w v l
  | .n l, v, w => NAt (fun _ => True) w v l
theorem Sh.below {s : Sh} {v : Value} {w w' : World} (h : s.ok v w) (hb : Below w.heap.size w w') : s.ok v w' := by
  cases s with
  | t e => obtain ⟨cs, e1, h⟩ := h; exact ⟨cs, e1, Et.At.keeps (Keeps.of_below hb) _ _ h⟩
  | r l => exact AAt.keeps h (Keeps.of_below hb)
  | n l => exact NAt.keeps h (Keeps.of_below hb)
/-- Terms, one behind the other, in a block of their own. -/
theorem ets_at {S : Nat → Prop} {w : World} : ∀ (l : List (Et × Array Value)) (arr : Array Value) (o : Nat), (∀ p ∈ l, Et.At S w p.1 p.2 ∧ p.2.size = 4) → (∀ j, j < 4 * l.length → arr[o + j]? = (l.flatMap (·.2.toList))[j]?) → Ets.At S w (l.map (·.1)) arr o
  | [], _, _, _, _ => by unfold Ets.At; trivial
  | p :: l, arr, o, h, hr => by
    simp only [List.map_cons]
    unfold Ets.At
    have hp := h p (List.mem_cons_self ..)
    have h4 : p.2.toList.length = 4 := by simpa using hp.2
    refine ⟨⟨p.2, fun i hi => ?_, hp.1⟩, ets_at l arr (o + 4) (fun q hq => h q (List.mem_cons_of_mem _ hq)) (fun j hj => ?_)⟩
    · have := hr i (by simp only [List.length_cons]; omega)
      rw [this, List.flatMap_cons, List.getElem?_append_left (by omega)]
      simp
    · have := hr (4 + j) (by simp only [List.length_cons]; omega)
      rw [show o + 4 + j = o + (4 + j) by omega, this, List.flatMap_cons, List.getElem?_append_right (by omega), h4, Nat.add_sub_cancel_left]
theorem rows_at {S : Nat → Prop} {w : World} {g : Nat} (n : Nat) (hg : S g) (l : List (Et × Array Value)) (h : ∀ p ∈ l, Et.At S w p.1 p.2 ∧ p.2.size = 4) {fz : Nat × Nat} (hn : l.length = n) (hr : w.heap[g]? = some (.cells (l.flatMap (·.2.toList)).toArray 28 fz)) :
    AAt S w (.slice (some ⟨g, 0, none⟩) n n) (l.map (·.1)) := by
  subst hn
  refine .inr ⟨g, 0, l.length, _, _, by rw [List.length_map], hg, hr, ets_at l _ 0 h (fun j hj => by simp), by simp⟩
theorem size4 {S : Nat → Prop} {w : World} {e : Et} {cs : Array Value} (h : Et.At S w e cs) : cs.size = 4 := by
  obtain ⟨_, _, _, _, _, _, _, _, rfl⟩ := EAt_sl h; rfl
theorem wp_row1 {o : Oper} {a : Act} {w : World} {K : Act → World → Prop} {Q : Exit → Act → World → Prop} (x0 : Operand) (ho : o.op = .buildSlice 26 1 #[(0, x0)]) (e0 : Et)
    (h0 : (Sh.t e0).ok (a.eval x0) w) (h : ∀ v w2, Below w.heap.size w w2 → (Sh.r [e0]).ok v w2 → K (a.put o.dst v) w2) : Oper.wp Tryd.prog o a w K Q := by
  obtain ⟨c0, q0, h0⟩ := h0
  obtain ⟨k0, t0, no0, nn0, nc0, ao0, an0, ac0, rfl⟩ := EAt_sl h0
  have hr : ∀ ev : Operand → Value, ev x0 = .agg #[.int .i64 k0, .string t0, .slice no0 nn0 nc0, .slice ao0 an0 ac0] → (execOp ev o).run Tryd.prog w = .ok (.value (.slice (some ⟨w.heap.size, 0, none⟩) 1 1)) (w.alloc (.cells #[.int .i64 k0, .string t0, .slice no0 nn0 nc0, .slice ao0 an0 ac0] 28)) := by
    intro ev q0
    obtain ⟨i, hi, hz, hs, hby⟩ := info_parts infoD
    unfold execOp
    simp only [ho]
    simp [Instr.buildSlice, run_underlying Tryd.underlying26, sizeOf, typeInfo, zeroValue, Instr.fill, newRow, go_sem, hi, hz, hs, q0]
  unfold Oper.wp
  rw [hr a.eval q0, Oper.upon_value]
  have hb := (Below.refl w.heap.size w).alloc (Nat.le_refl _) (.cells #[.int .i64 k0, .string t0, .slice no0 nn0 nc0, .slice ao0 an0 ac0] 28)
  refine h _ _ hb ?_
  exact rows_at (S := fun _ => True) (g := w.heap.size) 1 trivial [(e0, #[.int .i64 k0, .string t0, .slice no0 nn0 nc0, .slice ao0 an0 ac0])] (by
    intro p hp
    simp only [List.mem_cons, List.not_mem_nil, or_false] at hp
    rcases hp with rfl
    exact ⟨Et.At.keeps (Keeps.of_below hb) _ _ h0, rfl⟩) (fz := (0, 0)) rfl (alloc_at w _)
theorem wp_row2 {o : Oper} {a : Act} {w : World} {K : Act → World → Prop} {Q : Exit → Act → World → Prop} (x0 x1 : Operand) (ho : o.op = .buildSlice 26 2 #[(0, x0), (1, x1)]) (e0 e1 : Et)
    (h0 : (Sh.t e0).ok (a.eval x0) w) (h1 : (Sh.t e1).ok (a.eval x1) w) (h : ∀ v w2, Below w.heap.size w w2 → (Sh.r [e0, e1]).ok v w2 → K (a.put o.dst v) w2) : Oper.wp Tryd.prog o a w K Q := by
  obtain ⟨c0, q0, h0⟩ := h0
  obtain ⟨k0, t0, no0, nn0, nc0, ao0, an0, ac0, rfl⟩ := EAt_sl h0
  obtain ⟨c1, q1, h1⟩ := h1
  obtain ⟨k1, t1, no1, nn1, nc1, ao1, an1, ac1, rfl⟩ := EAt_sl h1
  have hr : ∀ ev : Operand → Value, ev x0 = .agg #[.int .i64 k0, .string t0, .slice no0 nn0 nc0, .slice ao0 an0 ac0] → ev x1 = .agg #[.int .i64 k1, .string t1, .slice no1 nn1 nc1, .slice ao1 an1 ac1] → (execOp ev o).run Tryd.prog w = .ok (.value (.slice (some ⟨w.heap.size, 0, none⟩) 2 2)) (w.alloc (.cells #[.int .i64 k0, .string t0, .slice no0 nn0 nc0, .slice ao0 an0 ac0, .int .i64 k1, .string t1, .slice no1 nn1 nc1, .slice ao1 an1 ac1] 28)) := by
    intro ev q0 q1
    obtain ⟨i, hi, hz, hs, hby⟩ := info_parts infoD
    unfold execOp
    simp only [ho]
    simp [Instr.buildSlice, run_underlying Tryd.underlying26, sizeOf, typeInfo, zeroValue, Instr.fill, newRow, go_sem, hi, hz, hs, q0, q1]
  unfold Oper.wp
  rw [hr a.eval q0 q1, Oper.upon_value]
  have hb := (Below.refl w.heap.size w).alloc (Nat.le_refl _) (.cells #[.int .i64 k0, .string t0, .slice no0 nn0 nc0, .slice ao0 an0 ac0, .int .i64 k1, .string t1, .slice no1 nn1 nc1, .slice ao1 an1 ac1] 28)
  refine h _ _ hb ?_
  exact rows_at (S := fun _ => True) (g := w.heap.size) 2 trivial [(e0, #[.int .i64 k0, .string t0, .slice no0 nn0 nc0, .slice ao0 an0 ac0]), (e1, #[.int .i64 k1, .string t1, .slice no1 nn1 nc1, .slice ao1 an1 ac1])] (by
    intro p hp
    simp only [List.mem_cons, List.not_mem_nil, or_false] at hp
    rcases hp with rfl | rfl
    · exact ⟨Et.At.keeps (Keeps.of_below hb) _ _ h0, rfl⟩
    · exact ⟨Et.At.keeps (Keeps.of_below hb) _ _ h1, rfl⟩) (fz := (0, 0)) rfl (alloc_at w _)
theorem wp_row3 {o : Oper} {a : Act} {w : World} {K : Act → World → Prop} {Q : Exit → Act → World → Prop} (x0 x1 x2 : Operand) (ho : o.op = .buildSlice 26 3 #[(0, x0), (1, x1), (2, x2)]) (e0 e1 e2 : Et)
    (h0 : (Sh.t e0).ok (a.eval x0) w) (h1 : (Sh.t e1).ok (a.eval x1) w) (h2 : (Sh.t e2).ok (a.eval x2) w) (h : ∀ v w2, Below w.heap.size w w2 → (Sh.r [e0, e1, e2]).ok v w2 → K (a.put o.dst v) w2) : Oper.wp Tryd.prog o a w K Q := by
  obtain ⟨c0, q0, h0⟩ := h0
  obtain ⟨k0, t0, no0, nn0, nc0, ao0, an0, ac0, rfl⟩ := EAt_sl h0
  obtain ⟨c1, q1, h1⟩ := h1
  obtain ⟨k1, t1, no1, nn1, nc1, ao1, an1, ac1, rfl⟩ := EAt_sl h1
  obtain ⟨c2, q2, h2⟩ := h2
  obtain ⟨k2, t2, no2, nn2, nc2, ao2, an2, ac2, rfl⟩ := EAt_sl h2
  have hr : ∀ ev : Operand → Value, ev x0 = .agg #[.int .i64 k0, .string t0, .slice no0 nn0 nc0, .slice ao0 an0 ac0] → ev x1 = .agg #[.int .i64 k1, .string t1, .slice no1 nn1 nc1, .slice ao1 an1 ac1] → ev x2 = .agg #[.int .i64 k2, .string t2, .slice no2 nn2 nc2, .slice ao2 an2 ac2] → (execOp ev o).run Tryd.prog w = .ok (.value (.slice (some ⟨w.heap.size, 0, none⟩) 3 3)) (w.alloc (.cells #[.int .i64 k0, .string t0, .slice no0 nn0 nc0, .slice ao0 an0 ac0, .int .i64 k1, .string t1, .slice no1 nn1 nc1, .slice ao1 an1 ac1, .int .i64 k2, .string t2, .slice no2 nn2 nc2, .slice ao2 an2 ac2] 28)) := by
    intro ev q0 q1 q2
    obtain ⟨i, hi, hz, hs, hby⟩ := info_parts infoD
    unfold execOp
    simp only [ho]
    simp [Instr.buildSlice, run_underlying Tryd.underlying26, sizeOf, typeInfo, zeroValue, Instr.fill, newRow, go_sem, hi, hz, hs, q0, q1, q2]
  unfold Oper.wp
  rw [hr a.eval q0 q1 q2, Oper.upon_value]
  have hb := (Below.refl w.heap.size w).alloc (Nat.le_refl _) (.cells #[.int .i64 k0, .string t0, .slice no0 nn0 nc0, .slice ao0 an0 ac0, .int .i64 k1, .string t1, .slice no1 nn1 nc1, .slice ao1 an1 ac1, .int .i64 k2, .string t2, .slice no2 nn2 nc2, .slice ao2 an2 ac2] 28)
  refine h _ _ hb ?_
  exact rows_at (S := fun _ => True) (g := w.heap.size) 3 trivial [(e0, #[.int .i64 k0, .string t0, .slice no0 nn0 nc0, .slice ao0 an0 ac0]), (e1, #[.int .i64 k1, .string t1, .slice no1 nn1 nc1, .slice ao1 an1 ac1]), (e2, #[.int .i64 k2, .string t2, .slice no2 nn2 nc2, .slice ao2 an2 ac2])] (by
    intro p hp
    simp only [List.mem_cons, List.not_mem_nil, or_false] at hp
    rcases hp with rfl | rfl | rfl
    · exact ⟨Et.At.keeps (Keeps.of_below hb) _ _ h0, rfl⟩
    · exact ⟨Et.At.keeps (Keeps.of_below hb) _ _ h1, rfl⟩
    · exact ⟨Et.At.keeps (Keeps.of_below hb) _ _ h2, rfl⟩) (fz := (0, 0)) rfl (alloc_at w _)
theorem wp_row4 {o : Oper} {a : Act} {w : World} {K : Act → World → Prop} {Q : Exit → Act → World → Prop} (x0 x1 x2 x3 : Operand) (ho : o.op = .buildSlice 26 4 #[(0, x0), (1, x1), (2, x2), (3, x3)]) (e0 e1 e2 e3 : Et)
    (h0 : (Sh.t e0).ok (a.eval x0) w) (h1 : (Sh.t e1).ok (a.eval x1) w) (h2 : (Sh.t e2).ok (a.eval x2) w) (h3 : (Sh.t e3).ok (a.eval x3) w) (h : ∀ v w2, Below w.heap.size w w2 → (Sh.r [e0, e1, e2, e3]).ok v w2 → K (a.put o.dst v) w2) : Oper.wp Tryd.prog o a w K Q := by
  obtain ⟨c0, q0, h0⟩ := h0
  obtain ⟨k0, t0, no0, nn0, nc0, ao0, an0, ac0, rfl⟩ := EAt_sl h0
  obtain ⟨c1, q1, h1⟩ := h1
  obtain ⟨k1, t1, no1, nn1, nc1, ao1, an1, ac1, rfl⟩ := EAt_sl h1
  obtain ⟨c2, q2, h2⟩ := h2
  obtain ⟨k2, t2, no2, nn2, nc2, ao2, an2, ac2, rfl⟩ := EAt_sl h2
  obtain ⟨c3, q3, h3⟩ := h3
  obtain ⟨k3, t3, no3, nn3, nc3, ao3, an3, ac3, rfl⟩ := EAt_sl h3
  have hr : ∀ ev : Operand → Value, ev x0 = .agg #[.int .i64 k0, .string t0, .slice no0 nn0 nc0, .slice ao0 an0 ac0] → ev x1 = .agg #[.int .i64 k1, .string t1, .slice no1 nn1 nc1, .slice ao1 an1 ac1] → ev x2 = .agg #[.int .i64 k2, .string t2, .slice no2 nn2 nc2, .slice ao2 an2 ac2] → ev x3 = .agg #[.int .i64 k3, .string t3, .slice no3 nn3 nc3, .slice ao3 an3 ac3] → (execOp ev o).run Tryd.prog w = .ok (.value (.slice (some ⟨w.heap.size, 0, none⟩) 4 4)) (w.alloc (.cells #[.int .i64 k0, .string t0, .slice no0 nn0 nc0, .slice ao0 an0 ac0, .int .i64 k1, .string t1, .slice no1 nn1 nc1, .slice ao1 an1 ac1, .int .i64 k2, .string t2, .slice no2 nn2 nc2, .slice ao2 an2 ac2, .int .i64 k3, .string t3, .slice no3 nn3 nc3, .slice ao3 an3 ac3] 28)) := by
    intro ev q0 q1 q2 q3
    obtain ⟨i, hi, hz, hs, hby⟩ := info_parts infoD
    unfold execOp
    simp only [ho]
    simp [Instr.buildSlice, run_underlying Tryd.underlying26, sizeOf, typeInfo, zeroValue, Instr.fill, newRow, go_sem, hi, hz, hs, q0, q1, q2, q3]
  unfold Oper.wp
  rw [hr a.eval q0 q1 q2 q3, Oper.upon_value]
  have hb := (Below.refl w.heap.size w).alloc (Nat.le_refl _) (.cells #[.int .i64 k0, .string t0, .slice no0 nn0 nc0, .slice ao0 an0 ac0, .int .i64 k1, .string t1, .slice no1 nn1 nc1, .slice ao1 an1 ac1, .int .i64 k2, .string t2, .slice no2 nn2 nc2, .slice ao2 an2 ac2, .int .i64 k3, .string t3, .slice no3 nn3 nc3, .slice ao3 an3 ac3] 28)
  refine h _ _ hb ?_
  exact rows_at (S := fun _ => True) (g := w.heap.size) 4 trivial [(e0, #[.int .i64 k0, .string t0, .slice no0 nn0 nc0, .slice ao0 an0 ac0]), (e1, #[.int .i64 k1, .string t1, .slice no1 nn1 nc1, .slice ao1 an1 ac1]), (e2, #[.int .i64 k2, .string t2, .slice no2 nn2 nc2, .slice ao2 an2 ac2]), (e3, #[.int .i64 k3, .string t3, .slice no3 nn3 nc3, .slice ao3 an3 ac3])] (by
    intro p hp
    simp only [List.mem_cons, List.not_mem_nil, or_false] at hp
    rcases hp with rfl | rfl | rfl | rfl
    · exact ⟨Et.At.keeps (Keeps.of_below hb) _ _ h0, rfl⟩
    · exact ⟨Et.At.keeps (Keeps.of_below hb) _ _ h1, rfl⟩
    · exact ⟨Et.At.keeps (Keeps.of_below hb) _ _ h2, rfl⟩
    · exact ⟨Et.At.keeps (Keeps.of_below hb) _ _ h3, rfl⟩) (fz := (0, 0)) rfl (alloc_at w _)
theorem wp_row5 {o : Oper} {a : Act} {w : World} {K : Act → World → Prop} {Q : Exit → Act → World → Prop} (x0 x1 x2 x3 x4 : Operand) (ho : o.op = .buildSlice 26 5 #[(0, x0), (1, x1), (2, x2), (3, x3), (4, x4)]) (e0 e1 e2 e3 e4 : Et)
    (h0 : (Sh.t e0).ok (a.eval x0) w) (h1 : (Sh.t e1).ok (a.eval x1) w) (h2 : (Sh.t e2).ok (a.eval x2) w) (h3 : (Sh.t e3).ok (a.eval x3) w) (h4 : (Sh.t e4).ok (a.eval x4) w) (h : ∀ v w2, Below w.heap.size w w2 → (Sh.r [e0, e1, e2, e3, e4]).ok v w2 → K (a.put o.dst v) w2) : Oper.wp Tryd.prog o a w K Q := by
  obtain ⟨c0, q0, h0⟩ := h0
  obtain ⟨k0, t0, no0, nn0, nc0, ao0, an0, ac0, rfl⟩ := EAt_sl h0
  obtain ⟨c1, q1, h1⟩ := h1
  obtain ⟨k1, t1, no1, nn1, nc1, ao1, an1, ac1, rfl⟩ := EAt_sl h1
  obtain ⟨c2, q2, h2⟩ := h2
  obtain ⟨k2, t2, no2, nn2, nc2, ao2, an2, ac2, rfl⟩ := EAt_sl h2
  obtain ⟨c3, q3, h3⟩ := h3
  obtain ⟨k3, t3, no3, nn3, nc3, ao3, an3, ac3, rfl⟩ := EAt_sl h3
  obtain ⟨c4, q4, h4⟩ := h4
  obtain ⟨k4, t4, no4, nn4, nc4, ao4, an4, ac4, rfl⟩ := EAt_sl h4
  have hr : ∀ ev : Operand → Value, ev x0 = .agg #[.int .i64 k0, .string t0, .slice no0 nn0 nc0, .slice ao0 an0 ac0] → ev x1 = .agg #[.int .i64 k1, .string t1, .slice no1 nn1 nc1, .slice ao1 an1 ac1] → ev x2 = .agg #[.int .i64 k2, .string t2, .slice no2 nn2 nc2, .slice ao2 an2 ac2] → ev x3 = .agg #[.int .i64 k3, .string t3, .slice no3 nn3 nc3, .slice ao3 an3 ac3] → ev x4 = .agg #[.int .i64 k4, .string t4, .slice no4 nn4 nc4, .slice ao4 an4 ac4] → (execOp ev o).run Tryd.prog w = .ok (.value (.slice (some ⟨w.heap.size, 0, none⟩) 5 5)) (w.alloc (.cells #[.int .i64 k0, .string t0, .slice no0 nn0 nc0, .slice ao0 an0 ac0, .int .i64 k1, .string t1, .slice no1 nn1 nc1, .slice ao1 an1 ac1, .int .i64 k2, .string t2, .slice no2 nn2 nc2, .slice ao2 an2 ac2, .int .i64 k3, .string t3, .slice no3 nn3 nc3, .slice ao3 an3 ac3, .int .i64 k4, .string t4, .slice no4 nn4 nc4, .slice ao4 an4 ac4] 28)) := by
    intro ev q0 q1 q2 q3 q4
    obtain ⟨i, hi, hz, hs, hby⟩ := info_parts infoD
    unfold execOp
    simp only [ho]
    simp [Instr.buildSlice, run_underlying Tryd.underlying26, sizeOf, typeInfo, zeroValue, Instr.fill, newRow, go_sem, hi, hz, hs, q0, q1, q2, q3, q4]
  unfold Oper.wp
  rw [hr a.eval q0 q1 q2 q3 q4, Oper.upon_value]
  have hb := (Below.refl w.heap.size w).alloc (Nat.le_refl _) (.cells #[.int .i64 k0, .string t0, .slice no0 nn0 nc0, .slice ao0 an0 ac0, .int .i64 k1, .string t1, .slice no1 nn1 nc1, .slice ao1 an1 ac1, .int .i64 k2, .string t2, .slice no2 nn2 nc2, .slice ao2 an2 ac2, .int .i64 k3, .string t3, .slice no3 nn3 nc3, .slice ao3 an3 ac3, .int .i64 k4, .string t4, .slice no4 nn4 nc4, .slice ao4 an4 ac4] 28)
  refine h _ _ hb ?_
  exact rows_at (S := fun _ => True) (g := w.heap.size) 5 trivial [(e0, #[.int .i64 k0, .string t0, .slice no0 nn0 nc0, .slice ao0 an0 ac0]), (e1, #[.int .i64 k1, .string t1, .slice no1 nn1 nc1, .slice ao1 an1 ac1]), (e2, #[.int .i64 k2, .string t2, .slice no2 nn2 nc2, .slice ao2 an2 ac2]), (e3, #[.int .i64 k3, .string t3, .slice no3 nn3 nc3, .slice ao3 an3 ac3]), (e4, #[.int .i64 k4, .string t4, .slice no4 nn4 nc4, .slice ao4 an4 ac4])] (by
    intro p hp
    simp only [List.mem_cons, List.not_mem_nil, or_false] at hp
    rcases hp with rfl | rfl | rfl | rfl | rfl
    · exact ⟨Et.At.keeps (Keeps.of_below hb) _ _ h0, rfl⟩
    · exact ⟨Et.At.keeps (Keeps.of_below hb) _ _ h1, rfl⟩
    · exact ⟨Et.At.keeps (Keeps.of_below hb) _ _ h2, rfl⟩
    · exact ⟨Et.At.keeps (Keeps.of_below hb) _ _ h3, rfl⟩
    · exact ⟨Et.At.keeps (Keeps.of_below hb) _ _ h4, rfl⟩) (fz := (0, 0)) rfl (alloc_at w _)
theorem wp_row6 {o : Oper} {a : Act} {w : World} {K : Act → World → Prop} {Q : Exit → Act → World → Prop} (x0 x1 x2 x3 x4 x5 : Operand) (ho : o.op = .buildSlice 26 6 #[(0, x0), (1, x1), (2, x2), (3, x3), (4, x4), (5, x5)]) (e0 e1 e2 e3 e4 e5 : Et)
    (h0 : (Sh.t e0).ok (a.eval x0) w) (h1 : (Sh.t e1).ok (a.eval x1) w) (h2 : (Sh.t e2).ok (a.eval x2) w) (h3 : (Sh.t e3).ok (a.eval x3) w) (h4 : (Sh.t e4).ok (a.eval x4) w) (h5 : (Sh.t e5).ok (a.eval x5) w) (h : ∀ v w2, Below w.heap.size w w2 → (Sh.r [e0, e1, e2, e3, e4, e5]).ok v w2 → K (a.put o.dst v) w2) : Oper.wp Tryd.prog o a w K Q := by
  obtain ⟨c0, q0, h0⟩ := h0
  obtain ⟨k0, t0, no0, nn0, nc0, ao0, an0, ac0, rfl⟩ := EAt_sl h0
  obtain ⟨c1, q1, h1⟩ := h1
  obtain ⟨k1, t1, no1, nn1, nc1, ao1, an1, ac1, rfl⟩ := EAt_sl h1
  obtain ⟨c2, q2, h2⟩ := h2
  obtain ⟨k2, t2, no2, nn2, nc2, ao2, an2, ac2, rfl⟩ := EAt_sl h2
  obtain ⟨c3, q3, h3⟩ := h3
  obtain ⟨k3, t3, no3, nn3, nc3, ao3, an3, ac3, rfl⟩ := EAt_sl h3
  obtain ⟨c4, q4, h4⟩ := h4
  obtain ⟨k4, t4, no4, nn4, nc4, ao4, an4, ac4, rfl⟩ := EAt_sl h4
  obtain ⟨c5, q5, h5⟩ := h5
  obtain ⟨k5, t5, no5, nn5, nc5, ao5, an5, ac5, rfl⟩ := EAt_sl h5
  have hr : ∀ ev : Operand → Value, ev x0 = .agg #[.int .i64 k0, .string t0, .slice no0 nn0 nc0, .slice ao0 an0 ac0] → ev x1 = .agg #[.int .i64 k1, .string t1, .slice no1 nn1 nc1, .slice ao1 an1 ac1] → ev x2 = .agg #[.int .i64 k2, .string t2, .slice no2 nn2 nc2, .slice ao2 an2 ac2] → ev x3 = .agg #[.int .i64 k3, .string t3, .slice no3 nn3 nc3, .slice ao3 an3 ac3] → ev x4 = .agg #[.int .i64 k4, .string t4, .slice no4 nn4 nc4, .slice ao4 an4 ac4] → ev x5 = .agg #[.int .i64 k5, .string t5, .slice no5 nn5 nc5, .slice ao5 an5 ac5] → (execOp ev o).run Tryd.prog w = .ok (.value (.slice (some ⟨w.heap.size, 0, none⟩) 6 6)) (w.alloc (.cells #[.int .i64 k0, .string t0, .slice no0 nn0 nc0, .slice ao0 an0 ac0, .int .i64 k1, .string t1, .slice no1 nn1 nc1, .slice ao1 an1 ac1, .int .i64 k2, .string t2, .slice no2 nn2 nc2, .slice ao2 an2 ac2, .int .i64 k3, .string t3, .slice no3 nn3 nc3, .slice ao3 an3 ac3, .int .i64 k4, .string t4, .slice no4 nn4 nc4, .slice ao4 an4 ac4, .int .i64 k5, .string t5, .slice no5 nn5 nc5, .slice ao5 an5 ac5] 28)) := by
    intro ev q0 q1 q2 q3 q4 q5
    obtain ⟨i, hi, hz, hs, hby⟩ := info_parts infoD
    unfold execOp
    simp only [ho]
    simp [Instr.buildSlice, run_underlying Tryd.underlying26, sizeOf, typeInfo, zeroValue, Instr.fill, newRow, go_sem, hi, hz, hs, q0, q1, q2, q3, q4, q5]
  unfold Oper.wp
  rw [hr a.eval q0 q1 q2 q3 q4 q5, Oper.upon_value]
  have hb := (Below.refl w.heap.size w).alloc (Nat.le_refl _) (.cells #[.int .i64 k0, .string t0, .slice no0 nn0 nc0, .slice ao0 an0 ac0, .int .i64 k1, .string t1, .slice no1 nn1 nc1, .slice ao1 an1 ac1, .int .i64 k2, .string t2, .slice no2 nn2 nc2, .slice ao2 an2 ac2, .int .i64 k3, .string t3, .slice no3 nn3 nc3, .slice ao3 an3 ac3, .int .i64 k4, .string t4, .slice no4 nn4 nc4, .slice ao4 an4 ac4, .int .i64 k5, .string t5, .slice no5 nn5 nc5, .slice ao5 an5 ac5] 28)
  refine h _ _ hb ?_
  exact rows_at (S := fun _ => True) (g := w.heap.size) 6 trivial [(e0, #[.int .i64 k0, .string t0, .slice no0 nn0 nc0, .slice ao0 an0 ac0]), (e1, #[.int .i64 k1, .string t1, .slice no1 nn1 nc1, .slice ao1 an1 ac1]), (e2, #[.int .i64 k2, .string t2, .slice no2 nn2 nc2, .slice ao2 an2 ac2]), (e3, #[.int .i64 k3, .string t3, .slice no3 nn3 nc3, .slice ao3 an3 ac3]), (e4, #[.int .i64 k4, .string t4, .slice no4 nn4 nc4, .slice ao4 an4 ac4]), (e5, #[.int .i64 k5, .string t5, .slice no5 nn5 nc5, .slice ao5 an5 ac5])] (by
    intro p hp
    simp only [List.mem_cons, List.not_mem_nil, or_false] at hp
    rcases hp with rfl | rfl | rfl | rfl | rfl | rfl
    · exact ⟨Et.At.keeps (Keeps.of_below hb) _ _ h0, rfl⟩
    · exact ⟨Et.At.keeps (Keeps.of_below hb) _ _ h1, rfl⟩
    · exact ⟨Et.At.keeps (Keeps.of_below hb) _ _ h2, rfl⟩
    · exact ⟨Et.At.keeps (Keeps.of_below hb) _ _ h3, rfl⟩
    · exact ⟨Et.At.keeps (Keeps.of_below hb) _ _ h4, rfl⟩
    · exact ⟨Et.At.keeps (Keeps.of_below hb) _ _ h5, rfl⟩) (fz := (0, 0)) rfl (alloc_at w _)
theorem info4 : (Tryd.prog.info? 28).map (fun i => (i.zero, i.size)) = some (some (.agg #[.int .i64 0, .string ⟨#[]⟩, .slice none 0 0, .slice none 0 0]), 4) ∧ (Tryd.prog.info? 3).map (·.size) = some 1 ∧ (Tryd.prog.info? 9).map (·.size) = some 1 ∧ (Tryd.prog.info? 25).map (·.size) = some 1 ∧ (Tryd.prog.info? 26).map (·.size) = some 1 := by
  refine ⟨by kernel_rfl, by kernel_rfl, by kernel_rfl, by kernel_rfl, by kernel_rfl⟩
theorem wp_bld_t {o : Oper} {a : Act} {w : World} {K : Act → World → Prop} {Q : Exit → Act → World → Prop} (k : Int) (t : ByteArray) (ho : o.op = .build 28 #[(0, .const (.int .i64 k)), (1, .const (.string t))])
    (h : ∀ v w2, Below w.heap.size w w2 → (Sh.t (.mk k t [] [])).ok v w2 → K (a.put o.dst v) w2) : Oper.wp Tryd.prog o a w K Q := by
  have hr : ∀ ev : Operand → Value, ev (.const (.int .i64 k)) = .int .i64 k → ev (.const (.string t)) = .string t → (execOp ev o).run Tryd.prog w = .ok (.value (.agg #[.int .i64 k, .string t, .slice none 0 0, .slice none 0 0])) w := by
    intro ev e3 e4
    obtain ⟨hD, h3, h9, h25, h26⟩ := info4
    obtain ⟨i, hi, hi2⟩ := Option.map_eq_some_iff.1 hD
    obtain ⟨hz, hs⟩ := Prod.mk.inj hi2
    obtain ⟨i3, hi3, hs3⟩ := Option.map_eq_some_iff.1 h3
    obtain ⟨i9, hi9, hs9⟩ := Option.map_eq_some_iff.1 h9
    obtain ⟨i25, hi25, hs25⟩ := Option.map_eq_some_iff.1 h25
    obtain ⟨i26, hi26, hs26⟩ := Option.map_eq_some_iff.1 h26
    unfold execOp
    simp only [ho]
    simp [Instr.build, run_underlying Tryd.underlying28, sizeOf, typeInfo, zeroValue, Instr.fill, go_sem, hi, hz, hs, hi3, hs3, hi9, hs9, hi25, hs25, hi26, hs26, e3, e4]
  unfold Oper.wp
  rw [hr a.eval  rfl rfl, Oper.upon_value]
  refine h _ _ (Below.refl _ _) ⟨_, rfl, ?_⟩
  rw [EAt_mk]
  exact ⟨_, _, rfl, .inl ⟨rfl, rfl⟩, .inl ⟨rfl, rfl⟩⟩
theorem wp_bld_a {o : Oper} {a : Act} {w : World} {K : Act → World → Prop} {Q : Exit → Act → World → Prop} (k : Int) (x : Operand) (ho : o.op = .build 28 #[(0, .const (.int .i64 k)), (3, x)]) (l : List Et) (hl : (Sh.r l).ok (a.eval x) w)
    (h : ∀ v w2, Below w.heap.size w w2 → (Sh.t (.mk k ⟨#[]⟩ [] l)).ok v w2 → K (a.put o.dst v) w2) : Oper.wp Tryd.prog o a w K Q := by
  obtain ⟨ao, ac, el⟩ := AAt.form hl
  have hr : ∀ ev : Operand → Value, ev x = .slice ao l.length ac → ev (.const (.int .i64 k)) = .int .i64 k → (execOp ev o).run Tryd.prog w = .ok (.value (.agg #[.int .i64 k, .string ⟨#[]⟩, .slice none 0 0, .slice ao l.length ac])) w := by
    intro ev el e3
    obtain ⟨hD, h3, h9, h25, h26⟩ := info4
    obtain ⟨i, hi, hi2⟩ := Option.map_eq_some_iff.1 hD
    obtain ⟨hz, hs⟩ := Prod.mk.inj hi2
    obtain ⟨i3, hi3, hs3⟩ := Option.map_eq_some_iff.1 h3
    obtain ⟨i9, hi9, hs9⟩ := Option.map_eq_some_iff.1 h9
    obtain ⟨i25, hi25, hs25⟩ := Option.map_eq_some_iff.1 h25
    obtain ⟨i26, hi26, hs26⟩ := Option.map_eq_some_iff.1 h26
    unfold execOp
    simp only [ho]
    simp [Instr.build, run_underlying Tryd.underlying28, sizeOf, typeInfo, zeroValue, Instr.fill, go_sem, hi, hz, hs, hi3, hs3, hi9, hs9, hi25, hs25, hi26, hs26, el, e3]
  unfold Oper.wp
  rw [hr a.eval el rfl, Oper.upon_value]
  refine h _ _ (Below.refl _ _) ⟨_, rfl, ?_⟩
  rw [EAt_mk]
  exact ⟨_, _, rfl, .inl ⟨rfl, rfl⟩, by rw [el] at hl; exact hl⟩
theorem wp_bld_p {o : Oper} {a : Act} {w : World} {K : Act → World → Prop} {Q : Exit → Act → World → Prop} (k : Int) (t : ByteArray) (x : Operand) (ho : o.op = .build 28 #[(0, .const (.int .i64 k)), (1, .const (.string t)), (3, x)]) (l : List Et) (hl : (Sh.r l).ok (a.eval x) w)
    (h : ∀ v w2, Below w.heap.size w w2 → (Sh.t (.mk k t [] l)).ok v w2 → K (a.put o.dst v) w2) : Oper.wp Tryd.prog o a w K Q := by
  obtain ⟨ao, ac, el⟩ := AAt.form hl
  have hr : ∀ ev : Operand → Value, ev x = .slice ao l.length ac → ev (.const (.int .i64 k)) = .int .i64 k → ev (.const (.string t)) = .string t → (execOp ev o).run Tryd.prog w = .ok (.value (.agg #[.int .i64 k, .string t, .slice none 0 0, .slice ao l.length ac])) w := by
    intro ev el e3 e4
    obtain ⟨hD, h3, h9, h25, h26⟩ := info4
    obtain ⟨i, hi, hi2⟩ := Option.map_eq_some_iff.1 hD
    obtain ⟨hz, hs⟩ := Prod.mk.inj hi2
    obtain ⟨i3, hi3, hs3⟩ := Option.map_eq_some_iff.1 h3
    obtain ⟨i9, hi9, hs9⟩ := Option.map_eq_some_iff.1 h9
    obtain ⟨i25, hi25, hs25⟩ := Option.map_eq_some_iff.1 h25
    obtain ⟨i26, hi26, hs26⟩ := Option.map_eq_some_iff.1 h26
    unfold execOp
    simp only [ho]
    simp [Instr.build, run_underlying Tryd.underlying28, sizeOf, typeInfo, zeroValue, Instr.fill, go_sem, hi, hz, hs, hi3, hs3, hi9, hs9, hi25, hs25, hi26, hs26, el, e3, e4]
  unfold Oper.wp
  rw [hr a.eval el rfl rfl, Oper.upon_value]
  refine h _ _ (Below.refl _ _) ⟨_, rfl, ?_⟩
  rw [EAt_mk]
  exact ⟨_, _, rfl, .inl ⟨rfl, rfl⟩, by rw [el] at hl; exact hl⟩
theorem wp_bld_l {o : Oper} {a : Act} {w : World} {K : Act → World → Prop} {Q : Exit → Act → World → Prop} (k : Int) (y x : Operand) (ho : o.op = .build 28 #[(0, .const (.int .i64 k)), (2, y), (3, x)]) (ns : List ByteArray) (hn : (Sh.n ns).ok (a.eval y) w) (l : List Et) (hl : (Sh.r l).ok (a.eval x) w)
    (h : ∀ v w2, Below w.heap.size w w2 → (Sh.t (.mk k ⟨#[]⟩ ns l)).ok v w2 → K (a.put o.dst v) w2) : Oper.wp Tryd.prog o a w K Q := by
  obtain ⟨no, nc, en⟩ := NAt.form hn
  obtain ⟨ao, ac, el⟩ := AAt.form hl
  have hr : ∀ ev : Operand → Value, ev y = .slice no ns.length nc → ev x = .slice ao l.length ac → ev (.const (.int .i64 k)) = .int .i64 k → (execOp ev o).run Tryd.prog w = .ok (.value (.agg #[.int .i64 k, .string ⟨#[]⟩, .slice no ns.length nc, .slice ao l.length ac])) w := by
    intro ev en el e3
    obtain ⟨hD, h3, h9, h25, h26⟩ := info4
    obtain ⟨i, hi, hi2⟩ := Option.map_eq_some_iff.1 hD
    obtain ⟨hz, hs⟩ := Prod.mk.inj hi2
    obtain ⟨i3, hi3, hs3⟩ := Option.map_eq_some_iff.1 h3
    obtain ⟨i9, hi9, hs9⟩ := Option.map_eq_some_iff.1 h9
    obtain ⟨i25, hi25, hs25⟩ := Option.map_eq_some_iff.1 h25
    obtain ⟨i26, hi26, hs26⟩ := Option.map_eq_some_iff.1 h26
    unfold execOp
    simp only [ho]
    simp [Instr.build, run_underlying Tryd.underlying28, sizeOf, typeInfo, zeroValue, Instr.fill, go_sem, hi, hz, hs, hi3, hs3, hi9, hs9, hi25, hs25, hi26, hs26, en, el, e3]
  unfold Oper.wp
  rw [hr a.eval en el rfl, Oper.upon_value]
  refine h _ _ (Below.refl _ _) ⟨_, rfl, ?_⟩
  rw [EAt_mk]
  exact ⟨_, _, rfl, by rw [en] at hn; exact hn, by rw [el] at hl; exact hl⟩
theorem wp_ldE {o : Oper} {a : Act} {w : World} {K : Act → World → Prop} {Q : Exit → Act → World → Prop} (x : Operand) (ho : o.op = .load 28 x) (g : Nat) (hx : a.eval x = .pointer (some ⟨g, 0, none⟩)) (e : Et) (cs : Array Value)
    (hg : w.heap[g]? = some (.cells cs 28 (0, 0))) (hat : Et.At (fun _ => True) w e cs) (h : ∀ v w2, Below w.heap.size w w2 → (Sh.t e).ok v w2 → K (a.put o.dst v) w2) : Oper.wp Tryd.prog o a w K Q :=
  wp_load_row 28 x ho g hx 28 cs (0, 0) _ hg Tryd.underlying28 rfl (by rw [size4 hat]; exact info28) (h _ _ (Below.refl _ _) ⟨cs, rfl, hat⟩)
theorem wp_mv {o : Oper} {a : Act} {w : World} {K : Act → World → Prop} {Q : Exit → Act → World → Prop} (x : Operand) (ho : o.op = .assign x ∨ o.op = .move x) (s : Sh) (hx : s.ok (a.eval x) w)
    (h : ∀ v w2, Below w.heap.size w w2 → s.ok v w2 → K (a.put o.dst v) w2) : Oper.wp Tryd.prog o a w K Q := by
  have hr : (execOp a.eval o).run Tryd.prog w = .ok (.value (a.eval x)) w := by
    unfold execOp
    rcases ho with ho | ho <;> (simp only [ho]; simp [go_sem])
  unfold Oper.wp
  rw [hr, Oper.upon_value]
  exact h _ _ (Below.refl _ _) hx
theorem wp_call1 {o : Oper} {a : Act} {w : World} {K : Act → World → Prop} {Q : Exit → Act → World → Prop} (f : FuncId) (xs : Array Operand) (tys : Array TypeId) (ho : o.op = .call { callee := .value (.func f), args := xs, argTypes := tys })
    (R : Ending → World → Prop) {fn : Func} (hf : Tryd.prog.funcs[f]? = some fn) (h1 : (fn.name == "runtime.NumGoroutine") = false) (h2 : fn.body.isNone = false) (vs : Array Value) (hv : xs.map a.eval = vs) (hc : Calls Tryd.prog f vs w R) (h : ∀ r w2, R r w2 → ∃ v, r = .returned v ∧ K (a.put o.dst v) w2) : Oper.wp Tryd.prog o a w K Q := by
  subst hv
  have hr : (execOp a.eval o).run Tryd.prog w = .ok (.enter f (xs.map a.eval)) w := by
    unfold execOp
    simp only [ho]
    have h1' : fn.name ≠ "runtime.NumGoroutine" := by simpa using h1
    have h2' : fn.body ≠ none := fun e => by rw [e] at h2; cases h2
    simp [go_sem, resolve, invoke, Act.eval, callFunc, hf, h1', h2']
  unfold Oper.wp
  rw [hr, Oper.upon_enter]
  exact hc.mono (fun r w2 hR => by obtain ⟨v, rfl, hk⟩ := h r w2 hR; exact hk)
theorem wp_nm1 {o : Oper} {a : Act} {w : World} {K : Act → World → Prop} {Q : Exit → Act → World → Prop} (s : ByteArray) (ho : o.op = .buildSlice 25 1 #[(0, .const (.string s))])
    (h : ∀ v w2, Below w.heap.size w w2 → (Sh.n [s]).ok v w2 → K (a.put o.dst v) w2) : Oper.wp Tryd.prog o a w K Q := by
  have hr : ∀ ev : Operand → Value, ev (.const (.string s)) = .string s → (execOp ev o).run Tryd.prog w = .ok (.value (.slice (some ⟨w.heap.size, 0, none⟩) 1 1)) (w.alloc (.cells #[.string s] 9)) := by
    intro ev e
    obtain ⟨i, hi, hz, hs, hby⟩ := info_parts infoS
    unfold execOp
    simp only [ho]
    simp [Instr.buildSlice, run_underlying Tryd.underlying25, sizeOf, typeInfo, zeroValue, Instr.fill, newRow, go_sem, hi, hz, hs, e]
  unfold Oper.wp
  rw [hr a.eval rfl, Oper.upon_value]
  have hb := (Below.refl w.heap.size w).alloc (Nat.le_refl _) (.cells #[.string s] 9)
  refine h _ _ hb ?_
  refine .inr ⟨w.heap.size, 0, 1, #[.string s], (0, 0), by simp, trivial, alloc_at w _, ?_, by simp⟩
  intro j hj
  obtain rfl : j = 0 := by simpa using hj
  rfl
end Go.Proofs.YtmcgocbkjdacaaaDoor
