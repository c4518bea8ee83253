/- The contract of strings.Clone: a text by itself. -/
import Derived.Test.YtkjcbaikebdmmaaDoorL2
import Derived.Lib.UnsafeStr
import Derived.Laws.MakeOwn
import Derived.Laws.CopyRow
import Derived.Laws.Tables
import Derived.Below
import Derived.Deep.Cut
import Derived.Lib.Builder
import Derived.Lib.AppendStr
namespace Go.Proofs.YtkjcbaikebdmmaaDoor
open Go.RowKit Go.BigM
set_option linter.unusedVariables false
set_option linter.unusedSimpArgs false

section
variable {P : Program} {ops : Array Oper} {Q : Exit → Act → World → Prop} {a : Act} {w : World} {rest : List Oper} {o : Oper}
theorem wpList_wanted (hw : Region.wanted o (yielded ops a.tmps) = true) (h : ∀ K : Act → World → Prop, (∀ a w, wpList P ops Q rest a w → K a w) → o.wp P a w K Q) : wpList P ops Q (o :: rest) a w :=
  wpList_step fun K hK => by rw [if_pos hw]; exact h K hK
theorem wpList_load_wanted (hw : Region.wanted o (yielded ops a.tmps) = true) (ty : TypeId) (x : Operand) (ho : o.op = .load ty x)
    (g : Nat) (hx : a.eval x = .pointer (some ⟨g, 0, none⟩)) (t : TypeId) (cs : Array Value) (fr : Nat × Nat) (d : TypeDesc) (hg : w.heap[g]? = some (.cells cs t fr))
    (hu : P.underlying ty = some d) (hd : (match d with | .struct _ | .array _ _ => true | _ => false) = true) (hi : (P.info? ty).map (·.size) = some cs.size)
    (h : wpList P ops Q rest (a.put o.dst (.agg cs)) w) : wpList P ops Q (o :: rest) a w :=
  wpList_wanted hw fun _ hK => wp_load_row ty x ho g hx t cs fr d hg hu hd hi (hK _ _ h)
end
theorem Below.row {w w' : World} (h : Below w.heap.size w w') {g : Nat} {c : Array Value} {T : TypeId} {fz : Nat × Nat} (hg : w.heap[g]? = some (.cells c T fz)) : w'.heap[g]? = some (.cells c T fz) := by
  rw [h.block g (Array.getElem?_eq_some_iff.1 hg).1]; exact hg

theorem infoB : (Tryd.prog.info? 5).map (fun i => (i.zero, i.size, i.bytes)) = some (some (.int .u8 0), 1, 1) := by kernel_rfl
theorem info_partsB {P : Program} {t : TypeId} {z : Option Value} {s b : Nat} (h : (P.info? t).map (fun i => (i.zero, i.size, i.bytes)) = some (z, s, b)) : ∃ i, P.info? t = some i ∧ i.zero = z ∧ i.size = s ∧ i.bytes = b := by
  cases hi : P.info? t with
  | none => rw [hi] at h; simp at h
  | some i =>
    rw [hi] at h
    simp at h
    exact ⟨i, rfl, h.1, h.2.1, h.2.2⟩
theorem setRow_newB (w : World) (z cs : Array Value) (T : TypeId) : (w.alloc (.cells z T)).setRow w.heap.size cs = w.alloc (.cells cs T) := by
  unfold World.setRow World.alloc
  simp only [World.mk.injEq, and_true]
  apply Array.ext
  · simp
  · intro k h1 h2
    simp only [Array.getElem_modify]
    split
    · rename_i hk; subst hk; simp
    · rename_i hk
      simp only [Array.getElem_push]
      split
      · rfl
      · rename_i h3
        simp at h1
        omega
theorem wp_madeB {o : Oper} {a : Act} {w : World} {K : Act → World → Prop} {Q : Exit → Act → World → Prop} (x y : Operand) (n : Nat) (ho : o.op = .makeSlice 44 x y) (hx : a.eval x = .int .i64 n) (hy : a.eval y = .int .i64 n) (hn : n ≤ 1000000000)
    (h : K (a.put o.dst (.slice (some ⟨w.heap.size, 0, none⟩) n n)) (w.alloc (.cells (madeCells #[.int .u8 0] (n * 1)) 5))) : o.wp Tryd.prog a w K Q := by
  obtain ⟨i, hi, hz, hs, hb⟩ := info_partsB infoB
  have hr := run_make (P := Tryd.prog) w 44 5 i (.int .u8 0) Tryd.underlying44 hi hz .i64 .i64 (n : Int) (n : Int) (by omega) (by omega) (by rw [hb]; omega) (by omega)
  have e : Value.cells (.int .u8 0) = #[.int .u8 0] := rfl
  rw [hs, Int.toNat_natCast, e] at hr
  unfold Oper.wp execOp
  simp only [ho, hx, hy, Sem.run_bind, Sem.run_pure, Result.andThen_ok, hr]
  exact h
theorem run_copy_str (w : World) (sT ty : TypeId) (g cap : Nat) (s : ByteArray) (cur : Array Value) (hg : w.heap[g]? = some (.cells cur 5 (0, 0))) (hfit : cur.size = s.size) :
    (Builtin.copy_ #[44, sT] ty #[.slice (some ⟨g, 0, none⟩) s.size cap, .string s]).run Tryd.prog w = .ok (.int .i64 s.size) (w.setRow g (Lib.strCells s).toArray) := by
  obtain ⟨i, hi, hz, hs, hb⟩ := info_partsB infoB
  have hf := Lib.run_firstCells_string (P := Tryd.prog) w 1 s
  have hst := run_storeCells_at Tryd.prog g 0 5 (Lib.strCells s) 0 cur w hg (by simp [Lib.strCells_length, hfit]) (Lib.strCells_oneCell s)
  have hd : cur.toList.drop s.size = [] := List.drop_eq_nil_of_le (by simp [hfit])
  simp only [Nat.add_zero, Nat.zero_add, Lib.strCells_length, List.take_zero, List.nil_append, hd, List.append_nil] at hst
  simp [Builtin.copy_, run_underlying Tryd.underlying44, Builtin.lenOf, sizeOf, typeInfo, hi, hs, hf, hst, goInt]
theorem wp_copyB {o : Oper} {a : Act} {w : World} {K : Act → World → Prop} {Q : Exit → Act → World → Prop} (x y : Operand) (ho : o.op = .call { callee := .builtin .copy, args := #[x, y], argTypes := #[44, 9] })
    (g cap : Nat) (s : ByteArray) (hx : a.eval x = .slice (some ⟨g, 0, none⟩) s.size cap) (hy : a.eval y = .string s) (cur : Array Value) (hg : w.heap[g]? = some (.cells cur 5 (0, 0))) (hfit : cur.size = s.size)
    (h : K (a.put o.dst (.int .i64 s.size)) (w.setRow g (Lib.strCells s).toArray)) : o.wp Tryd.prog a w K Q := by
  have hr := run_copy_str w 9 o.type g cap s cur hg hfit
  unfold Oper.wp execOp
  simp only [ho, resolve, invoke, builtin, Sem.run_bind, Sem.run_pure, Result.andThen_ok, List.map_toArray, List.map_cons, List.map_nil, hx, hy, hr]
  exact h
theorem wp_usB {o : Oper} {a : Act} {w : World} {K : Act → World → Prop} {Q : Exit → Act → World → Prop} (x y : Operand) (ho : o.op = .call { callee := .builtin .unsafeString, args := #[x, y], argTypes := #[91, 3] })
    (g : Nat) (s : ByteArray) (hx : a.eval x = .pointer (some ⟨g, 0, none⟩)) (hy : a.eval y = .int .i64 s.size) (hg : w.heap[g]? = some (.cells (Lib.strCells s).toArray 5 (0, 0))) (h0 : s.size ≠ 0) (hn : s.size ≤ 1000000000)
    (h : K (a.put o.dst (.string s)) (w.freeze ⟨g, 0, none⟩ s.size)) : o.wp Tryd.prog a w K Q := by
  have hl : s.data.toList.length = s.size := by rw [Array.length_toList]; rfl
  have hr : (Builtin.unsafeString_ #[91, 3] o.type #[.pointer (some ⟨g, 0, none⟩), .int .i64 s.size]).run Tryd.prog w = .ok (.string s) (w.freeze ⟨g, 0, none⟩ s.size) := by
    have := Lib.run_unsafeString_row (P := Tryd.prog) w 91 3 o.type 5 Tryd.underlying91 (by kernel_rfl) g s.size (by simp [World.shape?, hg, Lib.strCells_length]) s.data.toList (by intro e; rw [e] at hl; simp at hl; omega) (by omega) (by omega) (fun j x hx => by
      have e : (⟨g, 0, none⟩ : Addr).add j = ⟨g, j, none⟩ := by unfold Addr.add; split <;> simp_all
      rw [e, Lib.cell_of_heap hg]
      simp [Lib.strCells, hx])
    rw [hl, Lib.mk_data] at this
    exact this
  unfold Oper.wp execOp
  simp only [ho, resolve, invoke, builtin, Sem.run_bind, Sem.run_pure, Result.andThen_ok, List.map_toArray, List.map_cons, List.map_nil, hx, hy, hr]
  exact h

set_option maxHeartbeats 1000000 in
set_option maxRecDepth 100000 in
theorem clone57 (s : ByteArray) (w : World) (hs : s.size ≤ 8000) :
    Calls Tryd.prog 57 #[.string s] w fun e w' => e = .returned (.string s) ∧ Below w.heap.size w w' := by
  by_cases h0 : s.size = 0
  · have he : s = ⟨#[]⟩ := by
      apply ByteArray.ext
      exact Array.eq_empty_of_size_eq_zero h0
    subst he
    go_enter Tryd.func57, Tryd.ntmps57
    go_wp2
    go_ret
    exact ⟨rfl, Below.refl _ _⟩
  · have q0 : ((s.size : Int) == 0) = false := by rw [beq_eq_false_iff_ne]; omega
    have hb := Lib.hid (((Below.refl w.heap.size w).alloc (Nat.le_refl _) (.cells (Lib.strCells s).toArray 5)))
    go_enter Tryd.func57, Tryd.ntmps57
    go_wp2_with (refine wpList_wanted (by rfl) fun K hK => ?_; first
      | (refine wp_madeB (Operand.tmp 8) (Operand.tmp 8) s.size rfl rfl rfl (by omega) (hK _ _ ?_); clear hK K)
      | (refine wp_copyB (Operand.tmp 10) (Operand.tmp 11) rfl w.heap.size s.size s rfl rfl _ (heap_alloc_new w _) (by simp [size_madeCells]) (hK _ _ ?_); clear hK K; rw [setRow_newB])
      | (refine wp_usB (Operand.tmp 14) (Operand.tmp 16) rfl w.heap.size s rfl rfl (heap_alloc_new w _) h0 (by omega) (hK _ _ ?_); clear hK K))


    go_ret
    exact ⟨rfl, Lib.below_freeze hb.out (p := ⟨w.heap.size, 0, none⟩) (Nat.le_refl _) _⟩
theorem clone_any (s : ByteArray) (w : World) (hs : s.size ≤ 8000) :
    Calls Tryd.prog 46 #[.string s] w fun e w' => e = .returned (.string s) ∧ Below w.heap.size w w' := by
  go_enter Tryd.func46, Tryd.ntmps46
  go_wp2_with fail
  refine (clone57 s w hs).mono ?_
  rintro e w' ⟨rfl, hb⟩
  have HB := Lib.hid hb
  clear hb
  go_wp2_with fail
  go_ret
  exact ⟨rfl, HB.out⟩
end Go.Proofs.YtkjcbaikebdmmaaDoor
