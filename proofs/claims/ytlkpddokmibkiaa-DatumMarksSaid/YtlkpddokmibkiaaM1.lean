/- Rows of marks: what append makes of them; the walk of DatumMarks. -/
import Derived.Test.YtlkpddokmibkiaaK2
import Derived.Test.YtlkpddokmibkiaaP1
import Derived.Test.YtlkpddokmibkiaaR5
namespace Go.Proofs.Ytlkpddokmibkiaa
open Go.RowKit
set_option linter.unusedVariables false
set_option linter.unusedSimpArgs false

theorem infoI : (Try.prog.info? 3).map (fun i => (i.zero, i.size, i.bytes)) = some (some (.int .i64 0), 1, 8) := by kernel_rfl
/-- A slice of numbers that is read. -/
def Src (w : World) (ao : Option Addr) (len cap : Nat) (ms : List Int) : Prop :=
  ms.length = len ∧ ((ao = none ∧ len = 0 ∧ cap = 0) ∨ ∃ x, ao = some x ∧ ∀ j (h : j < ms.length), w.cell? (x.add j) = some (.int .i64 ms[j]))
theorem Src.of_row {w : World} {a : Option Addr} {len cap : Nat} {zs : List Int} (h : IsRow .i64 w a len cap zs) : Src w a len cap (zs.take len) := by
  rcases h with ⟨rfl, rfl, rfl, rfl⟩ | ⟨x, rfl, h1, h2, h3, h4, h5⟩
  · exact ⟨rfl, .inl ⟨rfl, rfl, rfl⟩⟩
  · refine ⟨by rw [List.length_take]; omega, .inr ⟨x, rfl, fun j hj => ?_⟩⟩
    rw [List.length_take] at hj
    rw [h4 j (by omega), List.getElem_take, List.getD_eq_getElem?_getD, List.getElem?_eq_getElem (by omega)]; rfl
theorem Src.below {w w' : World} {a : Option Addr} {len cap : Nat} {ms : List Int} (h : Src w a len cap ms) (hb : Below w.heap.size w w') : Src w' a len cap ms := by
  obtain ⟨h1, h2⟩ := h
  refine ⟨h1, ?_⟩
  rcases h2 with h | ⟨x, rfl, h⟩
  · exact .inl h
  · exact .inr ⟨x, rfl, fun j hj => by rw [hb.cell (World.block_lt_of_cell? w _ (h j hj))]; exact h j hj⟩
/-- A row of numbers that the call owns. -/
def Nums (B : Nat) (w : World) (v : Value) (ms : List Int) : Prop := w.ownsRow B 3 1 v ms.length (ms.map (Value.int .i64))
theorem Nums.at {B : Nat} {w : World} {v : Value} {ms : List Int} (h : Nums B w v ms) (hm : ms.length ≤ 1000000000) : MAt (fun g => B ≤ g) w v ms := by
  rcases h.2 with ⟨rfl, hz⟩ | ⟨g, cap, cur, rfl, hbg, hg, hnc, hcm, hcs, htake⟩
  · exact .inl ⟨rfl, List.length_eq_zero_iff.1 hz⟩
  · refine .inr ⟨g, 0, cap, cur, (0, 0), rfl, hbg, hg, fun j hj => ?_, hm⟩
    have h1 : (cur.toList.take (ms.length * 1))[j]? = some (.int .i64 ms[j]) := by rw [htake, List.getElem?_map, List.getElem?_eq_getElem hj]; rfl
    rw [List.getElem?_take, if_pos (by omega)] at h1
    simpa using h1
theorem Nums.none (w : World) (B : Nat) (hB : B ≤ w.heap.size) : Nums B (w.alloc (.cells #[] 3)) (.slice (some ⟨w.heap.size, 0, .none⟩) 0 0) [] := World.ownsRow_made w #[] 0 hB (by decide) rfl

theorem wp_appI {o : Oper} {a : Act} {w : World} {K : Act → World → Prop} {Q : Exit → Act → World → Prop} (s x : Operand)
    (ho : o.op = .call { callee := .builtin .append, args := #[s, x], argTypes := #[23, 23] }) (B : Nat) (v : Value) (ys ms : List Int) (hs : a.eval s = v) (hown : Nums B w v ys)
    (ao : Option Addr) (len cap : Nat) (hx : a.eval x = .slice ao len cap) (hsrc : Src w ao len cap ms) (hb : ys.length + ms.length ≤ 1000000000) (hB : B ≤ w.heap.size)
    (h : ∀ v' w', Nums B w' v' (ys ++ ms) → w.grownBy w' v.ownBlock → K (a.put o.dst v') w') : o.wp Try.prog a w K Q := by
  obtain ⟨i, hi, hz, hsz, hby⟩ := info_parts infoI
  obtain ⟨hl, hsrc⟩ := hsrc
  rcases hsrc with ⟨rfl, rfl, rfl⟩ | ⟨p, rfl, hc⟩
  · obtain rfl : ms = [] := List.length_eq_zero_iff.1 hl
    have hrun := run_append_owned_none (P := Try.prog) (w := w) B 23 o.type 3 i 1 Try.underlying23 hi v ys.length _ hown
    unfold Oper.wp execOp
    simp only [ho, resolve, invoke, builtin, Sem.run_bind, Sem.run_pure, Result.andThen_ok, List.map_toArray, List.map_cons, List.map_nil, hs, hx, hrun]
    exact h v w (by rw [List.append_nil]; exact hown) ⟨rfl, rfl, rfl, Nat.le_refl _, fun _ _ _ => rfl⟩
  · subst hl
    refine wp_append_own w s x 23 ho B 3 i (.int .i64 0) 1 8 Try.underlying23 hi hz hsz hby rfl (by decide) v ys.length _ hs hown p ms.length cap (ms.map (Value.int .i64)) hx (by simp) (fun j u hu => ?_) (fun u hu => ?_) (by unfold maxLen; omega) (by omega) hB ?_
    · rw [List.getElem?_map] at hu
      cases hq : ms[j]? with
      | none => rw [hq] at hu; simp at hu
      | some y =>
        rw [hq] at hu
        obtain ⟨hj, hy⟩ := List.getElem?_eq_some_iff.1 hq
        rw [hc j hj, ← hu, ← hy]; rfl
    · obtain ⟨y, _, rfl⟩ := List.mem_map.1 hu; rfl
    · intro v' w' h2 h3 _
      refine h v' w' ?_ h3
      unfold Nums
      rw [List.map_append, List.length_append]; exact h2
end Go.Proofs.Ytlkpddokmibkiaa
