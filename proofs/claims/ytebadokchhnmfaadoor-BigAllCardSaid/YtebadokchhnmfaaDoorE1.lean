/- Two rows of limbs are compared: whether they are one. -/
import Derived.Test.YtebadokchhnmfaaDoorP1
import Derived.Laws.StructEq
namespace Go.Proofs.YtebadokchhnmfaaDoor
open Go.RowKit Go.BigM
set_option linter.unusedVariables false

theorem all_range_nat : ∀ (xs ys : List Nat), xs.length = ys.length → ((List.range xs.length).all fun i => xs.getD i 0 == ys.getD i 0) = (xs == ys)
  | [], [], _ => rfl
  | x :: xs, y :: ys, h => by
    have ih := all_range_nat xs ys (by simpa using h)
    rw [List.length_cons, List.range_succ_eq_map, List.all_cons, List.all_map]
    simp only [List.getD_cons_zero, Function.comp_def, List.getD_cons_succ, ih]
    simp [List.cons_beq_cons]
  | [], _ :: _, h => by simp at h
  | _ :: _, [], h => by simp at h

section
variable {P : Program} (w : World)
theorem run_equalIn_limbs (d : Nat) (t e : TypeId) (n : Nat) (ht : P.underlying t = some (.array n e)) (he : P.underlying e = some (.int .u32)) (hsz : ∀ w, (sizeOf e).run P w = .ok 1 w)
    (xs ys : List Nat) (hx : xs.length = n) (hy : ys.length = n) :
    (Op.equalIn (d + 2) t (.agg (U xs)) (.agg (U ys))).run P w = .ok (xs == ys) w := by
  rw [← all_range_nat xs ys (hx.trans hy.symm), hx, List.range_eq_range', Op.equalIn]
  simp only [Sem.run_bind, run_underlying ht, Result.andThen_ok, hsz, Std.Legacy.Range.forIn_eq_forIn_range', Std.Legacy.Range.size, Nat.sub_zero, Nat.add_sub_cancel, Nat.div_one]
  have hl : ∀ i ∈ List.range' 0 n 1, i < n := fun i hi => by simpa using (List.mem_range'_1.1 hi).2
  generalize List.range' 0 n 1 = l at hl ⊢
  induction l with
  | nil => simp
  | cons i l ih =>
    have hi : i < n := hl i (by simp)
    have gx := U_get xs i (by omega)
    have gy := U_get ys i (by omega)
    have px : (part e (U xs) (i * 1)).run P w = .ok (.int .u32 (xs.getD i 0 : Nat)) w := by
      simp [part, isAgg, run_underlying he, gx, lg]
    have py : (part e (U ys) (i * 1)).run P w = .ok (.int .u32 (ys.getD i 0 : Nat)) w := by
      simp [part, isAgg, run_underlying he, gy, lg]
    have pe : (Op.equalIn (d + 1) e (.int .u32 (xs.getD i 0 : Nat)) (.int .u32 (ys.getD i 0 : Nat))).run P w = .ok (xs.getD i 0 == ys.getD i 0) w := by
      rw [run_equalIn_int w d e .u32 .u32 _ _ he]
      congr 1
      rw [Bool.eq_iff_iff, beq_iff_eq, beq_iff_eq]
      omega
    simp only [List.forIn_cons, Sem.run_bind, px, py, pe, Result.andThen_ok, List.all_cons]
    cases hb : (xs.getD i 0 == ys.getD i 0)
    · simp
    · simp only [Bool.not_true, Bool.false_eq_true, if_false, Sem.run_pure, Result.andThen_ok, Bool.true_and]
      exact ih fun j hj => hl j (by simp [hj])
theorem run_eql_limbs (t e : TypeId) (n : Nat) (ht : P.underlying t = some (.array n e)) (he : P.underlying e = some (.int .u32)) (hsz : ∀ w, (sizeOf e).run P w = .ok 1 w)
    (xs ys : List Nat) (hx : xs.length = n) (hy : ys.length = n) :
    (binOp .eql t (.agg (U xs)) (.agg (U ys))).run P w = .ok (.bool (xs == ys)) w := by
  rw [run_eql_struct, run_equalIn_limbs w 9998 t e n ht he hsz xs ys hx hy]
  rfl
end
theorem eql_limbs (xs ys : List Nat) (hx : xs.length = 46) (hy : ys.length = 46) (w : World) : (binOp .eql 47 (.agg (U xs)) (.agg (U ys))).run Tryd.prog w = .ok (.bool (xs == ys)) w :=
  run_eql_limbs w 47 45 46 Tryd.underlying47 Tryd.underlying45 (fun w => by kernel_rfl) xs ys hx hy
end Go.Proofs.YtebadokchhnmfaaDoor
