/- Lets around a term: norm's within. -/
import Derived.Test.YtmcgocbkjdacaaaDoorNW
import Derived.Test.YtmcgocbkjdacaaaDoorNB
namespace Go.Proofs.YtmcgocbkjdacaaaDoor
open Go.RowKit Go.Shelf
set_option linter.unusedVariables false
set_option linter.unusedSimpArgs false
attribute [local go_sem] Oper.semAt_some
/-- The lets so far: those of the places that have come, the last one outermost. -/
def lr (ps : List (ByteArray × Et)) (b : Et) (pre : List (Fin ps.length)) : Et := pre.foldl (fun e x => ebind (ps[x.1]'x.2).1 (ps[x.1]'x.2).2 e) b
theorem lr_snoc (ps : List (ByteArray × Et)) (b : Et) (pre : List (Fin ps.length)) (x : Fin ps.length) : lr ps b (pre ++ [x]) = ebind (ps[x.1]'x.2).1 (ps[x.1]'x.2).2 (lr ps b pre) := by
  unfold lr; rw [List.foldl_append]; rfl
theorem lr_down (ps : List (ByteArray × Et)) (b : Et) : ∀ (k : Nat) (h : k ≤ ps.length), lr ps b (downTo ps.length k h) = lets (ps.drop (ps.length - k)) b
  | 0, h => by
    rw [Nat.sub_zero, List.drop_length]; rfl
  | k + 1, h => by
    rw [downTo_succ, lr_snoc, lr_down ps b k (by omega)]
    have e1 : ps.drop (ps.length - (k + 1)) = (ps[ps.length - 1 - k]'(by omega)) :: ps.drop (ps.length - k) := by
      rw [show ps.length - (k + 1) = ps.length - 1 - k by omega, List.drop_eq_getElem_cons (by omega)]
      congr 2; omega
    rw [e1]; rfl
theorem lr_all (ps : List (ByteArray × Et)) (b : Et) : lr ps b (downTo ps.length ps.length (Nat.le_refl _)) = lets ps b := by
  rw [lr_down]; simp
theorem wpListIn_store_row {F : Fence} {n : Nat} {P : Program} {ops : Array Oper} {rest : List Oper} {o : Oper} {a : Act} {w : World} {Q : Exit → Act → World → Prop} (hgd : o.guard = none) (ty : TypeId) (x y : Operand) (ho : o.op = .store ty x y)
    (g : Nat) (cells : Array Value) (hx : a.eval x = .pointer (some ⟨g, 0, none⟩)) (hy : a.eval y = .agg cells)
    (t : TypeId) (old : Array Value) (hg : w.heap[g]? = some (.cells old t (0, 0))) (hi : (P.info? ty).map (·.size) = some cells.size)
    (hold : old.size = cells.size) (h1 : cells.all (·.oneCell') = true)
    (h : wpListIn F n P ops Q rest (a.put o.dst undef) (w.setRow g cells)) : wpListIn F n P ops Q (o :: rest) a w := by
  refine wpListIn_plain hgd fun K hK => ?_
  unfold Oper.wpIn
  refine ⟨?_, ?_⟩
  · simp [Oper.about, ho]
  · rw [Oper.semAt_plain F _ _ (by rw [ho]; intro c hc; cases hc)]
    simp only [execOp, ho, hx, hy, Instr.storeAt, Instr.sureAddr, Sem.run_bind, Sem.run_pure, Result.andThen_ok, run_storeVar_row w g t ty old cells hg hi hold h1]
    exact hK _ _ h
/-- Values as cells, out of a slice. -/
def sOf (v : Option Value) : ByteArray := match v with | some (.string s) => s | _ => ⟨#[]⟩
def kOf (v : Option Value) : Int := match v with | some (.int _ k) => k | _ => 0
def aOf (v : Option Value) : Option Addr := match v with | some (.slice a _ _) => a | _ => none
def nOf (v : Option Value) : Nat := match v with | some (.slice _ n _) => n | _ => 0
def cOf (v : Option Value) : Nat := match v with | some (.slice _ _ c) => c | _ => 0
def valsOf (arr : Array Value) (o n : Nat) : Vals n := ⟨fun j => sOf arr[o + 5 * j]?, fun j => kOf arr[o + 5 * j + 1]?, fun j => sOf arr[o + 5 * j + 1 + 1]?, fun j => aOf arr[o + 5 * j + 1 + 2]?, fun j => nOf arr[o + 5 * j + 1 + 2]?, fun j => cOf arr[o + 5 * j + 1 + 2]?, fun j => aOf arr[o + 5 * j + 1 + 3]?, fun j => nOf arr[o + 5 * j + 1 + 3]?, fun j => cOf arr[o + 5 * j + 1 + 3]?⟩
theorem vals_at {S : Nat → Prop} {w : World} {g o cap : Nat} {ps : List (ByteArray × Et)} (h : VAt S w (.slice (some ⟨g, o, none⟩) ps.length cap) ps) :
    ∃ V : Vals ps.length, ValsAt w.heap.size w g o V ∧ ∀ j (hj : j < ps.length), V.s j = ps[j].1 ∧ Et.At S w ps[j].2 #[.int .i64 (V.k j), .string (V.t j), .slice (V.no j) (V.nn j) (V.nc j), .slice (V.ao j) (V.an j) (V.ac j)] := by
  rcases h with ⟨e, _⟩ | ⟨g', o', cap', arr, fz, e, hg, hc, hd⟩
  · cases e
  · injection e with e1 e2 e3
    injection e1 with e1
    injection e1 with e1 e4
    subst e1 e4 e3
    have key : ∀ j (hj : j < ps.length), ∃ k t no nn nc ao an ac, arr[o + 5 * j]? = some (.string ps[j].1) ∧ arr[o + 5 * j + 1]? = some (.int .i64 k) ∧ arr[o + 5 * j + 1 + 1]? = some (.string t) ∧ arr[o + 5 * j + 1 + 2]? = some (.slice no nn nc) ∧ arr[o + 5 * j + 1 + 3]? = some (.slice ao an ac) ∧ Et.At S w ps[j].2 #[.int .i64 k, .string t, .slice no nn nc, .slice ao an ac] := by
      intro j hj
      obtain ⟨cs, h4, h0, h1, h2⟩ := hd j hj
      obtain ⟨k, t, no, nn, nc, ao, an, ac, rfl⟩ := EAt_sl h2
      exact ⟨k, t, no, nn, nc, ao, an, ac, h0, h1 0 (by decide), h1 1 (by decide), h1 2 (by decide), h1 3 (by decide), h2⟩
    refine ⟨valsOf arr o ps.length, ⟨(Array.getElem?_eq_some_iff.1 hg).1, fun j hj => ?_⟩, fun j hj => ?_⟩
    · obtain ⟨k, t, no, nn, nc, ao, an, ac, a0, a1, a2, a3, a4, a5⟩ := key j hj
      rw [Nat.mul_comm] at a0 a1 a2 a3 a4
      simp only [valsOf, Lib.cell_of_heap hg, Nat.mul_comm 5 j, a0, a1, a2, a3, a4]
      exact ⟨rfl, rfl, rfl, rfl, rfl⟩
    · obtain ⟨k, t, no, nn, nc, ao, an, ac, a0, a1, a2, a3, a4, a5⟩ := key j hj
      simp only [valsOf, a0, a1, a2, a3, a4]
      exact ⟨rfl, a5⟩
def RetW (S : Nat → Prop) (e : Et) (w : World) (r : Ending) (w' : World) : Prop :=
  ∃ cs, r = .returned (.agg cs) ∧ Et.At (fun x => S x ∨ w.heap.size ≤ x) w' e cs ∧ Below w.heap.size w w'
theorem keeps_grown {S : Nat → Prop} {W W' : World} {row : Option Nat} (hg : W.grownBy W' row) (hr : ∀ r, row = some r → ∃ o : Obj, W.heap[r]? = some o ∧ o.isCells = false) : Keeps S W W' := by
  intro x c T fz _ hx _
  refine ⟨fz, ?_⟩
  rw [hg.block x (Array.getElem?_eq_some_iff.1 hx).1 ?_]
  · exact hx
  · intro e
    obtain ⟨o, ho, hc⟩ := hr x e.symm
    rw [hx] at ho
    cases ho
    cases hc
theorem row_grown {W W' : World} {row : Option Nat} {x : Nat} {c : Array Value} {T : TypeId} {fz : Nat × Nat} (hx : W.heap[x]? = some (.cells c T fz)) (hg : W.grownBy W' row) (hr : ∀ r, row = some r → ∃ o : Obj, W.heap[r]? = some o ∧ o.isCells = false) : W'.heap[x]? = some (.cells c T fz) := by
  rw [hg.block x (Array.getElem?_eq_some_iff.1 hx).1 ?_]
  · exact hx
  · intro e
    obtain ⟨o, ho, hc⟩ := hr x e.symm
    rw [hx] at ho
    cases ho
    cases hc
/-- What stands between two rounds. -/
def WInv (S : Nat → Prop) (w : World) (n2 : Nat) (ps : List (ByteArray × Et)) (b : Et) (pre : List (Fin ps.length)) (W : World) : Prop :=
  (∃ cs, W.heap[w.heap.size]? = some (.cells cs 28 (0, 0)) ∧ Et.At (fun x => (S x ∧ x < w.heap.size) ∨ n2 ≤ x) W (lr ps b pre) cs) ∧ W.heap[w.heap.size + 1]? = some (.cells Z4 28 (0, 0)) ∧ Below w.heap.size w W ∧ n2 ≤ W.heap.size
theorem WInv.own (S : Nat → Prop) (w : World) (n2 B : Nat) (hB : w.heap.size ≤ B) (ps : List (ByteArray × Et)) (b : Et) : OwnFrom B (WInv S w n2 ps b) := by
  intro pre W W' row hs hg hr
  obtain ⟨⟨cs, h1, h2⟩, h3, h4, h5⟩ := hs
  have hr2 : ∀ r, row = some r → ∃ o : Obj, W.heap[r]? = some o ∧ o.isCells = false := fun r e => (hr r e).2
  exact ⟨⟨cs, row_grown h1 hg hr2, Et.At.keeps (keeps_grown hg hr2) _ _ h2⟩, row_grown h3 hg hr2, h4.grown hg h4.size (fun k e => by have := (hr k e).1; omega), Nat.le_trans h5 hg.size⟩
set_option maxRecDepth 100000 in
set_option maxHeartbeats 8000000 in
theorem lets_some (e : Et) (ps : List (ByteArray × Et)) (S : Nat → Prop) (cs : Array Value) (g o cap : Nat) (w : World) (hat : Et.At S w e cs) (hv : VAt S w (.slice (some ⟨g, o, none⟩) ps.length cap) ps) (hn : ps.length ≤ 100000) :
    Calls Tryd.prog 52 #[.agg cs, .slice (some ⟨g, o, none⟩) ps.length cap] w (RetW S (lets ps e) w) := by
  obtain ⟨k0, t0, no0, nn0, nc0, ao0, an0, ac0, rfl⟩ := EAt_sl hat
  obtain ⟨V, hV1, hV2'⟩ := vals_at hv
  have hV2 := Lib.hid hV2'
  clear hV2'
  have A1 := (Below.refl w.heap.size w).alloc (Nat.le_refl _) (.cells #[.int .i64 k0, .string t0, .slice no0 nn0 nc0, .slice ao0 an0 ac0] 28)
  have A2 := A1.alloc A1.size (.cells Z4 28)
  have A3 := A2.alloc A2.size (.cells #[.slice (some ⟨g, o, none⟩) ps.length cap] 73)
  have s1 : (w.alloc (.cells #[.int .i64 k0, .string t0, .slice no0 nn0 nc0, .slice ao0 an0 ac0] 28)).heap.size = w.heap.size + 1 := by simp
  have s2 : ((w.alloc (.cells #[.int .i64 k0, .string t0, .slice no0 nn0 nc0, .slice ao0 an0 ac0] 28)).alloc (.cells Z4 28)).heap.size = w.heap.size + 1 + 1 := by simp
  have r0 : (((w.alloc (.cells #[.int .i64 k0, .string t0, .slice no0 nn0 nc0, .slice ao0 an0 ac0] 28)).alloc (.cells Z4 28)).alloc (.cells #[.slice (some ⟨g, o, none⟩) ps.length cap] 73)).heap[w.heap.size]? = some (.cells #[.int .i64 k0, .string t0, .slice no0 nn0 nc0, .slice ao0 an0 ac0] 28 (0, 0)) := (Lib.alloc_old _ _ _ (by rw [s2]; omega)).trans ((Lib.alloc_old _ _ _ (by rw [s1]; omega)).trans (alloc_at w _))
  have r1 : (((w.alloc (.cells #[.int .i64 k0, .string t0, .slice no0 nn0 nc0, .slice ao0 an0 ac0] 28)).alloc (.cells Z4 28)).alloc (.cells #[.slice (some ⟨g, o, none⟩) ps.length cap] 73)).heap[w.heap.size + 1]? = some (.cells Z4 28 (0, 0)) := (Lib.alloc_old _ _ _ (by rw [s2]; omega)).trans (by have h := alloc_at (w.alloc (.cells #[.int .i64 k0, .string t0, .slice no0 nn0 nc0, .slice ao0 an0 ac0] 28)) (.cells Z4 28); rw [s1] at h; exact h)
  have r2 : (((w.alloc (.cells #[.int .i64 k0, .string t0, .slice no0 nn0 nc0, .slice ao0 an0 ac0] 28)).alloc (.cells Z4 28)).alloc (.cells #[.slice (some ⟨g, o, none⟩) ps.length cap] 73)).heap[w.heap.size + 1 + 1]? = some (.cells #[.slice (some ⟨g, o, none⟩) ps.length cap] 73 (0, 0)) := by have h := alloc_at ((w.alloc (.cells #[.int .i64 k0, .string t0, .slice no0 nn0 nc0, .slice ao0 an0 ac0] 28)).alloc (.cells Z4 28)) (.cells #[.slice (some ⟨g, o, none⟩) ps.length cap] 73); rw [s2] at h; exact h
  have s3 : (((w.alloc (.cells #[.int .i64 k0, .string t0, .slice no0 nn0 nc0, .slice ao0 an0 ac0] 28)).alloc (.cells Z4 28)).alloc (.cells #[.slice (some ⟨g, o, none⟩) ps.length cap] 73)).heap.size = w.heap.size + 3 := by simp
  have HE0 := Lib.hid (Et.At.keeps (Keeps.of_below A3) _ _ (Et.At.bound _ _ hat))
  have HA3 := Lib.hid A3
  have HR0 := Lib.hid r0
  have HR1 := Lib.hid r1
  have HR2 := Lib.hid r2
  have HS3 := Lib.hid s3
  clear A1 A2 A3 s1 s2 r0 r1 r2 s3 hat hv
  refine (callsIn_wide (n := 8)).1 ?_
  refine callsIn_of_wp_marks Tryd.func52 rfl trivial ?_ rfl
  simp only [Tryd.ntmps52, List.size_toArray, List.length_cons, List.length_nil, Nat.reduceAdd, Nat.reduceSub, Array.replicate_succ, Array.replicate_zero, List.push_toArray, List.append_toArray, List.nil_append, List.cons_append]
  gi_wp2_with (refine ⟨trivial, ?_⟩; gi_at_call 56; refine (callsIn_wide.2 (back_any _ _ _ _)).mono ?_; rintro e w' ⟨rfl, rfl⟩)
  generalize ((w.alloc (.cells #[.int .i64 k0, .string t0, .slice no0 nn0 nc0, .slice ao0 an0 ac0] 28)).alloc (.cells #[.int .i64 0, .string ⟨#[]⟩, .slice none 0 0, .slice none 0 0] 28)).alloc (.cells #[.slice (some ⟨g, o, none⟩) ps.length cap] 73) = W2 at HA3 HR0 HR1 HR2 HS3 HE0 ⊢
  have hsz := HS3.out
  have c2 : W2.cell? ⟨w.heap.size + 1 + 1, 0, none⟩ = some (.slice (some ⟨g, o, none⟩) ps.length cap) := by rw [Lib.cell_of_heap HR2.out]; rfl
  refine wpIn_rangeFunc_ownH rfl (by omega) (gf := 59) (lb := #[.pointer (some ⟨w.heap.size + 1 + 1, 0, none⟩)]) rfl trivial (enters_of Tryd.func59 (by kernel_rfl) rfl)
    (back_stops Fence.wide 7 trivial rfl (by omega) (w.heap.size + 1 + 1) w.heap.size g o cap ps.length V hn W2 (by omega) (by omega) c2 (hV1.below HA3.out))
    KpB.trans (fun W l o o' hl h _ _ => ⟨(Below.refl _ W).grown (grownBy_putObj' W l o') (by have := (Array.getElem?_eq_some_iff.1 h).1; omega) (fun k e => by cases e; omega), (grownBy_putObj' W l o').block _ (by have := (Array.getElem?_eq_some_iff.1 h).1; omega) (fun e => by injection e with e; omega)⟩) (Below.refl _ _) (fun _ => rfl)
    (WInv S w W2.heap.size ps e) (fun _ _ _ => False) (WInv.own S w W2.heap.size W2.heap.size (by omega) ps e) (fun _ _ _ _ _ hs _ _ => hs)
    ⟨⟨_, HR0.out, Et.At.mono (fun x h => .inl h) _ _ HE0.out⟩, HR1.out, HA3.out, Nat.le_refl _⟩
    (fun x a' W => ∃ p6, W2.heap.size ≤ p6 ∧ W.heap[p6]? = some (.cells (V.row x.1) 75 (0, 0)) ∧ a' = { tmps := #[.agg #[.int .i64 k0, .string t0, .slice no0 nn0 nc0, .slice ao0 an0 ac0], .slice (some ⟨g, o, none⟩) ps.length cap, .pointer (some ⟨w.heap.size, 0, none⟩), undef, .pointer (some ⟨w.heap.size + 1, 0, none⟩), undef, .pointer (some ⟨p6, 0, none⟩), .slice (some ⟨g, o, none⟩) ps.length cap, .func (.func 59) #[] #[.pointer (some ⟨w.heap.size + 1 + 1, 0, none⟩)], .int .i64 (x.1 : Int), .agg (V.row x.1), undef, undef, undef, undef, undef, undef, undef, undef, undef], defers := [] })
    (fun x a' s A B row hs hg hr => by
      obtain ⟨p6, h1, h2, h3⟩ := hs
      exact ⟨p6, h1, row_grown h2 hg (fun r e => (hr r e).2), h3⟩) ?assign ?body ?done ?stop
  case assign =>
    rintro l pre x W K ⟨⟨cs, h1, h2⟩, h3, h4, hsW⟩ hK
    dsimp only [Vals.enc, Vals.row] at hK ⊢
    gi_wp2
    have hWs : W2.heap.size ≤ W.heap.size := hsW
    refine hK _ _ ((KeepsOthers.alloc _ _).from _) ⟨(Below.refl _ W).alloc h4.size _, Lib.alloc_old _ _ _ (by omega)⟩ ((WInv.own S w W2.heap.size W2.heap.size (by omega) ps e).alloc _ ⟨⟨cs, h1, h2⟩, h3, h4, hsW⟩) ⟨W.heap.size, hWs, alloc_at W _, rfl⟩
  case body =>
    rintro l pre x a' W hl ⟨r, hr⟩ ⟨⟨cs, h1, h2⟩, h3, h4, hsW⟩ ⟨p6, hp6, hrow, rfl⟩ hlt
    obtain ⟨k1, t1, no1, nn1, nc1, ao1, an1, ac1, rfl⟩ := EAt_sl h2
    obtain ⟨hs6, hv6⟩ := hV2.out x.1 x.2
    have hrow' := hrow
    unfold Vals.row at hrow'
    obtain ⟨s6, hs6'⟩ : ∃ s6, s6 = V.s x.1 := ⟨_, rfl⟩
    obtain ⟨k6, hk6⟩ : ∃ y, y = V.k x.1 := ⟨_, rfl⟩
    obtain ⟨t6, ht6⟩ : ∃ y, y = V.t x.1 := ⟨_, rfl⟩
    obtain ⟨no6, hno6⟩ : ∃ y, y = V.no x.1 := ⟨_, rfl⟩
    obtain ⟨nn6, hnn6⟩ : ∃ y, y = V.nn x.1 := ⟨_, rfl⟩
    obtain ⟨nc6, hnc6⟩ : ∃ y, y = V.nc x.1 := ⟨_, rfl⟩
    obtain ⟨ao6, hao6⟩ : ∃ y, y = V.ao x.1 := ⟨_, rfl⟩
    obtain ⟨an6, han6⟩ : ∃ y, y = V.an x.1 := ⟨_, rfl⟩
    obtain ⟨ac6, hac6⟩ : ∃ y, y = V.ac x.1 := ⟨_, rfl⟩
    rw [← hs6', ← hk6, ← ht6, ← hno6, ← hnn6, ← hnc6, ← hao6, ← han6, ← hac6] at hrow'
    rw [← hk6, ← ht6, ← hno6, ← hnn6, ← hnc6, ← hao6, ← han6, ← hac6] at hv6
    rw [← hs6'] at hs6
    have d0 : W.cell? ⟨p6, 0, none⟩ = some (.string s6) := by rw [Lib.cell_of_heap hrow']; rfl
    have B4 := (Below.refl W.heap.size W).alloc (Nat.le_refl _) (.cells #[.string s6] 9)
    have q6 : (W.alloc (.cells #[.string s6] 9)).heap[p6]? = some (.cells #[.string s6, .int .i64 k6, .string t6, .slice no6 nn6 nc6, .slice ao6 an6 ac6] 75 (0, 0)) := row_below B4 hrow'
    have qe : (W.alloc (.cells #[.string s6] 9)).heap[w.heap.size]? = some (.cells #[.int .i64 k1, .string t1, .slice no1 nn1 nc1, .slice ao1 an1 ac1] 28 (0, 0)) := row_below B4 h1
    have d1 : (W.alloc (.cells #[.string s6] 9)).cell? ⟨p6, 1, none⟩ = some (.int .i64 k6) := by rw [Lib.cell_of_heap q6]; rfl
    have d2 : (W.alloc (.cells #[.string s6] 9)).cell? ⟨p6, 2, none⟩ = some (.string t6) := by rw [Lib.cell_of_heap q6]; rfl
    have d3 : (W.alloc (.cells #[.string s6] 9)).cell? ⟨p6, 3, none⟩ = some (.slice no6 nn6 nc6) := by rw [Lib.cell_of_heap q6]; rfl
    have d4 : (W.alloc (.cells #[.string s6] 9)).cell? ⟨p6, 4, none⟩ = some (.slice ao6 an6 ac6) := by rw [Lib.cell_of_heap q6]; rfl
    obtain ⟨f0, f1, f2, f3⟩ := EB.cell _ _ _ _ _ _ (show EB (W.alloc (.cells #[.string s6] 9)) w.heap.size k1 t1 _ _ from qe)
    have HROW := Lib.hid hrow
    have H1 := Lib.hid h1
    have H2 := Lib.hid h2
    have H3 := Lib.hid h3
    have H4 := Lib.hid h4
    have HV6 := Lib.hid hv6
    have HS6 := Lib.hid hs6
    have B5 := B4.alloc B4.size (.cells #[.int .i64 k6, .string t6, .slice no6 nn6 nc6, .slice ao6 an6 ac6, .int .i64 k1, .string t1, .slice no1 nn1 nc1, .slice ao1 an1 ac1] 28)
    have HE5 : Hid (((W.alloc (.cells #[.string s6] 9)).alloc (.cells #[.int .i64 k6, .string t6, .slice no6 nn6 nc6, .slice ao6 an6 ac6, .int .i64 k1, .string t1, .slice no1 nn1 nc1, .slice ao1 an1 ac1] 28)).heap[w.heap.size]? = some (.cells #[.int .i64 k1, .string t1, .slice no1 nn1 nc1, .slice ao1 an1 ac1] 28 (0, 0))) := row_below B5 h1
    have hone : (bindRow W.heap.size).all (·.oneCell') = true := by simp [Value.oneCell']
    have HB5 := Lib.hid B5
    clear B5 hrow hrow' h1 h2 h3 h4 hv6 hs6 hs6' hk6 ht6 hno6 hnn6 hnc6 hao6 han6 hac6 B4 q6 qe hsz c2
    gi_wp2_with (refine wpListIn_store_row rfl 28 _ _ rfl w.heap.size (bindRow W.heap.size) rfl rfl 28 _ HE5.out info28 rfl hone ?_)
    have hsz := HS3.out
    have hwW : w.heap.size < W.heap.size := by omega
    have hb5 := HB5.out
    have hnew := bind_row (g2 := w.heap.size) (s := s6) (Et.At.mono (fun x h => .inl h) _ _ (Et.At.keeps (Keeps.of_below (H4.out)) _ _ (Et.At.bound _ _ HV6.out))) H2.out (fun x hx => by rcases hx with hx | hx <;> omega) hwW rfl rfl
    have hs5 := hb5.size
    have hot : ∀ k, k < W.heap.size → k ≠ w.heap.size → (((W.alloc (.cells #[.string s6] 9)).alloc (.cells #[.int .i64 k6, .string t6, .slice no6 nn6 nc6, .slice ao6 an6 ac6, .int .i64 k1, .string t1, .slice no1 nn1 nc1, .slice ao1 an1 ac1] 28)).setRow w.heap.size (bindRow W.heap.size)).heap[k]? = W.heap[k]? := fun k hk hne => (setRow_other _ _ k _ hne).trans (hb5.block k hk)
    have hbw : Below w.heap.size W (((W.alloc (.cells #[.string s6] 9)).alloc (.cells #[.int .i64 k6, .string t6, .slice no6 nn6 nc6, .slice ao6 an6 ac6, .int .i64 k1, .string t1, .slice no1 nn1 nc1, .slice ao1 an1 ac1] 28)).setRow w.heap.size (bindRow W.heap.size)) := Below.setRowUp (hb5.mono (by omega)) _ _ (Nat.le_refl _)
    refine ⟨⟨hbw.size, fun k o hB hk hc => ?_⟩, ⟨hbw, hot _ (by omega) (by omega)⟩, ⟨⟨_, setRow_heap _ _ _ _ 28 _ HE5.out, ?_⟩, ?_, H4.out.trans hbw, ?_⟩⟩
    · rw [hot k (Array.getElem?_eq_some_iff.1 hk).1 (by omega)]; exact hk
    · rw [lr_snoc, ← HS6.out]
      refine Et.At.mono (fun x hx => ?_) _ _ hnew
      rcases hx with hx | hx
      · exact hx
      · exact .inr (by have : W.heap.size ≤ x := hx; omega)
    · rw [hot _ (by omega) (by omega)]; exact H3.out
    · have := hbw.size; omega
  case done =>
    rintro D ys W hD rfl ⟨⟨cs, h1, h2⟩, h3, h4, hsW⟩ hK
    rw [lr_all] at h2
    obtain ⟨k1, t1, no1, nn1, nc1, ao1, an1, ac1, rfl⟩ := EAt_sl h2
    obtain ⟨f0, f1, f2, f3⟩ := EB.cell _ _ _ _ _ _ (show EB W w.heap.size k1 t1 _ _ from h1)
    have hone : (#[.int .i64 k1, .string t1, .slice no1 nn1 nc1, .slice ao1 an1 ac1] : Array Value).all (·.oneCell') = true := by simp [Value.oneCell']
    gi_wp2_with (refine wpListIn_store_row rfl 28 _ _ rfl (w.heap.size + 1) #[.int .i64 k1, .string t1, .slice no1 nn1 nc1, .slice ao1 an1 ac1] rfl rfl 28 Z4 h3 info28 rfl hone ?_)
    have hsz := HS3.out
    have hlt1 : w.heap.size + 1 < W.heap.size := by omega
    have hK2 : (W.setRow (w.heap.size + 1) #[.int .i64 k1, .string t1, .slice no1 nn1 nc1, .slice ao1 an1 ac1]).heap[D]? = some (.deferred (some [])) := by rw [setRow_other _ _ D _ (by omega)]; exact hK
    have hro := setRow_heap W (w.heap.size + 1) _ #[.int .i64 k1, .string t1, .slice no1 nn1 nc1, .slice ao1 an1 ac1] 28 _ h3
    have hdn : D ≠ w.heap.size + 1 := by omega
    obtain ⟨W5, hW5⟩ : ∃ W5, W5 = W.setRow (w.heap.size + 1) #[.int .i64 k1, .string t1, .slice no1 nn1 nc1, .slice ao1 an1 ac1] := ⟨_, rfl⟩
    have hat5 : Et.At (fun x => S x ∨ w.heap.size ≤ x) W5 (lets ps e) #[.int .i64 k1, .string t1, .slice no1 nn1 nc1, .slice ao1 an1 ac1] := by
      rw [hW5]
      refine Et.At.mono (fun x hx => ?_) _ _ (Et.At.keeps (S := fun x => (S x ∧ x < w.heap.size) ∨ W2.heap.size ≤ x) (fun x c T fz hx hxx _ => ⟨fz, by rw [setRow_other _ _ x _ (by rcases hx with hx | hx <;> omega)]; exact hxx⟩) _ _ h2)
      rcases hx with hx | hx
      · exact .inl hx.1
      · exact .inr (by have : W2.heap.size ≤ x := hx; omega)
    have hb5 : Below w.heap.size w W5 := by rw [hW5]; exact Below.setRowUp h4 _ _ (by omega)
    rw [← hW5] at hK2 hro ⊢
    have hg5 := grownBy_putObj' W5 D (.deferred none)
    have hDl : D < W5.heap.size := (Array.getElem?_eq_some_iff.1 hK2).1
    have hr6 : (W5.putObj D (.deferred none)).heap[w.heap.size + 1]? = some (.cells #[.int .i64 k1, .string t1, .slice no1 nn1 nc1, .slice ao1 an1 ac1] 28 (0, 0)) := row_grown hro hg5 (fun r e => by injection e with e; subst e; exact ⟨_, hK2, rfl⟩)
    refine ⟨by simp [Act.put], .inl ⟨_, _, rfl, run_takeDeferred hK2, ?_⟩⟩
    refine ⟨_, results_cell_row rfl _ _ (w.heap.size + 1) 28 #[.int .i64 k1, .string t1, .slice no1 nn1 nc1, .slice ao1 an1 ac1] (0, 0) _ rfl hr6 Tryd.underlying28 rfl info28, _, rfl, Et.At.keeps (keeps_grown hg5 (fun r e => by injection e with e; subst e; exact ⟨_, hK2, rfl⟩)) _ _ hat5, ?_⟩
    exact hb5.grown hg5 hb5.size (fun k e => by injection e with e; omega)
  case stop =>
    rintro D c pre W _ _ h _
    exact h.elim
set_option maxRecDepth 100000 in
set_option maxHeartbeats 8000000 in
theorem lets_none (e : Et) (S : Nat → Prop) (cs : Array Value) (w : World) (hat : Et.At S w e cs) :
    Calls Tryd.prog 52 #[.agg cs, .slice none 0 0] w (RetW S e w) := by
  obtain ⟨k0, t0, no0, nn0, nc0, ao0, an0, ac0, rfl⟩ := EAt_sl hat
  have A1 := (Below.refl w.heap.size w).alloc (Nat.le_refl _) (.cells #[.int .i64 k0, .string t0, .slice no0 nn0 nc0, .slice ao0 an0 ac0] 28)
  have A2 := A1.alloc A1.size (.cells Z4 28)
  have A3 := A2.alloc A2.size (.cells #[.slice none 0 0] 73)
  have s1 : (w.alloc (.cells #[.int .i64 k0, .string t0, .slice no0 nn0 nc0, .slice ao0 an0 ac0] 28)).heap.size = w.heap.size + 1 := by simp
  have s2 : ((w.alloc (.cells #[.int .i64 k0, .string t0, .slice no0 nn0 nc0, .slice ao0 an0 ac0] 28)).alloc (.cells Z4 28)).heap.size = w.heap.size + 1 + 1 := by simp
  have r0 : (((w.alloc (.cells #[.int .i64 k0, .string t0, .slice no0 nn0 nc0, .slice ao0 an0 ac0] 28)).alloc (.cells Z4 28)).alloc (.cells #[.slice none 0 0] 73)).heap[w.heap.size]? = some (.cells #[.int .i64 k0, .string t0, .slice no0 nn0 nc0, .slice ao0 an0 ac0] 28 (0, 0)) := (Lib.alloc_old _ _ _ (by rw [s2]; omega)).trans ((Lib.alloc_old _ _ _ (by rw [s1]; omega)).trans (alloc_at w _))
  have r1 : (((w.alloc (.cells #[.int .i64 k0, .string t0, .slice no0 nn0 nc0, .slice ao0 an0 ac0] 28)).alloc (.cells Z4 28)).alloc (.cells #[.slice none 0 0] 73)).heap[w.heap.size + 1]? = some (.cells Z4 28 (0, 0)) := (Lib.alloc_old _ _ _ (by rw [s2]; omega)).trans (by have h := alloc_at (w.alloc (.cells #[.int .i64 k0, .string t0, .slice no0 nn0 nc0, .slice ao0 an0 ac0] 28)) (.cells Z4 28); rw [s1] at h; exact h)
  have r2 : (((w.alloc (.cells #[.int .i64 k0, .string t0, .slice no0 nn0 nc0, .slice ao0 an0 ac0] 28)).alloc (.cells Z4 28)).alloc (.cells #[.slice none 0 0] 73)).heap[w.heap.size + 1 + 1]? = some (.cells #[.slice none 0 0] 73 (0, 0)) := by have h := alloc_at ((w.alloc (.cells #[.int .i64 k0, .string t0, .slice no0 nn0 nc0, .slice ao0 an0 ac0] 28)).alloc (.cells Z4 28)) (.cells #[.slice none 0 0] 73); rw [s2] at h; exact h
  have s3 : (((w.alloc (.cells #[.int .i64 k0, .string t0, .slice no0 nn0 nc0, .slice ao0 an0 ac0] 28)).alloc (.cells Z4 28)).alloc (.cells #[.slice none 0 0] 73)).heap.size = w.heap.size + 3 := by simp
  have HE0 := Lib.hid (Et.At.keeps (Keeps.of_below A3) _ _ (Et.At.bound _ _ hat))
  have HA3 := Lib.hid A3
  have HR0 := Lib.hid r0
  have HR1 := Lib.hid r1
  have HR2 := Lib.hid r2
  have HS3 := Lib.hid s3
  clear A1 A2 A3 s1 s2 r0 r1 r2 s3 hat
  refine (callsIn_wide (n := 8)).1 ?_
  refine callsIn_of_wp_marks Tryd.func52 rfl trivial ?_ rfl
  simp only [Tryd.ntmps52, List.size_toArray, List.length_cons, List.length_nil, Nat.reduceAdd, Nat.reduceSub, Array.replicate_succ, Array.replicate_zero, List.push_toArray, List.append_toArray, List.nil_append, List.cons_append]
  gi_wp2_with (refine ⟨trivial, ?_⟩; gi_at_call 56; refine (callsIn_wide.2 (back_any _ _ _ _)).mono ?_; rintro e w' ⟨rfl, rfl⟩)
  generalize ((w.alloc (.cells #[.int .i64 k0, .string t0, .slice no0 nn0 nc0, .slice ao0 an0 ac0] 28)).alloc (.cells #[.int .i64 0, .string ⟨#[]⟩, .slice none 0 0, .slice none 0 0] 28)).alloc (.cells #[.slice none 0 0] 73) = W2 at HA3 HR0 HR1 HR2 HS3 HE0 ⊢
  have hsz := HS3.out
  have c2 : W2.cell? ⟨w.heap.size + 1 + 1, 0, none⟩ = some (.slice none 0 0) := by rw [Lib.cell_of_heap HR2.out]; rfl
  let V0 : Vals 0 := ⟨fun _ => ⟨#[]⟩, fun _ => 0, fun _ => ⟨#[]⟩, fun _ => none, fun _ => 0, fun _ => 0, fun _ => none, fun _ => 0, fun _ => 0⟩
  refine wpIn_rangeFunc_ownH rfl (by omega) (gf := 59) (lb := #[.pointer (some ⟨w.heap.size + 1 + 1, 0, none⟩)]) rfl trivial (enters_of Tryd.func59 (by kernel_rfl) rfl)
    (back_stops_nil Fence.wide 7 trivial rfl (w.heap.size + 1 + 1) w.heap.size V0 W2 (by omega) c2)
    KpB.trans (fun W l o o' hl h _ _ => ⟨(Below.refl _ W).grown (grownBy_putObj' W l o') (by have := (Array.getElem?_eq_some_iff.1 h).1; omega) (fun k e => by cases e; omega), (grownBy_putObj' W l o').block _ (by have := (Array.getElem?_eq_some_iff.1 h).1; omega) (fun e => by injection e with e; omega)⟩) (Below.refl _ _) (fun _ => rfl)
    (fun _ W => (W.heap[w.heap.size]? = some (.cells #[.int .i64 k0, .string t0, .slice no0 nn0 nc0, .slice ao0 an0 ac0] 28 (0, 0)) ∧ Et.At (fun x => S x ∧ x < w.heap.size) W e #[.int .i64 k0, .string t0, .slice no0 nn0 nc0, .slice ao0 an0 ac0]) ∧ W.heap[w.heap.size + 1]? = some (.cells Z4 28 (0, 0)) ∧ Below w.heap.size w W ∧ W2.heap.size ≤ W.heap.size) (fun _ _ _ => False)
    (fun pre W W' row hs hg hr => by
      obtain ⟨⟨h1, h2⟩, h3, h4, h5⟩ := hs
      have hr2 : ∀ r, row = some r → ∃ o : Obj, W.heap[r]? = some o ∧ o.isCells = false := fun r e => (hr r e).2
      exact ⟨⟨row_grown h1 hg hr2, Et.At.keeps (keeps_grown hg hr2) _ _ h2⟩, row_grown h3 hg hr2, h4.grown hg h4.size (fun k e => by have := (hr k e).1; omega), Nat.le_trans h5 hg.size⟩)
    (fun _ _ _ _ _ hs _ _ => hs)
    ⟨⟨HR0.out, HE0.out⟩, HR1.out, HA3.out, Nat.le_refl _⟩ (fun _ _ _ => False) (fun _ _ _ _ _ _ hs _ _ => hs) ?assign ?body ?done ?stop
  case assign =>
    rintro l pre x
    exact x.elim0
  case body =>
    rintro l pre x
    exact x.elim0
  case done =>
    rintro D ys W hD - ⟨⟨h1, h2⟩, h3, h4, hsW⟩ hK
    obtain ⟨f0, f1, f2, f3⟩ := EB.cell _ _ _ _ _ _ (show EB W w.heap.size k0 t0 _ _ from h1)
    have hone : (#[.int .i64 k0, .string t0, .slice no0 nn0 nc0, .slice ao0 an0 ac0] : Array Value).all (·.oneCell') = true := by simp [Value.oneCell']
    gi_wp2_with (refine wpListIn_store_row rfl 28 _ _ rfl (w.heap.size + 1) #[.int .i64 k0, .string t0, .slice no0 nn0 nc0, .slice ao0 an0 ac0] rfl rfl 28 Z4 h3 info28 rfl hone ?_)
    have hsz := HS3.out
    have hlt1 : w.heap.size + 1 < W.heap.size := by omega
    have hK2 : (W.setRow (w.heap.size + 1) #[.int .i64 k0, .string t0, .slice no0 nn0 nc0, .slice ao0 an0 ac0]).heap[D]? = some (.deferred (some [])) := by rw [setRow_other _ _ D _ (by omega)]; exact hK
    have hro := setRow_heap W (w.heap.size + 1) _ #[.int .i64 k0, .string t0, .slice no0 nn0 nc0, .slice ao0 an0 ac0] 28 _ h3
    obtain ⟨W5, hW5⟩ : ∃ W5, W5 = W.setRow (w.heap.size + 1) #[.int .i64 k0, .string t0, .slice no0 nn0 nc0, .slice ao0 an0 ac0] := ⟨_, rfl⟩
    have hat5 : Et.At (fun x => S x ∨ w.heap.size ≤ x) W5 e #[.int .i64 k0, .string t0, .slice no0 nn0 nc0, .slice ao0 an0 ac0] := by
      rw [hW5]
      exact Et.At.mono (fun x hx => .inl hx.1) _ _ (Et.At.keeps (S := fun x => S x ∧ x < w.heap.size) (fun x c T fz hx hxx _ => ⟨fz, by rw [setRow_other _ _ x _ (by have := hx.2; omega)]; exact hxx⟩) _ _ h2)
    have hb5 : Below w.heap.size w W5 := by rw [hW5]; exact Below.setRowUp h4 _ _ (by omega)
    rw [← hW5] at hK2 hro ⊢
    have hg5 := grownBy_putObj' W5 D (.deferred none)
    have hr6 : (W5.putObj D (.deferred none)).heap[w.heap.size + 1]? = some (.cells #[.int .i64 k0, .string t0, .slice no0 nn0 nc0, .slice ao0 an0 ac0] 28 (0, 0)) := row_grown hro hg5 (fun r e => by injection e with e; subst e; exact ⟨_, hK2, rfl⟩)
    refine ⟨by simp [Act.put], .inl ⟨_, _, rfl, run_takeDeferred hK2, ?_⟩⟩
    refine ⟨_, results_cell_row rfl _ _ (w.heap.size + 1) 28 #[.int .i64 k0, .string t0, .slice no0 nn0 nc0, .slice ao0 an0 ac0] (0, 0) _ rfl hr6 Tryd.underlying28 rfl info28, _, rfl, Et.At.keeps (keeps_grown hg5 (fun r e => by injection e with e; subst e; exact ⟨_, hK2, rfl⟩)) _ _ hat5, ?_⟩
    exact hb5.grown hg5 hb5.size (fun k e => by injection e with e; omega)
  case stop =>
    rintro D c pre W _ _ h _
    exact h.elim
/-- norm's within: a let around a term for each value, the first one's outermost. -/
theorem lets_any (e : Et) (ps : List (ByteArray × Et)) (S : Nat → Prop) (cs : Array Value) (vv : Value) (w : World) (hat : Et.At S w e cs) (hv : VAt S w vv ps) (hn : ps.length ≤ 100000) :
    Calls Tryd.prog 52 #[.agg cs, vv] w (RetW S (lets ps e) w) := by
  have hv0 := hv
  rcases hv with ⟨rfl, rfl⟩ | ⟨g, o, cap, arr, fz, rfl, _⟩
  · exact lets_none e S cs w hat
  · exact lets_some e ps S cs g o cap w hat hv0 hn
end Go.Proofs.YtmcgocbkjdacaaaDoor
