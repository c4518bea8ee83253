/- finished: the innermost list is taken off. -/
import Derived.Test.YtkjcbaikebdmmaaDoorJ2
import Derived.Deep.RegionHeld3
import Derived.Deep.MidRow
import Derived.Deep.Cut
namespace Go.Proofs.YtkjcbaikebdmmaaDoor
open Go.RowKit
set_option linter.unusedVariables false
set_option linter.unusedSimpArgs false

theorem results_row3 {P : Program} {fn : Func} {p u : Tmp} {ty : TypeId} (h : fn.results = #[.tmp u, .cell p ty]) (tmps : Array Value) (w : World) (g : Nat) (t : TypeId) (cs : Array Value) (fr : Nat × Nat) (d : TypeDesc) (r : Value)
    (hp : tmps.getD p undef = .pointer (some ⟨g, 0, none⟩)) (hg : w.heap[g]? = some (.cells cs t fr))
    (hu : P.underlying ty = some d) (hd : (match d with | .struct _ | .array _ _ => true | _ => false) = true) (hi : (P.info? ty).map (·.size) = some cs.size) (hr : tmps.getD u undef = r) :
    (results fn tmps).run P w = .ok (.tuple #[r, .agg cs]) w := by
  have hp' : tmps[p]?.getD undef = .pointer (some ⟨g, 0, none⟩) := by simpa using hp
  have hr' : tmps[u]?.getD undef = r := by simpa using hr
  simp [results, h, hp', hr', asAddr, run_loadVar_row w g t ty cs fr d hg hu hd hi, Sem.run_bind, Result.andThen]
theorem range5 {w w' : World} {b o : Nat} {x0 x1 x2 x3 x4 : Value} (h : ∀ a : Addr, a.block = b → a.block < w.heap.size → w'.cell? a = w.cell? a) (hb : b < w.heap.size)
    (e0 : w.cell? ⟨b, o, none⟩ = some x0) (e1 : w.cell? ⟨b, o + 1, none⟩ = some x1) (e2 : w.cell? ⟨b, o + 2, none⟩ = some x2) (e3 : w.cell? ⟨b, o + 3, none⟩ = some x3) (e4 : w.cell? ⟨b, o + 4, none⟩ = some x4) : w'.rangeAt b o [x0, x1, x2, x3, x4] := by
  intro j v hv
  rw [h ⟨b, o + j, none⟩ rfl hb]
  rcases j with _ | _ | _ | _ | _ | j
  · simp at hv; subst hv; exact e0
  · simp at hv; subst hv; exact e1
  · simp at hv; subst hv; exact e2
  · simp at hv; subst hv; exact e3
  · simp at hv; subst hv; exact e4
  · simp at hv

set_option maxHeartbeats 2000000 in
set_option maxRecDepth 100000 in
theorem finished_any (g n m c : Nat) (w : World) (hm : n = m + 1) (hn : n ≤ 100000) (hc : n ≤ c) (hcm : c ≤ maxLen) {k : Int} {t : ByteArray} {mv lv : Value} {p : Int} (e0 : w.cell? ⟨g, m * 6, none⟩ = some (.int .i64 k)) (e1 : w.cell? ⟨g, m * 6 + 1, none⟩ = some (.string t)) (e2 : w.cell? ⟨g, m * 6 + 2, none⟩ = some mv)
    (e3 : w.cell? ⟨g, m * 6 + 3, none⟩ = some lv) (e4 : w.cell? ⟨g, m * 6 + 4, none⟩ = some (.int .i64 p)) (o1 : mv.oneCell' = true) (o2 : lv.oneCell' = true) :
    Calls Tryd.prog 32 #[.slice (some ⟨g, 0, none⟩) n c] w fun e w' => e = .returned (.tuple #[.slice (some ⟨g, 0, none⟩) m c, .agg #[.int .i64 k, .string t, mv, lv, .int .i64 p]]) ∧ Below w.heap.size w w' := by
  have hgl : g < w.heap.size := World.block_lt_of_cell? w _ e0
  have z1 : (#[.int .i64 k, .string t, mv, lv, .int .i64 p] : Array Value).all (·.oneCell') = true := by simp [Value.oneCell'] at o1 o2 ⊢; exact ⟨o1, o2⟩
  have FD : Hid (∀ w, Calls Tryd.prog 29 #[.slice (some ⟨g, 0, none⟩) n c] w fun e w' => e = .returned (.int .i64 (m : Int)) ∧ w = w') := fun w => by
    have h := deep_any (some ⟨g, 0, none⟩) n c w (by omega) hn
    rw [show ((n : Int) - 1) = (m : Int) by omega] at h
    exact h
  have FI : Hid (∀ w, Calls Tryd.prog 31 #[.slice (some ⟨g, 0, none⟩) n c] w fun e w' => e = .returned (.pointer (some ⟨g, m * 6, none⟩)) ∧ w = w') := fun w => by
    have h := inner_any g n c w (by omega) hn
    rw [show n - 1 = m by omega] at h
    exact h
  have E0 := Lib.hid e0
  have E1 := Lib.hid e1
  have E2 := Lib.hid e2
  have E3 := Lib.hid e3
  have E4 := Lib.hid e4
  have hmc : m ≤ c := by omega
  have hmn : m ≤ n := by omega
  have hW := alloc_at w (.cells Z5 40)
  have hB : Below w.heap.size w (w.alloc (.cells Z5 40)) := (Below.refl _ _).alloc (Nat.le_refl _) _
  clear e0 e1 e2 e3 e4 hm
  unfold maxLen at hcm
  go_enter Tryd.func32, Tryd.ntmps32
  go_upto_region 1 with fail
  change Code.wp Tryd.prog _ _ _ (w.alloc (.cells Z5 40))
  generalize w.alloc (.cells Z5 40) = W at hW hB ⊢
  have HW := Lib.hid hW
  have HB := Lib.hid hB
  have hws := hB.size
  clear hW hB
  refine wp_region_noPanic ?_
  refine wp_region_held_drew (S := Below w.heap.size W) (by kernel_rfl) ((Below.refl _ _).drew) (fun hHeld => ?_)
  obtain ⟨WD, hWD⟩ : ∃ x, x = W.drew := ⟨_, rfl⟩
  rw [← hWD] at hHeld ⊢
  have H1 : WD.heap[w.heap.size]? = some (.cells Z5 40 (0, 0)) := by rw [hWD]; exact HW.out
  replace H1 := Lib.hid H1
  clear hWD
  refine wpAnyH_take (i := 0) (v := Value.slice (some ⟨g, 0, none⟩) n c) rfl (by kernel_rfl) (by kernel_rfl) (by kernel_rfl) (fun _ _ _ h => h) (Or.inl ⟨rfl, fun w' hw' => ?_⟩) hHeld ?_
  · go_simp
  simp only [List.getElem_toArray, List.getElem_cons_succ, List.getElem_cons_zero, Act.put, List.setIfInBounds_toArray, List.set_cons_zero, List.set_cons_succ]
  refine wpAnyH_take (i := 1) (v := Value.slice (some ⟨g, 0, none⟩) n c) rfl (by kernel_rfl) (by kernel_rfl) (by kernel_rfl) (fun _ _ _ h => h) (Or.inl ⟨rfl, fun w' hw' => ?_⟩) hHeld ?_
  · go_simp
  simp only [List.getElem_toArray, List.getElem_cons_succ, List.getElem_cons_zero, Act.put, List.setIfInBounds_toArray, List.set_cons_zero, List.set_cons_succ]
  refine wpAnyH_take (i := 4) (v := Value.slice (some ⟨g, 0, none⟩) n c) rfl (by kernel_rfl) (by kernel_rfl) (by kernel_rfl) (fun _ _ _ h => h) (Or.inl ⟨rfl, fun w' hw' => ?_⟩) hHeld ?_
  · go_simp
  simp only [List.getElem_toArray, List.getElem_cons_succ, List.getElem_cons_zero, Act.put, List.setIfInBounds_toArray, List.set_cons_zero, List.set_cons_succ]
  refine wpAnyH_ready (rs := [2]) (by kernel_rfl) (by simp) ?_
  refine (AllReadyH.cons rfl (fun K hK => ?_) AllReadyH.nil)
  go_simp
  refine (FD.out _).mono ?_
  rintro e w' ⟨rfl, rfl⟩
  refine hK.out _ _ hHeld (fun hHeld => ?_)
  clear hK K
  try simp only [List.getElem_toArray, List.getElem_cons_succ, List.getElem_cons_zero, Act.put, List.setIfInBounds_toArray, List.set_cons_zero, List.set_cons_succ]
  refine wpAnyH_take (i := 3) (v := Value.slice (some ⟨g, 0, none⟩) m c) rfl (by kernel_rfl) (by kernel_rfl) (by kernel_rfl) (fun _ _ _ h => h) (Or.inl ⟨rfl, fun w' hw' => ?_⟩) hHeld ?_
  · go_simp
  simp only [List.getElem_toArray, List.getElem_cons_succ, List.getElem_cons_zero, Act.put, List.setIfInBounds_toArray, List.set_cons_zero, List.set_cons_succ]
  refine wpAnyH_ready (rs := [5]) (by kernel_rfl) (by simp) ?_
  refine (AllReadyH.cons rfl (fun K hK => ?_) AllReadyH.nil)
  go_simp
  refine (FI.out _).mono ?_
  rintro e w' ⟨rfl, rfl⟩
  refine hK.out _ _ hHeld (fun hHeld => ?_)
  clear hK K
  try simp only [List.getElem_toArray, List.getElem_cons_succ, List.getElem_cons_zero, Act.put, List.setIfInBounds_toArray, List.set_cons_zero, List.set_cons_succ]
  refine wpAnyH_take (i := 6) (v := Value.pointer (some ⟨g, m * 6, none⟩)) rfl (by kernel_rfl) (by kernel_rfl) (by kernel_rfl) (fun _ _ _ h => h) (Or.inl ⟨rfl, fun w' hw' => ?_⟩) hHeld ?_
  · go_simp
  simp only [List.getElem_toArray, List.getElem_cons_succ, List.getElem_cons_zero, Act.put, List.setIfInBounds_toArray, List.set_cons_zero, List.set_cons_succ]
  refine wpAnyH_take (i := 7) (v := Value.pointer (some ⟨g, m * 6, none⟩)) rfl (by kernel_rfl) (by kernel_rfl) (by kernel_rfl) (fun _ _ _ h => h) (Or.inl ⟨rfl, fun w' hw' => ?_⟩) hHeld ?_
  · go_simp
  simp only [List.getElem_toArray, List.getElem_cons_succ, List.getElem_cons_zero, Act.put, List.setIfInBounds_toArray, List.set_cons_zero, List.set_cons_succ]
  refine wpAnyH_take (i := 8) rfl (by kernel_rfl) (by kernel_rfl) (by kernel_rfl) (fun _ _ _ h => h) (yieldsIf_load_mid (by rfl) _ _ rfl g (m * 6) rfl [.int .i64 k, .string t, mv, lv, .int .i64 p] _ (fun w' hw' => range5 (fun a ha hb => (hw'.cell (by omega)).trans (HB.out.cell (by omega))) hgl E0.out E1.out E2.out E3.out E4.out) Tryd.underlying40 rfl info40) hHeld ?_
  simp only [List.getElem_toArray, List.getElem_cons_succ, List.getElem_cons_zero, Act.put, List.setIfInBounds_toArray, List.set_cons_zero, List.set_cons_succ]
  refine wpAnyH_take (i := 9) (v := Value.slice (some ⟨g, 0, none⟩) m c) rfl (by kernel_rfl) (by kernel_rfl) (by kernel_rfl) (fun _ _ _ h => h) (Or.inl ⟨rfl, fun w' hw' => ?_⟩) hHeld ?_
  · go_simp
  simp only [List.getElem_toArray, List.getElem_cons_succ, List.getElem_cons_zero, Act.put, List.setIfInBounds_toArray, List.set_cons_zero, List.set_cons_succ]
  refine wpAnyH_ready (rs := [10]) (by kernel_rfl) (by simp) ?_
  refine (AllReadyH.cons rfl (fun K hK => ?_) AllReadyH.nil)
  rw [if_pos (by rfl)]
  refine wp_store_row 40 _ _ rfl w.heap.size #[.int .i64 k, .string t, mv, lv, .int .i64 p] rfl rfl 40 Z5 H1.out info40 rfl z1 ?_
  have HX := Lib.hid (setRow_heap WD w.heap.size _ #[.int .i64 k, .string t, mv, lv, .int .i64 p] 40 _ H1.out)
  have HS := Lib.hid (below_setRowB hHeld w.heap.size #[.int .i64 k, .string t, mv, lv, .int .i64 p] (Nat.le_refl _))
  refine hK.out _ _ HS.out (fun hHeld2 => ?_)
  clear hK K hHeld2
  try simp only [List.getElem_toArray, List.getElem_cons_succ, List.getElem_cons_zero, Act.put, List.setIfInBounds_toArray, List.set_cons_zero, List.set_cons_succ]
  refine wpAnyH_done (by kernel_rfl) ?_ _
  refine NoPanic.normal ?_
  go_wp2_with fail
  refine bodyPost_ret (results_row3 rfl _ _ w.heap.size 40 #[.int .i64 k, .string t, mv, lv, .int .i64 p] (0, 0) _ (.slice (some ⟨g, 0, none⟩) m c) rfl HX.out Tryd.underlying40 rfl info40 rfl) rfl ?_
  exact ⟨rfl, HB.out.trans HS.out⟩
end Go.Proofs.YtkjcbaikebdmmaaDoor
