/- The document's reader: next: what holds; append of one that is open. -/
import Derived.Test.YtahdiknkcgnieaaDoorQ11
namespace Go.Proofs.YtahdiknkcgnieaaDoor
open Go.RowKit Go.BigM
set_option linter.unusedVariables false
set_option linter.unusedSimpArgs false
structure Stt (D : Nat → Prop) (g : Nat) (s : ByteArray) (p : Nat) (es : List En) (out : List Dt) (w X : World) : Prop where
  rd : RdAt D X.heap.size X g s p es out
  low : Below g w X
  size : w.heap.size ≤ X.heap.size
theorem Stt.drew {D : Nat → Prop} {g : Nat} {s : ByteArray} {p : Nat} {es : List En} {out : List Dt} {w X : World} (h : Stt D g s p es out w X) (hg : g < X.heap.size) : Stt D g s p es out w X.drew :=
  ⟨h.rd.keep (fun _ _ _ => rfl) hg (Nat.le_refl _), h.low.trans ((Below.refl g X).drew), h.size⟩
theorem Stt.start {D : Nat → Prop} {g : Nat} {s : ByteArray} {p : Nat} {es : List En} {out : List Dt} {w : World} (h : RdAt D w.heap.size w g s p es out) : Stt D g s p es out w w := ⟨h, Below.refl _ _, Nat.le_refl _⟩
def Z3 : Array Value := #[.bool false, .int .i64 0, .slice none 0 0]
theorem info84 : (Tryd.prog.info? 84).map (fun i => (i.zero, i.size, i.bytes)) = some (some (.agg Z3), 3, 40) := by kernel_rfl
theorem run_app3 (w : World) (B ty : Nat) (v : Value) (n : Nat) (xs : List Value) (hown : w.ownsRow B 84 3 v n xs) (g0 c : Nat) (news : List Value) (hl : news.length = 3)
    (hnews : ∀ j u, news[j]? = some u → w.cell? ⟨g0, j, none⟩ = some u) (h1 : ∀ u ∈ news, u.oneCell' = true) (hn : n + 1 ≤ 1000000000) (hB : B ≤ w.heap.size) :
    ∃ v' w', (Builtin.append_ #[69, 69] ty #[v, .slice (some ⟨g0, 0, none⟩) 1 c]).run Tryd.prog w = .ok v' w' ∧ w'.ownsRow B 84 3 v' (n + 1) (xs ++ news) ∧ w.grownBy w' v.ownBlock ∧ (v'.ownBlock = v.ownBlock ∨ v'.ownBlock = some w.heap.size) := by
  obtain ⟨i, hi, hz, hs, hb⟩ := info_parts info84
  have hnews' : ∀ j u, news[j]? = some u → w.cell? ((⟨g0, 0, none⟩ : Addr).add j) = some u := by
    intro j u hu
    have e : (⟨g0, 0, none⟩ : Addr).add j = ⟨g0, j, none⟩ := by unfold Addr.add; split <;> simp_all
    rw [e]; exact hnews j u hu
  have hl1 : news.length = 1 * 3 := by omega
  obtain ⟨v', w', hr, h2, h3, _⟩ := run_append_own (P := Tryd.prog) w B 69 ty 84 i (.agg Z3) 3 40 Tryd.underlying69 hi hz hs hb rfl (by decide) v n xs hown ⟨g0, 0, none⟩ 1 c news hl1 hnews' h1 (by unfold maxLen; omega) (by omega) hB
  refine ⟨v', w', hr, h2, h3, ?_⟩
  have hl2 : news.length = 1 * i.size := by rw [hs]; exact hl1
  rcases hown.2 with ⟨rfl, rfl⟩ | ⟨g, cap, cur, rfl, hbg, hg, hnc, hcm, hcs, htake⟩
  · have hr2 := run_append_nil (P := Tryd.prog) w 69 ty 84 i (.agg Z3) Tryd.underlying69 hi hz ⟨g0, 0, none⟩ 1 c news hl2 hnews' (by decide) (by decide) (by rw [hb]; decide)
    rw [hr] at hr2
    injection hr2 with e1 e2
    right; rw [e1]; rfl
  · by_cases hroom : n + 1 ≤ cap
    · have hfit : n * i.size + news.length ≤ cur.size := by rw [hs, hl, hcs]; omega
      have hr2 := run_append_room (P := Tryd.prog) w 69 ty 84 i Tryd.underlying69 hi g n cap cur hg ⟨g0, 0, none⟩ 1 c news hl2 hnews' h1 hroom hfit
      rw [hr] at hr2
      injection hr2 with e1 e2
      left; rw [e1]; rfl
    · have hlo : xs.length = n * i.size := by rw [hs]; exact hown.1
      have hr2 := run_append_grow (P := Tryd.prog) w 69 ty 84 i (.agg Z3) Tryd.underlying69 hi hz ⟨g, 0, none⟩ n cap xs hlo (hown.cells (g := g) rfl) ⟨g0, 0, none⟩ 1 c news hl2 hnews' (by omega) (by omega) (growslice_fits (by omega) (by rw [hb]; omega))
      rw [hr] at hr2
      injection hr2 with e1 e2
      right; rw [e1]; rfl
theorem wp_app3 {o : Oper} {a : Act} {w : World} {K : Act → World → Prop} {Q : Exit → Act → World → Prop} (s x : Operand)
    (ho : o.op = .call { callee := .builtin .append, args := #[s, x], argTypes := #[69, 69] }) (B : Nat) (v : Value) (n : Nat) (xs : List Value) (hs : a.eval s = v) (hown : w.ownsRow B 84 3 v n xs)
    (g0 c : Nat) (hx : a.eval x = .slice (some ⟨g0, 0, none⟩) 1 c) (news : List Value) (hl : news.length = 3)
    (hnews : ∀ j u, news[j]? = some u → w.cell? ⟨g0, j, none⟩ = some u) (h1 : ∀ u ∈ news, u.oneCell' = true) (hn : n + 1 ≤ 1000000000) (hB : B ≤ w.heap.size)
    (h : ∀ v' w', w'.ownsRow B 84 3 v' (n + 1) (xs ++ news) → w.grownBy w' v.ownBlock → (v'.ownBlock = v.ownBlock ∨ v'.ownBlock = some w.heap.size) → K (a.put o.dst v') w') : o.wp Tryd.prog a w K Q := by
  obtain ⟨v', w', hr, h2, h3, h4⟩ := run_app3 w B o.type v n xs hown g0 c news hl hnews h1 hn hB
  unfold Oper.wp execOp
  simp only [ho, resolve, invoke, builtin, Sem.run_bind, Sem.run_pure, Result.andThen_ok, List.map_toArray, List.map_cons, List.map_nil, hs, hx, hr]
  exact h v' w' h2 h3 h4
/-- One more open: its append, its store. -/
theorem push_step {D : Nat → Prop} {g : Nat} {s : ByteArray} {p : Nat} {es : List En} {out : List Dt} {w X : World} (h : Stt D g s p es out w X) (hgX : g < X.heap.size) (e : En) (hds : e.ds = if e.q = true then [.mk 3 qT [] [] e.pl] else []) :
    ∃ ao c xs, X.cell? ⟨g, 1, none⟩ = some (.int .i64 (p : Int)) ∧ X.cell? ⟨g, 2, none⟩ = some (.slice ao es.length c) ∧ (X.alloc (.cells #[.bool e.q, .int .i64 e.pl, .slice none 0 0] 84)).cell? ⟨g, 2, none⟩ = some (.slice ao es.length c) ∧ (X.alloc (.cells #[.bool e.q, .int .i64 e.pl, .slice none 0 0] 84)).cell? ⟨g, 1, none⟩ = some (.int .i64 (p : Int)) ∧
      (X.alloc (.cells #[.bool e.q, .int .i64 e.pl, .slice none 0 0] 84)).ownsRow (g + 1) 84 3 (.slice ao es.length c) es.length xs ∧ g + 1 ≤ (X.alloc (.cells #[.bool e.q, .int .i64 e.pl, .slice none 0 0] 84)).heap.size ∧
      ∀ v' w9, w9.ownsRow (g + 1) 84 3 v' (es.length + 1) (xs ++ [.bool e.q, .int .i64 e.pl, .slice none 0 0]) → (X.alloc (.cells #[.bool e.q, .int .i64 e.pl, .slice none 0 0] 84)).grownBy w9 (Value.slice ao es.length c).ownBlock → (v'.ownBlock = (Value.slice ao es.length c).ownBlock ∨ v'.ownBlock = some (X.alloc (.cells #[.bool e.q, .int .i64 e.pl, .slice none 0 0] 84)).heap.size) →
        w9.cell? ⟨g, 1, none⟩ = some (.int .i64 (p : Int)) ∧ w9.cell? ⟨g, 2, none⟩ = some (.slice ao es.length c) ∧ w9.frozen? ⟨g, 2, none⟩ = false ∧ (w9.setCell ⟨g, 2, none⟩ v').cell? ⟨g, 1, none⟩ = some (.int .i64 (p : Int)) ∧ Stt D g s p (e :: es) out w (w9.setCell ⟨g, 2, none⟩ v') := by
  obtain ⟨wa, hwa⟩ : ∃ wa, wa = X.alloc (.cells #[.bool e.q, .int .i64 e.pl, .slice none 0 0] 84) := ⟨_, rfl⟩
  have hsz : wa.heap.size = X.heap.size + 1 := by rw [hwa]; simp
  have hold : ∀ x, x < X.heap.size → wa.heap[x]? = X.heap[x]? := fun x hx => by rw [hwa]; exact Lib.alloc_old X _ x hx
  have ha : RdAt D X.heap.size wa g s p es out := h.rd.keep (fun x _ hx => hold x hx) hgX (by omega)
  have hla : Below g w wa := by rw [hwa]; exact h.low.alloc (by omega) _
  obtain ⟨ov, dv, xs, hR, hown, hnx⟩ := ha.push hgX e hds
  obtain ⟨ao, c, rfl⟩ := row_form hown (by decide)
  have hgg : wa.heap[g]? = X.heap[g]? := hold g hgX
  have cc := hR.cells
  rw [← hwa]
  refine ⟨ao, c, xs, ?_, ?_, cc.2.2.1, cc.2.1, hown, by omega, fun v' w9 h9 hg hv => ?_⟩
  · rw [← cc.2.1]; simp only [World.cell?, hgg]
  · rw [← cc.2.2.1]; simp only [World.cell?, hgg]
  have hs9 := hg.size
  have hob : ∀ x, (Value.slice ao es.length c).ownBlock = some x → g + 1 ≤ x := fun x hx => (hown.lt x hx).1
  have hg9 : w9.heap[g]? = wa.heap[g]? := hg.block g (by omega) (fun e => by have := hob g e.symm; omega)
  have hR9 : Rs3 w9 g s p (.slice ao es.length c) dv := rs3_of hR hg9
  have hfin := hnx v' w9 h9 hg (by
    rcases hv with e | e
    · exact .inl e
    · exact .inr ⟨_, e, Nat.le_refl _, (h9.lt _ e).2⟩)
  have hse : (w9.setCell ⟨g, 2, none⟩ v').heap.size = w9.heap.size := by simp [World.setCell]
  refine ⟨hR9.cells.2.1, hR9.cells.2.2.1, hR9.frozen 2, ?_, ?_, ?_, by rw [hse]; have := h.size; omega⟩
  · rw [World.cell?_setCell_other w9 _ _ _ (by intro e; cases e)]; exact hR9.cells.2.1
  · rw [hse]; exact hfin
  · exact (below_grown hla hg (by omega) (fun x hx => by have := hob x hx; omega)).setCell (p := ⟨g, 2, none⟩) (Nat.le_refl _) _
end Go.Proofs.YtahdiknkcgnieaaDoor
