/- The stack: one list more; a scope whose jumps use up a bound. -/
import Derived.Test.YtkjcbaikebdmmaaDoorJ8
namespace Go
section
variable {P : Program} {a : Act} {w : World} {Q : Exit → Act → World → Prop}
/-- As wp_scope_labels; the measure is no function of the state: what holds at a label bounds the jumps that are left. -/
theorem wp_scope_fuel {c : Code} (J : Nat → Nat → Act → World → Prop)
    (first : c.wp P (Exit.jumps (fun l a w => ∃ n, J n l a w) Q) a w)
    (pass : ∀ n l a w, J n l a w → ∃ rest, findLabel c l = some rest ∧ rest.wp P (Exit.jumps (fun l' a' w' => ∃ n', n' < n ∧ J n' l' a' w') Q) a w) : (Code.scope c).wp P Q a w := by
  intro b k cs
  have key : ∀ n l a w, J n l a w → ∃ rest, findLabel c l = some rest ∧ ∃ e a' w', Q e a' w' ∧ Arrives P (lone (b.at a (.code rest :: .inScope c :: k)) cs w) b k cs e a' w' := by
    intro n
    induction n using Nat.strongRecOn with
    | _ n ih =>
      intro l a w hJ
      obtain ⟨rest, hf, hw⟩ := pass n l a w hJ
      refine ⟨rest, hf, ?_⟩
      obtain ⟨e, a₁, w₁, hq, harr⟩ := hw b (.inScope c :: k) cs
      cases e with
      | normal => exact ⟨.normal, a₁, w₁, hq, Steps.trans harr (.one step_inScope)⟩
      | exit id => exact ⟨.exit id, a₁, w₁, hq, fun k' hk => harr k' (by simp [exitTo, hk])⟩
      | goto l' =>
        obtain ⟨n', hlt, hJ'⟩ := hq
        obtain ⟨rest', hf', e₂, a₂, w₂, hq₂, harr₂⟩ := ih n' hlt l' a₁ w₁ hJ'
        have hg : gotoIn l' (.inScope c :: k) = some (.code rest' :: .inScope c :: k) := by simp [gotoIn, hf']
        exact ⟨e₂, a₂, w₂, hq₂, .of_steps (harr _ hg) harr₂⟩
      | ret => exact ⟨_, a₁, w₁, hq, harr⟩
      | panic ch => exact ⟨_, a₁, w₁, hq, harr⟩
      | outgrown => exact ⟨_, a₁, w₁, hq, harr⟩
  obtain ⟨e, a₁, w₁, hq, harr⟩ := first b (.inScope c :: k) cs
  cases e with
  | normal => exact ⟨.normal, a₁, w₁, hq, .head step_scope (Steps.trans harr (.one step_inScope))⟩
  | exit id => exact ⟨.exit id, a₁, w₁, hq, fun k' hk => .head step_scope (harr k' (by simp [exitTo, hk]))⟩
  | goto l' =>
    obtain ⟨n, hJ⟩ := hq
    obtain ⟨rest', hf', e₂, a₂, w₂, hq₂, harr₂⟩ := key n l' a₁ w₁ hJ
    have hg : gotoIn l' (.inScope c :: k) = some (.code rest' :: .inScope c :: k) := by simp [gotoIn, hf']
    exact ⟨e₂, a₂, w₂, hq₂, .of_steps (.head step_scope (harr _ hg)) harr₂⟩
  | ret => exact ⟨_, a₁, w₁, hq, .of_steps (.one step_scope) harr⟩
  | panic ch => exact ⟨_, a₁, w₁, hq, .of_steps (.one step_scope) harr⟩
  | outgrown => exact ⟨_, a₁, w₁, hq, .of_steps (.one step_scope) harr⟩
end
end Go
namespace Go.Proofs.YtkjcbaikebdmmaaDoor
open Go.RowKit
set_option linter.unusedVariables false
set_option linter.unusedSimpArgs false
theorem infoO : (Tryd.prog.info? 55).map (fun i => (i.zero, i.size, i.bytes)) = some (some (.agg Z6), 6, 88) := by kernel_rfl

theorem run_appO (w : World) (B ty : Nat) (v : Value) (n : Nat) (xs : List Value) (hown : w.ownsRow B 55 6 v n xs) (g0 c : Nat) (news : List Value) (hl : news.length = 6)
    (hnews : ∀ j u, news[j]? = some u → w.cell? ⟨g0, j, none⟩ = some u) (h1 : ∀ u ∈ news, u.oneCell' = true) (hn : n + 1 ≤ 1000000000) (hB : B ≤ w.heap.size) :
    ∃ v' w', (Builtin.append_ #[57, 57] ty #[v, .slice (some ⟨g0, 0, none⟩) 1 c]).run Tryd.prog w = .ok v' w' ∧ w'.ownsRow B 55 6 v' (n + 1) (xs ++ news) ∧ w.grownBy w' v.ownBlock ∧ (v'.ownBlock = v.ownBlock ∨ v'.ownBlock = some w.heap.size) := by
  obtain ⟨i, hi, hz, hs, hb⟩ := info_parts infoO
  have hnews' : ∀ j u, news[j]? = some u → w.cell? ((⟨g0, 0, none⟩ : Addr).add j) = some u := by
    intro j u hu
    have e : (⟨g0, 0, none⟩ : Addr).add j = ⟨g0, j, none⟩ := by unfold Addr.add; split <;> simp_all
    rw [e]; exact hnews j u hu
  have hl1 : news.length = 1 * 6 := by omega
  obtain ⟨v', w', hr, h2, h3, _⟩ := run_append_own (P := Tryd.prog) w B 57 ty 55 i (.agg Z6) 6 88 Tryd.underlying57 hi hz hs hb rfl (by decide) v n xs hown ⟨g0, 0, none⟩ 1 c news hl1 hnews' h1 (by unfold maxLen; omega) (by omega) hB
  refine ⟨v', w', hr, h2, h3, ?_⟩
  have hl2 : news.length = 1 * i.size := by rw [hs]; exact hl1
  rcases hown.2 with ⟨rfl, rfl⟩ | ⟨g, cap, cur, rfl, hbg, hg, hnc, hcm, hcs, htake⟩
  · have hr2 := run_append_nil (P := Tryd.prog) w 57 ty 55 i (.agg Z6) Tryd.underlying57 hi hz ⟨g0, 0, none⟩ 1 c news hl2 hnews' (by decide) (by decide) (by rw [hb]; decide)
    rw [hr] at hr2
    injection hr2 with e1 e2
    right; rw [e1]; rfl
  · by_cases hroom : n + 1 ≤ cap
    · have hfit : n * i.size + news.length ≤ cur.size := by rw [hs, hl, hcs]; omega
      have hr2 := run_append_room (P := Tryd.prog) w 57 ty 55 i Tryd.underlying57 hi g n cap cur hg ⟨g0, 0, none⟩ 1 c news hl2 hnews' h1 hroom hfit
      rw [hr] at hr2
      injection hr2 with e1 e2
      left; rw [e1]; rfl
    · have hlo : xs.length = n * i.size := by rw [hs]; exact hown.1
      have hr2 := run_append_grow (P := Tryd.prog) w 57 ty 55 i (.agg Z6) Tryd.underlying57 hi hz ⟨g, 0, none⟩ n cap xs hlo (hown.cells (g := g) rfl) ⟨g0, 0, none⟩ 1 c news hl2 hnews' (by omega) (by omega) (growslice_fits (by omega) (by rw [hb]; omega))
      rw [hr] at hr2
      injection hr2 with e1 e2
      right; rw [e1]; rfl

theorem wp_appO {o : Oper} {a : Act} {w : World} {K : Act → World → Prop} {Q : Exit → Act → World → Prop} (s x : Operand)
    (ho : o.op = .call { callee := .builtin .append, args := #[s, x], argTypes := #[57, 57] }) (B : Nat) (v : Value) (n : Nat) (xs : List Value) (hs : a.eval s = v) (hown : w.ownsRow B 55 6 v n xs)
    (g0 c : Nat) (hx : a.eval x = .slice (some ⟨g0, 0, none⟩) 1 c) (news : List Value) (hl : news.length = 6)
    (hnews : ∀ j u, news[j]? = some u → w.cell? ⟨g0, j, none⟩ = some u) (h1 : ∀ u ∈ news, u.oneCell' = true) (hn : n + 1 ≤ 1000000000) (hB : B ≤ w.heap.size)
    (h : ∀ v' w', w'.ownsRow B 55 6 v' (n + 1) (xs ++ news) → w.grownBy w' v.ownBlock → (v'.ownBlock = v.ownBlock ∨ v'.ownBlock = some w.heap.size) → K (a.put o.dst v') w') : o.wp Tryd.prog a w K Q := by
  obtain ⟨v', w', hr, h2, h3, h4⟩ := run_appO w B o.type v n xs hown g0 c news hl hnews h1 hn hB
  unfold Oper.wp execOp
  simp only [ho, resolve, invoke, builtin, Sem.run_bind, Sem.run_pure, Result.andThen_ok, List.map_toArray, List.map_cons, List.map_nil, hs, hx, hr]
  exact h v' w' h2 h3 h4
/-- What append makes of the stack. -/
theorem StackAt.push {D : Nat → Prop} {B : Nat} {w0 w : World} {v : Value} {e : En} {r : List En} (h : StackAt D B w0 v e r) (hb : Below w0.heap.size w0 w) {f : En} {lv : Value} (hl : OwnS D B w lv f.ds) (hlf : ∀ x, lv.ownBlock = some x → w0.heap.size ≤ x) :
    ∃ xs, w.ownsRow B 55 6 v (r.length + 1) xs ∧ ∀ v' w', w'.ownsRow B 55 6 v' (r.length + 1 + 1) (xs ++ [.int .i64 4, .string ⟨#[]⟩, .slice none 0 0, lv, .int .i64 f.pl, .bool f.q]) → w.grownBy w' v.ownBlock → (v'.ownBlock = v.ownBlock ∨ v'.ownBlock = some w.heap.size) →
      StackAt D B w' v' f (e :: r) := by
  obtain ⟨g, c, xs, rfl, ho0, hgD, hD0, hE0⟩ := h
  have hs0 := hb.size
  have ho : w.ownsRow B 55 6 (.slice (some ⟨g, 0, none⟩) (r.length + 1) c) (r.length + 1) xs := by
    refine ⟨ho0.1, ?_⟩
    rcases ho0.2 with h | ⟨g1, cap, cur, e1, hB, hh, r⟩
    · exact .inl h
    · exact .inr ⟨g1, cap, cur, e1, hB, by rw [hb.block _ (Array.getElem?_eq_some_iff.1 hh).1]; exact hh, r⟩
  have hg0 := (ho0.lt g rfl).2
  have hD : ∀ x, D x → B ≤ x ∧ x < w.heap.size := fun x hx => ⟨(hD0 x hx).1, by have := (hD0 x hx).2; omega⟩
  have hlD : ∀ x, lv.ownBlock = some x → ¬ D x ∧ some g ≠ some x := fun x hx => by
    have h1 := hlf x hx
    exact ⟨fun h => by have := (hD0 x h).2; omega, fun h => by injection h with h; omega⟩
  have hE : Ents D B w xs (e :: r) (fun x => (D x ∨ some g = some x) ∨ lv.ownBlock = some x) := by
    have h1 : Ents D B w0 xs (e :: r) (fun x => (D x ∨ some g = some x) ∨ lv.ownBlock = some x) := Ents.fresh (fun _ h => h) (e :: r) _ _ hE0 (fun x hx h => by
      rcases h with (h | h) | h
      · exact .inl h
      · injection h with h; exact .inr h.symm
      · have := hlf x h; omega)
    exact Ents.move (e :: r) _ h1 (fun _ _ => rfl) (fun x hx _ => hb.block x hx)
  refine ⟨xs, ho, fun v' w' ho' hg hv => ?_⟩
  have hgb : (Value.slice (some ⟨g, 0, none⟩) (r.length + 1) c).ownBlock = some g := rfl
  rw [hgb] at hv hg
  have hs := hg.size
  have hgl := ho.lt g hgb
  rcases ho'.2 with ⟨_, hz⟩ | ⟨g', c', cur, rfl, hB', hh, hnc, hcm, hcs, ht⟩
  · omega
  have e' : (Value.slice (some ⟨g', 0, none⟩) (r.length + 1 + 1) c').ownBlock = some g' := rfl
  rw [e'] at hv
  have hg' : g' = g ∨ g' = w.heap.size := by
    rcases hv with e | e <;> injection e with e
    · exact .inl e
    · exact .inr e
  have hxl : xs.length = (r.length + 1) * 6 := ho.1
  have get : ∀ i u, ([.int .i64 4, .string ⟨#[]⟩, .slice none 0 0, lv, .int .i64 f.pl, .bool f.q] : List Value)[i]? = some u → (xs ++ [.int .i64 4, .string ⟨#[]⟩, .slice none 0 0, lv, .int .i64 f.pl, .bool f.q])[(r.length + 1) * 6 + i]? = some u := fun i u hu => by
    rw [List.getElem?_append_right (by omega), show (r.length + 1) * 6 + i - xs.length = i by omega]; exact hu
  have old : ∀ x, x < w.heap.size → x ≠ g → w'.heap[x]? = w.heap[x]? := fun x hx hn => hg.block x hx (fun e => by injection e with e; exact hn e)
  refine ⟨g', c', _, rfl, ho', ?_, fun x hx => ⟨(hD x hx).1, by have := (hD x hx).2; omega⟩, lv, 4, ⟨get 0 _ rfl, get 1 _ rfl, get 2 _ rfl, get 3 _ rfl, get 4 _ rfl, get 5 _ rfl⟩, fun _ => rfl, ?_, ?_, ?_⟩
  · rcases hg' with rfl | rfl
    · exact hgD
    · intro h; have := (hD _ h).2; omega
  · refine hl.keep (fun x c2 hx hh2 => ?_) (fun x c2 T fz hx hh2 _ => ⟨fz, ?_⟩)
    · rw [old x (Array.getElem?_eq_some_iff.1 hh2).1 (fun e => (hlD x hx).2 (by rw [e]))]; exact hh2
    · rw [old x (Array.getElem?_eq_some_iff.1 hh2).1 (fun e => hgD (e ▸ hx))]; exact hh2
  · rintro x hx (h | h)
    · exact (hlD x hx).1 h
    · have h2 := (hl.lt hx).2
      rcases hg' with e | e
      · exact (hlD x hx).2 (by rw [h, e])
      · omega
  · have h1 := hE
    have h2 : Ents D B w' (xs ++ [.int .i64 4, .string ⟨#[]⟩, .slice none 0 0, lv, .int .i64 f.pl, .bool f.q]) (e :: r) _ := Ents.move (e :: r) _ (Ents.fresh (U' := fun x => ((D x ∨ some g = some x) ∨ lv.ownBlock = some x) ∨ x = g') (fun _ h => h) (e :: r) _ h1 (fun x hx h => ?_)) (fun i hi => by rw [List.getElem?_append_left (by simp at hi; omega)]) (fun x hx hd => ?_)
    · refine Ents.fresh (fun _ h => h) (e :: r) _ _ h2 (fun x _ h => ?_)
      rcases h with (h | h) | h
      · exact .inl (.inl (.inl h))
      · exact .inr h
      · exact .inl (.inr h)
    · rcases h with h | h
      · exact h
      · rcases hg' with e | e
        · exact .inl (.inr (by rw [h, e]))
        · omega
    · refine old x hx (fun e => ?_)
      rcases hd with h | h
      · exact hgD (e ▸ h)
      · exact h (.inl (.inl (.inr (by rw [e]))))
end Go.Proofs.YtkjcbaikebdmmaaDoor
