/- append to a row that is owned, from whatever slice: where the row lies then. -/
import Derived.Test.YtjecjlnkpbbanaaP2
namespace Go.Proofs.Ytjecjlnkpbbanaa
open Go Go.RowKit
set_option linter.unusedVariables false
set_option linter.unusedSimpArgs false
/-- What a slice hands over: so many elements, these cells. -/
def SrcA (w : World) (size : Nat) (x : Value) (m : Nat) (news : List Value) : Prop :=
  (∃ c, x = .slice none 0 c ∧ m = 0 ∧ news = []) ∨ ∃ ad c, x = .slice (some ad) m c ∧ news.length = m * size ∧ (∀ j u, news[j]? = some u → w.cell? (ad.add j) = some u) ∧ ∀ u ∈ news, u.oneCell' = true
theorem run_appG {t e : TypeId} {z : Value} {size bytes : Nat} (hu : Try.prog.underlying t = some (.slice e)) (hinf : (Try.prog.info? e).map (fun i => (i.zero, i.size, i.bytes)) = some (some z, size, bytes)) (hzs : z.cells.size = size) (hsz : 0 < size) (hb1 : bytes ≤ 100)
    (w : World) (B ty : Nat) (v : Value) (n : Nat) (xs : List Value) (hown : w.ownsRow B e size v n xs) (x : Value) (m : Nat) (news : List Value) (hx : SrcA w size x m news) (hn : n + m ≤ 1000000000) (hB : B ≤ w.heap.size) :
    ∃ v' w', (Builtin.append_ #[t, t] ty #[v, x]).run Try.prog w = .ok v' w' ∧ w'.ownsRow B e size v' (n + m) (xs ++ news) ∧ w.grownBy w' v.ownBlock ∧ (∀ k, v'.ownBlock = some k → v.ownBlock = some k ∨ w.heap.size ≤ k) := by
  obtain ⟨i, hi, hz, hs, hb⟩ := info_parts hinf
  rcases hx with ⟨c, rfl, rfl, rfl⟩ | ⟨ad, c, rfl, hl, hnews, h1⟩
  · refine ⟨v, w, ?_, by simpa using hown, ⟨rfl, rfl, rfl, Nat.le_refl _, fun _ _ _ => rfl⟩, fun k hk => .inl hk⟩
    rcases hown.2 with ⟨rfl, rfl⟩ | ⟨g, cap, cur, rfl, hbg, hg, hnc, hcm, hcs, htake⟩
    · simp [Builtin.append_, run_underlying hu, sizeOf, typeInfo, hi, Builtin.lenOf, Builtin.firstCells, loadCells, loadCellsFrom]
    · have hr := run_append_room_src (P := Try.prog) w t t ty e i hu hi g 0 n cap (.slice none 0 c) 0 [] (Src.ofNil w hu c) (by omega) (by simp) (by simp)
      simpa [World.setCells] using hr
  · have hmul : (n + m) * bytes ≤ 100 * 1000000000 := by
      have h1 := Nat.mul_le_mul hn hb1
      omega
    obtain ⟨v', w', hr, h2, h3, _⟩ := run_append_own (P := Try.prog) w B t ty e i z size bytes hu hi hz hs hb hzs hsz v n xs hown ad m c news hl hnews h1 (by unfold maxLen; omega) (by omega) hB
    refine ⟨v', w', hr, h2, h3, ?_⟩
    have hl2 : news.length = m * i.size := by rw [hs]; exact hl
    rcases hown.2 with ⟨rfl, rfl⟩ | ⟨g, cap, cur, rfl, hbg, hg, hnc, hcm, hcs, htake⟩
    · by_cases hm : m = 0
      · subst hm
        have hn0 : news = [] := List.eq_nil_of_length_eq_zero (by simpa using hl)
        subst hn0
        have hr2 : (Builtin.append_ #[t, t] ty #[.slice none 0 0, .slice (some ad) 0 c]).run Try.prog w = .ok (.slice none 0 0) w := by
          simp [Builtin.append_, run_underlying hu, sizeOf, typeInfo, hi, Builtin.lenOf, Builtin.firstCells, loadCells, loadCellsFrom]
        rw [hr] at hr2
        injection hr2 with e1 e2
        rw [e1]
        intro k hk
        simp [Value.ownBlock] at hk
      · rw [Nat.zero_add] at hmul
        have hr2 := run_append_nil (P := Try.prog) w t ty e i z hu hi hz ad m c news hl2 hnews (by omega) (by omega) (by rw [hb]; omega)
        rw [hr] at hr2
        injection hr2 with e1 e2
        rw [e1]
        intro k hk
        have : w.heap.size = k := by injection hk
        exact .inr (by omega)
    · by_cases hroom : n + m ≤ cap
      · have hfit : n * i.size + news.length ≤ cur.size := by rw [hs, hl, hcs, ← Nat.add_mul]; exact Nat.mul_le_mul_right _ hroom
        have hr2 := run_append_room (P := Try.prog) w t ty e i hu hi g n cap cur hg ad m c news hl2 hnews h1 hroom hfit
        rw [hr] at hr2
        injection hr2 with e1 e2
        rw [e1]
        exact fun k hk => .inl hk
      · have hlo : xs.length = n * i.size := by rw [hs]; exact hown.1
        have hr2 := run_append_grow (P := Try.prog) w t ty e i z hu hi hz ⟨g, 0, none⟩ n cap xs hlo (hown.cells (g := g) rfl) ad m c news hl2 hnews (by omega) (by omega) (growslice_fits (by omega) (by rw [hb]; omega))
        rw [hr] at hr2
        injection hr2 with e1 e2
        rw [e1]
        intro k hk
        have : w.heap.size = k := by injection hk
        exact .inr (by omega)
theorem wp_appG {t e : TypeId} {z : Value} {size bytes : Nat} (hu : Try.prog.underlying t = some (.slice e)) (hinf : (Try.prog.info? e).map (fun i => (i.zero, i.size, i.bytes)) = some (some z, size, bytes)) (hzs : z.cells.size = size) (hsz : 0 < size) (hb1 : bytes ≤ 100)
    {o : Oper} {a : Act} {w : World} {K : Act → World → Prop} {Q : Exit → Act → World → Prop} (s x : Operand)
    (ho : o.op = .call { callee := .builtin .append, args := #[s, x], argTypes := #[t, t] }) (B : Nat) (v : Value) (n : Nat) (xs : List Value) (hs : a.eval s = v) (hown : w.ownsRow B e size v n xs)
    (vx : Value) (hx : a.eval x = vx) (m : Nat) (news : List Value) (hsrc : SrcA w size vx m news) (hn : n + m ≤ 1000000000) (hB : B ≤ w.heap.size)
    (h : ∀ v' w', w'.ownsRow B e size v' (n + m) (xs ++ news) → w.grownBy w' v.ownBlock → (∀ k, v'.ownBlock = some k → v.ownBlock = some k ∨ w.heap.size ≤ k) → K (a.put o.dst v') w') : o.wp Try.prog a w K Q := by
  obtain ⟨v', w', hr, h2, h3, h4⟩ := run_appG hu hinf hzs hsz hb1 w B o.type v n xs hown vx m news hsrc hn hB
  unfold Oper.wp execOp
  simp only [ho, resolve, invoke, builtin, Sem.run_bind, Sem.run_pure, Result.andThen_ok, List.map_toArray, List.map_cons, List.map_nil, hs, hx, hr]
  exact h v' w' h2 h3 h4
/-- Of numbers. -/
theorem wp_appI {o : Oper} {a : Act} {w : World} {K : Act → World → Prop} {Q : Exit → Act → World → Prop} (s x : Operand)
    (ho : o.op = .call { callee := .builtin .append, args := #[s, x], argTypes := #[22, 22] }) (B : Nat) (v : Value) (n : Nat) (xs : List Value) (hs : a.eval s = v) (hown : w.ownsRow B 3 1 v n xs)
    (vx : Value) (hx : a.eval x = vx) (m : Nat) (news : List Value) (hsrc : SrcA w 1 vx m news) (hn : n + m ≤ 1000000000) (hB : B ≤ w.heap.size)
    (h : ∀ v' w', w'.ownsRow B 3 1 v' (n + m) (xs ++ news) → w.grownBy w' v.ownBlock → (∀ k, v'.ownBlock = some k → v.ownBlock = some k ∨ w.heap.size ≤ k) → K (a.put o.dst v') w') : o.wp Try.prog a w K Q :=
  wp_appG Try.underlying22 infoI3 rfl (by decide) (by decide) s x ho B v n xs hs hown vx hx m news hsrc hn hB h
/-- One number in a block of its own. -/
theorem srcA_one {w : World} {g : Nat} {T : TypeId} {d : Value} (h : w.heap[g]? = some (.cells #[d] T (0, 0))) (h1 : d.oneCell' = true) (c : Nat) : SrcA w 1 (.slice (some ⟨g, 0, none⟩) 1 c) 1 [d] := by
  refine .inr ⟨_, c, rfl, rfl, fun j u hu => ?_, fun u hu => ?_⟩
  · have hj : j = 0 := by
      rcases j with _ | j
      · rfl
      · simp at hu
    subst hj
    have e : (⟨g, 0, none⟩ : Addr).add 0 = ⟨g, 0, none⟩ := by unfold Addr.add; split <;> simp_all
    rw [e, cell_of_row w g 0 _ _ _ h]; simpa using hu
  · simp at hu; subst hu; exact h1
theorem wpList_wantedR {P : Program} {ops : Array Oper} {rest : List Oper} {o : Oper} {a : Act} {w : World} {Q : Exit → Act → World → Prop} (hgd : o.guard = none) (h : ∀ K : Act → World → Prop, (∀ a' w', wpList P ops Q rest a' w' → K a' w') → o.wp P a w K Q) : wpList P ops Q (o :: rest) a w :=
  wpList_plain hgd fun K hK => h K hK
end Go.Proofs.Ytjecjlnkpbbanaa
