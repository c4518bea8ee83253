/- append of so many zero words. -/
import Derived.Test.YtjecjlnkpbbanaaP11
import Derived.Test.YtjecjlnkpbbanaaAP
namespace Go.Proofs.Ytjecjlnkpbbanaa
open Go Go.RowKit
set_option linter.unusedVariables false
set_option linter.unusedSimpArgs false
def zw : Wd := ⟨0, 0, 0, 0, 0⟩
theorem infoW : (Try.prog.info? 79).map (fun i => (i.zero, i.size, i.bytes)) = some (some (.agg #[.int .u8 0, .int .u8 0, .int .u8 0, .int .u8 0, .int .i64 0]), 5, 16) := by kernel_rfl
def Z5 : Array Value := #[.int .u8 0, .int .u8 0, .int .u8 0, .int .u8 0, .int .i64 0]
theorem z5_at (r : Nat) (h : r < 5) : Z5[r]! = zw.cells[r]?.getD undef := by
  rcases (show r = 0 ∨ r = 1 ∨ r = 2 ∨ r = 3 ∨ r = 4 by omega) with rfl | rfl | rfl | rfl | rfl <;> rfl
theorem zw_some (r : Nat) (h : r < 5) : some (zw.cells[r]?.getD undef) = zw.cells[r]? := by
  rcases (show r = 0 ∨ r = 1 ∨ r = 2 ∨ r = 3 ∨ r = 4 by omega) with rfl | rfl | rfl | rfl | rfl <;> rfl
theorem zero_words (n : Nat) : (Builtin.zeroCells Z5 n).toList = wcells (List.replicate n zw) := by
  apply List.ext_getElem?
  intro i
  have hl : (wcells (List.replicate n zw)).length = n * 5 := by rw [wcells_length, List.length_replicate]
  have hz : Z5.size = 5 := rfl
  have hl2 : (Builtin.zeroCells Z5 n).toList.length = n * 5 := by rw [Array.length_toList, size_zeroCells, hz]
  by_cases h : i < n * 5
  · have e : i = i / 5 * 5 + i % 5 := by omega
    have h5 : i % 5 < 5 := Nat.mod_lt _ (by decide)
    have hd : i / 5 < (List.replicate n zw).length := by rw [List.length_replicate]; omega
    have h1 := wcells_get (List.replicate n zw) (i / 5) hd (i % 5) h5
    rw [← e] at h1
    rw [h1, List.getElem_replicate, ← zw_some _ h5, ← z5_at _ h5]
    simp only [Builtin.zeroCells, Array.toList_map, Array.toList_range, List.getElem?_map, hz]
    rw [List.getElem?_range h]
    rfl
  · rw [List.getElem?_eq_none (by omega), List.getElem?_eq_none (by omega)]
theorem wcells_one (l : List Wd) : ∀ u ∈ wcells l, u.oneCell' = true := by
  intro u hu
  obtain ⟨x, _, hx⟩ := List.mem_flatMap.1 hu
  simp [Wd.cells] at hx
  rcases hx with rfl | rfl | rfl | rfl | rfl <;> rfl
set_option maxRecDepth 100000 in
theorem run_appZ (w : World) (ty : Nat) (v : Value) (n : Nat) (xs : List Value) (hown : w.ownsRow 0 79 5 v n xs) (m : Nat) (hm : 1 ≤ m) (hn : n + m ≤ 1000000000) :
    ∃ v' w', (Builtin.append_ #[71, 3] ty #[v, .int .i64 m]).run Try.prog w = .ok v' w' ∧ w'.ownsRow 0 79 5 v' (n + m) (xs ++ wcells (List.replicate m zw)) ∧ w.grownBy w' v.ownBlock ∧ (∀ k, v'.ownBlock = some k → v.ownBlock = some k ∨ w.heap.size ≤ k) := by
  obtain ⟨i, hi, hz, hs, hb⟩ := info_parts infoW
  have hlz : (wcells (List.replicate m zw)).length = m * 5 := by rw [wcells_length, List.length_replicate]
  have hw : IntKind.i64.wrap (m : Int) = m := by rw [IntKind.wrap_i64]; omega
  have hw0 : ¬ ((m : Int) < 0) := by omega
  have hbig : ¬ (281474976710656 < (m : Int) * 16) := by omega
  have hm0 : m * 5 ≠ 0 := by omega
  have hm1 : m ≠ 0 := by omega
  have hcz0 := zero_words m
  have hcz : (Builtin.zeroCells (Value.agg #[.int .u8 0, .int .u8 0, .int .u8 0, .int .u8 0, .int .i64 0]).cells m).toList = wcells (List.replicate m zw) := hcz0
  have hcz2 : Builtin.zeroCells (Value.agg #[.int .u8 0, .int .u8 0, .int .u8 0, .int .u8 0, .int .i64 0]).cells m = (wcells (List.replicate m zw)).toArray := by
    apply Array.ext'; rw [hcz]
  have hlen : (xs ++ wcells (List.replicate m zw)).length = (n + m) * 5 := by rw [List.length_append, hown.1, hlz, Nat.add_mul]
  have hz5 : (Value.agg #[.int .u8 0, .int .u8 0, .int .u8 0, .int .u8 0, .int .i64 0]).cells.size = 5 := rfl
  have hmn : n + m ≤ maxLen := by unfold maxLen; omega
  have h63 : ¬ (9223372036854775807 < ((n : Int) + (m : Int))) := by omega
  have grown : ∀ (old : Nat), old < n + m → ∀ (row : Option Nat),
      (w.drew.alloc (.cells (xs.toArray ++ (wcells (List.replicate m zw)).toArray ++ Builtin.zeroCells (Value.agg #[.int .u8 0, .int .u8 0, .int .u8 0, .int .u8 0, .int .i64 0]).cells (grownCap w (n + m) old 79 - (n + m))) 79)).ownsRow 0 79 5
        (.slice (some ⟨w.heap.size, 0, none⟩) (n + m) (grownCap w (n + m) old 79)) (n + m) (xs ++ wcells (List.replicate m zw)) ∧
      w.grownBy (w.drew.alloc (.cells (xs.toArray ++ (wcells (List.replicate m zw)).toArray ++ Builtin.zeroCells (Value.agg #[.int .u8 0, .int .u8 0, .int .u8 0, .int .u8 0, .int .i64 0]).cells (grownCap w (n + m) old 79 - (n + m))) 79)) row := by
    intro old ho row
    have hge := grownCap_ge w (n + m) old 79
    have hcm : grownCap w (n + m) old 79 ≤ maxLen := grownCap_le_maxLen w (n + m) old 79 hmn
    refine ⟨⟨hlen, .inr ⟨w.heap.size, _, _, rfl, Nat.zero_le _, heap_alloc_new w.drew _, hge, hcm, ?_, ?_⟩⟩, ⟨rfl, rfl, rfl, by simp, fun k hk _ => Below.heap_alloc w.drew _ k hk⟩⟩
    · simp only [Array.size_append, List.size_toArray, size_zeroCells, hz5, hown.1, hlz, ← Nat.add_mul]
      congr 1
      omega
    · simp only [Array.toList_append, List.append_assoc]
      rw [← List.append_assoc, ← hlen]
      exact List.take_left
  rcases hown.2 with ⟨rfl, rfl⟩ | ⟨g, cap, cur, rfl, hbg, hg, hnc, hcm, hcs, htake⟩
  · have hx : xs = [] := List.eq_nil_of_length_eq_zero (by simpa using hown.1)
    subst hx
    have hcap : ¬ (281474976710656 < Builtin.nextslicecap m 0 * 16) := by rw [nextslicecap_zero (by omega)]; omega
    have h63' : ¬ (9223372036854775807 < (m : Int)) := by omega
    have hr : (Builtin.append_ #[71, 3] ty #[.slice none 0 0, .int .i64 m]).run Try.prog w = .ok (.slice (some ⟨w.heap.size, 0, none⟩) m (grownCap w m 0 79)) (w.drew.alloc (.cells ((wcells (List.replicate m zw)).toArray ++ Builtin.zeroCells (Value.agg #[.int .u8 0, .int .u8 0, .int .u8 0, .int .u8 0, .int .i64 0]).cells (grownCap w m 0 79 - m)) 79)) := by
      simp [Builtin.append_, run_underlying Try.underlying71, run_underlying Try.underlying3, sizeOf, typeInfo, zeroValue, hi, hz, hs, hb, hw, hw0, hbig, hm0, hm1, hcap, h63', asInt, asIntOf, hcz2, Question.forced, run_firstCells_none, newRow, grownCap]
    have hgr := grown 0 (by omega) (Value.ownBlock (.slice none 0 0))
    simp only [Nat.zero_add, List.nil_append, Array.empty_append] at hgr ⊢
    exact ⟨_, _, hr, hgr.1, hgr.2, fun k hk => .inr (Nat.le_of_eq (Option.some.inj hk))⟩
  · by_cases hroom : n + m ≤ cap
    · have hfit : n * 5 + (wcells (List.replicate m zw)).length ≤ cur.size := by rw [hlz, hcs]; omega
      have hst := run_storeCells_at Try.prog g (n * 5) 79 (wcells (List.replicate m zw)) 0 cur w hg (by simpa using hfit) (wcells_one _)
      simp only [Nat.add_zero] at hst
      have hr : (Builtin.append_ #[71, 3] ty #[.slice (some ⟨g, 0, none⟩) n cap, .int .i64 m]).run Try.prog w = .ok (.slice (some ⟨g, 0, none⟩) (n + m) cap) (w.setRow g (cur.toList.take (n * 5) ++ wcells (List.replicate m zw) ++ cur.toList.drop (n * 5 + (wcells (List.replicate m zw)).length)).toArray) := by
        simp [Builtin.append_, run_underlying Try.underlying71, run_underlying Try.underlying3, sizeOf, typeInfo, zeroValue, hi, hz, hs, hb, hw, hw0, hbig, hm0, hm1, asInt, asIntOf, hroom, Addr.add_lit, hcz, hst]
      refine ⟨_, _, hr, ⟨hlen, .inr ⟨g, cap, _, rfl, hbg, setRow_heap w g cur _ 79 _ hg, hroom, hcm, ?_, ?_⟩⟩, ⟨rfl, rfl, rfl, by simp, fun k _ hk => setRow_other w g k _ (fun e => hk (by simp [Value.ownBlock, e]))⟩, fun k hk => .inl hk⟩
      · simp only [List.size_toArray, List.length_append, List.length_take, List.length_drop, Array.length_toList]
        omega
      · rw [htake, ← hlen]
        exact List.take_left
    · have holds : ∀ j u, xs[j]? = some u → w.cell? ((⟨g, 0, none⟩ : Addr).add j) = some u := hown.cells (g := g) rfl
      have hold := run_firstCells_some (P := Try.prog) w.drew 5 n ⟨g, 0, none⟩ n cap xs hown.1 (by simpa using holds)
      have hfits := growslice_fits (need := n + m) (old := cap) (bytes := 16) (by omega) (by omega)
      have hcap : ¬ (281474976710656 < Builtin.nextslicecap (n + m) cap * 16) := by omega
      have hr : (Builtin.append_ #[71, 3] ty #[.slice (some ⟨g, 0, none⟩) n cap, .int .i64 m]).run Try.prog w = .ok (.slice (some ⟨w.heap.size, 0, none⟩) (n + m) (grownCap w (n + m) cap 79)) (w.drew.alloc (.cells (xs.toArray ++ (wcells (List.replicate m zw)).toArray ++ Builtin.zeroCells (Value.agg #[.int .u8 0, .int .u8 0, .int .u8 0, .int .u8 0, .int .i64 0]).cells (grownCap w (n + m) cap 79 - (n + m))) 79)) := by
        simp [Builtin.append_, run_underlying Try.underlying71, run_underlying Try.underlying3, sizeOf, typeInfo, zeroValue, hi, hz, hs, hb, hw, hw0, hbig, hm0, hm1, hcap, h63, hroom, asInt, asIntOf, hcz2, hold, Question.forced, newRow, grownCap]
        try (congr 2; apply Array.ext'; simp [List.append_assoc])
      have hgr := grown cap (by omega) (Value.ownBlock (.slice (some ⟨g, 0, none⟩) n cap))
      exact ⟨_, _, hr, hgr.1, hgr.2, fun k hk => .inr (Nat.le_of_eq (Option.some.inj hk))⟩
theorem wp_appZ {o : Oper} {a : Act} {w : World} {K : Act → World → Prop} {Q : Exit → Act → World → Prop} (s x : Operand)
    (ho : o.op = .call { callee := .builtin .append, args := #[s, x], argTypes := #[71, 3] }) (v : Value) (n : Nat) (xs : List Value) (hs : a.eval s = v) (hown : w.ownsRow 0 79 5 v n xs)
    (m : Nat) (hx : a.eval x = .int .i64 m) (hm : 1 ≤ m) (hn : n + m ≤ 1000000000)
    (h : ∀ v' w', w'.ownsRow 0 79 5 v' (n + m) (xs ++ wcells (List.replicate m zw)) → w.grownBy w' v.ownBlock → (∀ k, v'.ownBlock = some k → v.ownBlock = some k ∨ w.heap.size ≤ k) → K (a.put o.dst v') w') : o.wp Try.prog a w K Q := by
  obtain ⟨v', w', hr, h2, h3, h4⟩ := run_appZ w o.type v n xs hown m hm hn
  unfold Oper.wp execOp
  simp only [ho, resolve, invoke, builtin, Sem.run_bind, Sem.run_pure, Result.andThen_ok, List.map_toArray, List.map_cons, List.map_nil, hs, hx, hr]
  exact h v' w' h2 h3 h4
end Go.Proofs.Ytjecjlnkpbbanaa
