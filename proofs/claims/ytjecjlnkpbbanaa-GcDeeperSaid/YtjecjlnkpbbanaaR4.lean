/- The document's Set, Over. -/
import Derived.Test.YtjecjlnkpbbanaaR3
namespace Go.Proofs.Ytjecjlnkpbbanaa
open Go Go.RowKit
set_option linter.unusedVariables false
set_option linter.unusedSimpArgs false
/-- One object turned. -/
theorem Rh.put {w w' : World} {x : Nat} {C C' : Nat → Nat} {qs : List Nat} {os : List Ob} {m : Nat} (h : Rh w x C qs os m) {i q : Nat} (hi : i < os.length) (hq : qs[i]? = some q) {o : Ob} (e : o.body.length = os[i].body.length) (ho : o.Ok) (hp : ∀ p ∈ o.ptrs, p ∈ os[i].ptrs ∨ (ob os p).isSome = true)
    {F : Nat → Prop} (hf : Fr F w w') (hF : ∀ k, F k → C k = 3 * i + 3 ∨ C k = 3 * i + 4) (hC : ∀ k, k < w.heap.size → C' k = C k) (hC2 : ∀ k, w'.heap.size ≤ k → C' k = 0) (hob : ObAt w' C' i q o (adr os i)) : Rh w' x C' qs (os.set i o) m := by
  have keepC : ∀ {v : Value} {n : Nat} {xs : List Value} {e : TypeId}, w.ownsRow 0 e 1 v n xs → ∀ k, v.ownBlock = some k → C' k = C k := fun h k hk => hC k (h.lt k hk).2
  refine ⟨?_, by rw [hC x h.lt]; exact h.cx, by rw [List.length_set]; exact h.len, ?_, oks_set h.oks ho, closed_set h.closed hi e hp, h.most, by rw [total_set hi e]; exact h.room, hC2⟩
  · obtain ⟨lv, h1, h2, h3⟩ := h.head
    refine ⟨lv, ?_, ?_, fun k hk => by rw [keepC h2 k hk]; exact h3 k hk⟩
    · rw [total_set hi e]
      exact (hf.block x h.lt (fun e => by have := hF x e; have := h.cx; omega)).trans h1
    · rw [List.length_set]
      exact own_fr h2 hf (fun k hk e => by have := hF k e; have := h3 k hk; omega)
  · intro j hj hj'
    rw [List.length_set] at hj
    rw [adr_set hi e j hj]
    by_cases hij : i = j
    · subst hij
      rw [List.getElem_set_self]
      have : qs[i] = q := by rw [List.getElem?_eq_getElem hj'] at hq; injection hq
      rw [this]
      exact hob
    · rw [List.getElem_set_ne hij]
      have h9 := (h.obs j hj hj').fr hf (fun k hk => by have := hF k hk; omega)
      obtain ⟨_, pv0, nv0, g1, g2, g3, g4, g5⟩ := h.obs j hj hj'
      obtain ⟨f0, pv, nv, f1, f2, f3, f4, f5⟩ := h9
      have hlt := (Array.getElem?_eq_some_iff.1 g1).1
      have e1 : w'.heap[qs[j]]? = w.heap[qs[j]]? := hf.block _ hlt (fun e => by have := hF _ e; omega)
      rw [e1, g1] at f1
      injection f1 with f1
      injection f1 with f1
      simp at f1
      obtain ⟨rfl, rfl⟩ := f1
      exact ⟨by rw [hC _ hlt]; exact f0, pv0, nv0, e1.trans g1, f2, fun k hk => by rw [keepC g2 k hk]; exact f3 k hk, f4, fun k hk => by rw [keepC g4 k hk]; exact f5 k hk⟩
set_option maxHeartbeats 8000000 in
set_option maxRecDepth 100000 in
theorem rset_no {w : World} {x : Nat} {C : Nat → Nat} {qs : List Nat} {os : List Ob} {m : Nat} (h : Rh w x C qs os m) (a i to : Int)
    (hno : i < 0 ∨ ((hdo os a).p : Int) ≤ i ∨ (ob os to).isSome = false) : Calls Try.prog 60 #[.pointer (some ⟨x, 0, none⟩), .int .i64 a, .int .i64 i, .int .i64 to] w (RetV (.bool false) w) := by
  have F := Lib.hid (find_r h a)
  have F2 := Lib.hid (find_r h to)
  rcases h.at a with ⟨-, h2, h3⟩ | ⟨k, q, o, -, -, -, -, -, h2, h3, h4⟩
  · rw [h2] at F
    clear h h2 h3 hno
    go_enter Try.func60, Try.ntmps60
    go_wp2_with fail
    refine F.out.mono ?_
    rintro e w1 ⟨rfl, rfl⟩
    clear F
    go_wp2_with fail
    go_ret
    exact ⟨rfl, Below.refl _ _⟩
  · rw [h2] at F
    have hpl : (hdo os a).p = o.ptrs.length := by
      have h5 := h.oks o (ob_mem h3)
      have := h5.pn
      unfold hdo; rw [h3]; simp [Ob.head, Ob.ptrs]; omega
    rw [hpl] at hno
    obtain ⟨pa, pc, na, nc, c0, c1, c2, c3, -, -⟩ := h4.cells
    rcases h.at to with ⟨-, g2, g3⟩ | ⟨k', q', o', -, -, -, -, -, g2, g3, -⟩
    · rw [g2] at F2
      clear h h2 h3 h4 g2 g3 hno hpl
      go_enter Try.func60, Try.ntmps60
      go_wp2_with fail
      refine F.out.mono ?_
      rintro e w1 ⟨rfl, rfl⟩
      clear F
      go_wp2_with fail
      refine F2.out.mono ?_
      rintro e w1 ⟨rfl, rfl⟩
      clear F2
      go_wp2_with fail
      go_ret
      exact ⟨rfl, Below.refl _ _⟩
    · rw [g2] at F2
      have hno2 : i < 0 ∨ (o.ptrs.length : Int) ≤ i := by
        rcases hno with h | h | h
        · exact .inl h
        · exact .inr h
        · rw [g3] at h; cases h
      generalize o.ptrs.length = p at c2 hno2
      clear h h2 h3 h4 g2 g3 hno hpl
      by_cases hi : i < 0
      · have q1 : decide (i < 0) = true := decide_eq_true hi
        clear hno2
        go_enter Try.func60, Try.ntmps60
        go_wp2_with fail
        refine F.out.mono ?_
        rintro e w1 ⟨rfl, rfl⟩
        clear F
        go_wp2_with fail
        refine F2.out.mono ?_
        rintro e w1 ⟨rfl, rfl⟩
        clear F2
        go_wp2_with fail
        go_ret
        exact ⟨rfl, Below.refl _ _⟩
      · have q1 : decide (i < 0) = false := decide_eq_false hi
        have q2 : decide ((p : Int) ≤ i) = true := decide_eq_true (by omega)
        clear hno2
        go_enter Try.func60, Try.ntmps60
        go_wp2_with fail
        refine F.out.mono ?_
        rintro e w1 ⟨rfl, rfl⟩
        clear F
        go_wp2_with fail
        refine F2.out.mono ?_
        rintro e w1 ⟨rfl, rfl⟩
        clear F2
        go_wp2_with fail
        go_ret
        exact ⟨rfl, Below.refl _ _⟩
set_option maxHeartbeats 8000000 in
set_option maxRecDepth 100000 in
theorem rset_yes {w : World} {x : Nat} {C : Nat → Nat} {qs : List Nat} {os : List Ob} {m : Nat} (h : Rh w x C qs os m) (a i to : Int)
    (k : Nat) (hk : loc os a = some k) (h0 : 0 ≤ i) (hip : i < ((hdo os a).p : Int)) (hto : (ob os to).isSome = true) : Calls Try.prog 60 #[.pointer (some ⟨x, 0, none⟩), .int .i64 a, .int .i64 i, .int .i64 to] w (RetR (.bool true) x C (upd os k (fun o => setO o i.toNat to)) m w) := by
  have F := Lib.hid (find_r h a)
  have F2 := Lib.hid (find_r h to)
  rcases h.at a with ⟨h2, -, -⟩ | ⟨k', q, o, e1, hkl, e2, e3, -, h2, h3, h4⟩
  · rw [h2] at hk; cases hk
  rw [hk] at e1
  injection e1 with e1
  subst e1
  rcases h.at to with ⟨-, -, g3⟩ | ⟨kt, qt, ot, -, -, -, -, -, g2, -, -⟩
  · rw [g3] at hto; cases hto
  rw [h2] at F
  rw [g2] at F2
  have hpl : (hdo os a).p = o.ptrs.length := by
    have h5 := h.oks o (ob_mem h3)
    have := h5.pn
    unfold hdo; rw [h3]; simp [Ob.head, Ob.ptrs]; omega
  rw [hpl] at hip
  have e4 : os[k] = o := by rw [List.getElem?_eq_getElem hkl] at e2; injection e2
  obtain ⟨pa, pc, na, nc, c0, c1, c2, c3, -, -⟩ := h4.cells
  obtain ⟨f0, pv, nv, f1, f2, f3, f4, f5⟩ := h4
  obtain ⟨j, rfl⟩ : ∃ j : Nat, i = j := ⟨i.toNat, by omega⟩
  have hj : j < o.ptrs.length := by omega
  have epv : pv = .slice pa o.ptrs.length pc := by
    rw [cell_of_row _ _ _ _ _ _ f1] at c2; simpa using c2
  subst epv
  rcases f2.2 with ⟨e9, h9⟩ | ⟨g, cap, cur, e9, _, hh, _⟩
  · omega
  injection e9 with e9 _ e10
  subst e9 e10
  have hgC : C g = 3 * k + 4 := f3 g rfl
  have hset := own_set f2 (g := g) rfl j (by rw [List.length_map]; exact hj) (.int .i64 to)
  have FIN : Hid (Rh (w.setCell ⟨g, j, none⟩ (.int .i64 to)) x C qs (upd os k (fun o => setO o ((j : Nat) : Int).toNat to)) m ∧ Fr (fun y => C y ≠ 0) w (w.setCell ⟨g, j, none⟩ (.int .i64 to))) := by
    have hfr : Fr (fun y => y = g) w (w.setCell ⟨g, j, none⟩ (.int .i64 to)) := Fr.setCell (F := fun y => y = g) (p := ⟨g, j, none⟩) (Fr.refl _ _) rfl _
    refine ⟨?_, (Fr.refl _ _).setCell (p := ⟨g, j, none⟩) (by show C g ≠ 0; omega) _⟩
    rw [upd_eq hkl, e4, Int.toNat_natCast]
    refine h.put hkl e3 (by rw [e4]; simp [setO]) (setO_ok (h.oks _ (ob_mem h3)) j to (by have h9 := hj; unfold Ob.ptrs at h9; rw [List.length_take] at h9; omega)) (fun p hp => ?_) hfr (fun y hy => by rw [hy]; exact .inr hgC) (fun _ _ => rfl) (fun y hy => h.fresh y (by simpa [World.setCell] using hy)) ?_
    · rw [setO_ptrs] at hp
      rcases List.mem_or_eq_of_mem_set hp with h | rfl
      · rw [e4]; exact .inl h
      · exact .inr hto
    · have hqg : q ≠ g := fun e => by rw [e] at f0; omega
      refine ⟨f0, _, nv, ?_, ?_, f3, ?_, f5⟩
      · have : (setO o j to).tag = o.tag := rfl
        rw [this]
        rw [Below.heap_setCell _ _ _ _ hqg]; exact f1
      · rw [setO_ptrs, List.length_set, List.map_set]; exact hset
      · have hn : (setO o j to).nums = o.nums := by
          have hjn : j < o.np := by
            have := (h.oks o (ob_mem h3)).pn
            rw [Ob.ptrs, List.length_take] at hj; omega
          unfold setO Ob.nums
          simp only
          rw [List.drop_set_of_lt hjn]
        rw [hn]
        exact own_fr f4 hfr (fun y hy e => by have := f5 y hy; rw [e] at this; omega)
  have cz := Hid.out (show Hid (w.cell? ⟨g, j, none⟩ = some (.int .i64 (o.ptrs[j]))) from by
    have hh2 := f2.cells (g := g) rfl j (.int .i64 o.ptrs[j]) (by rw [List.getElem?_map, List.getElem?_eq_getElem hj]; rfl)
    have e : (⟨g, 0, none⟩ : Addr).add j = ⟨g, j, none⟩ := by unfold Addr.add; split <;> simp_all
    rw [e] at hh2; exact hh2)
  have fz := frozen_of_row w g j _ _ hh
  generalize o.ptrs[j] = z at cz
  have q1 : decide ((j : Int) < 0) = false := decide_eq_false (by omega)
  generalize o.ptrs.length = p at c2 hj
  have q2 : decide ((p : Int) ≤ (j : Int)) = false := decide_eq_false (by omega)
  clear f0 f1 f2 f3 f4 f5 hset hh hpl e4 e2 e3 h2 h3 g2 h hip hto hk c0 c1 c3 hgC
  go_enter Try.func60, Try.ntmps60
  go_wp2_with fail
  refine F.out.mono ?_
  rintro e w1 ⟨rfl, rfl⟩
  clear F
  go_wp2_with fail
  refine F2.out.mono ?_
  rintro e w1 ⟨rfl, rfl⟩
  clear F2
  go_wp2_with fail
  go_ret
  exact ⟨rfl, C, qs, FIN.out.1, FIN.out.2, fun y hy => .inl hy⟩
end Go.Proofs.Ytjecjlnkpbbanaa
