/- The document's Put. -/
import Derived.Test.YtkekekdkfjjifaaZR
namespace Go.Proofs.Ytkekekdkfjjifaa
open Go Go.RowKit
set_option linter.unusedVariables false
set_option linter.unusedSimpArgs false
theorem isS_srcA {w : World} {v : Value} {l : List Int} (h : IsS w v l) : SrcA w 1 v l.length (l.map (Value.int .i64)) := by
  obtain ⟨ao, cap, rfl, hc, h⟩ := h
  rcases h with ⟨rfl, rfl⟩ | ⟨g, o, rfl, h⟩
  · exact .inl ⟨cap, rfl, rfl, rfl⟩
  · refine .inr ⟨_, cap, rfl, by simp, fun j u hu => ?_, fun u hu => ?_⟩
    · rw [List.getElem?_map] at hu
      by_cases hj : j < l.length
      · rw [List.getElem?_eq_getElem hj] at hu
        simp only [Option.map_some, Option.some.injEq] at hu
        rw [← hu, ← h j hj]
        congr 1
        unfold Addr.add; split <;> simp_all
      · rw [List.getElem?_eq_none (by omega)] at hu; simp at hu
    · obtain ⟨x, _, rfl⟩ := List.mem_map.1 hu
      rfl
theorem none_made2 {w W : World} (hb : Below w.heap.size w W) : (W.alloc (.cells #[] 3)).ownsRow w.heap.size 3 1 (.slice (some ⟨W.heap.size, 0, none⟩) 0 0) 0 [] := own_less (none_made W) hb.size
/-- Two rows of the call's own lie apart. -/
def Apt (u v : Value) : Prop := ∀ k, u.ownBlock = some k → v.ownBlock ≠ some k
theorem apt_new {W : World} {B n : Nat} {u : Value} {xs : List Value} (h : W.ownsRow B 3 1 u n xs) {c d : Nat} : Apt u (.slice (some ⟨W.heap.size, 0, none⟩) c d) := fun k hk e => by
  have h1 := (h.lt k hk).2
  have h2 : W.heap.size = k := Option.some.inj e
  omega
theorem Apt.symm {u v : Value} (h : Apt u v) : Apt v u := fun k hk e => h k e hk
theorem Apt.app {W : World} {B n : Nat} {u u' v : Value} {xs : List Value} (h : Apt u v) (hv : W.ownsRow B 3 1 v n xs) (ha : ∀ k, u'.ownBlock = some k → u.ownBlock = some k ∨ W.heap.size ≤ k) : Apt u' v := fun k hk e => by
  rcases ha k hk with h1 | h1
  · exact h k h1 e
  · have := (hv.lt k e).2; omega
theorem own_grown {W W' : World} {B n : Nat} {e : TypeId} {u v : Value} {s : Nat} {xs : List Value} (hv : W.ownsRow B e s v n xs) (hg : W.grownBy W' u.ownBlock) (h : Apt u v) : W'.ownsRow B e s v n xs :=
  own_fr (F := fun k => u.ownBlock = some k) hv ⟨hg.os, hg.tape, hg.output, hg.size, fun k hk hn => hg.block k hk (fun e => hn e.symm)⟩ (fun k hk e => h k e hk)
theorem below_grown {w W W' : World} {u : Value} {n : Nat} {xs : List Value} (hb : Below w.heap.size w W) (ho : W.ownsRow w.heap.size 3 1 u n xs) (hg : W.grownBy W' u.ownBlock) : Below w.heap.size w W' := hb.grown hg hb.size (fun k hk => (ho.lt k hk).1)
theorem infoP57 : (Try.prog.info? 68).map (fun i => (i.zero, i.size, i.bytes)) = some (some (.pointer none), 1, 8) := by kernel_rfl
theorem ObAt.recolor {w : World} {C C' : Nat → Nat} {i q : Nat} {o : Ob} {a : Nat} (h : ObAt w C i q o a) (hC : ∀ k, k < w.heap.size → C' k = C k) : ObAt w C' i q o a := by
  obtain ⟨h0, pv, nv, h1, h2, h3, h4, h5⟩ := h
  exact ⟨by rw [hC _ (Array.getElem?_eq_some_iff.1 h1).1]; exact h0, pv, nv, h1, h2, fun k hk => by rw [hC k (h2.lt k hk).2]; exact h3 k hk, h4, fun k hk => by rw [hC k (h4.lt k hk).2]; exact h5 k hk⟩
theorem rput_fin {w wc w9 : World} {x : Nat} {C : Nat → Nat} {qs : List Nat} {os : List Ob} {m q N sz : Nat} {t : Nat} {ps ns : List Int} {lv v' uv vv : Value} (h : Rh w x C qs os m) (hb : Below w.heap.size w wc)
    (hlv : wc.heap[x]? = some (.cells #[.int .i64 m, .int .i64 (N : Nat), lv] 67 (0, 0))) (hlo : wc.ownsRow 0 68 1 lv os.length (qs.map optr)) (hlc : ∀ k, lv.ownBlock = some k → C k = 2 ∧ k < w.heap.size) (hN : N = total os)
    (hq : wc.heap[q]? = some (.cells #[.int .i64 (N : Nat), .int .i64 t, uv, vv] 70 (0, 0))) (hu : wc.ownsRow w.heap.size 3 1 uv ps.length (ps.map (Value.int .i64))) (hvv : wc.ownsRow w.heap.size 3 1 vv ns.length (ns.map (Value.int .i64))) (hap : Apt uv vv)
    (hqw : w.heap.size ≤ q) (hq1 : uv.ownBlock ≠ some q) (hq2 : vv.ownBlock ≠ some q) (hown : w9.ownsRow 0 68 1 v' (os.length + 1) (qs.map optr ++ [optr q]))
    (hg : (wc.alloc (.cells #[optr q] 68)).grownBy w9 lv.ownBlock) (hvb : ∀ k, v'.ownBlock = some k → lv.ownBlock = some k ∨ (wc.alloc (.cells #[optr q] 68)).heap.size ≤ k)
    (hclo : Closed (os ++ [newO t ps ns])) (hoks : Oks (os ++ [newO t ps ns])) (htot : total (os ++ [newO t ps ns]) = N + sz) (hr : N + sz ≤ m) (e : Ending) (he : e = .returned (.int .i64 (N : Nat))) :
    RetR (.int .i64 (N : Nat)) x C (os ++ [newO t ps ns]) m w e ((w9.setCell ⟨x, 2, none⟩ v').setCell ⟨x, 1, none⟩ (.int .i64 ((N + sz : Nat) : Int))) := by
  have hxw := h.lt
  have hqs : q < wc.heap.size := (Array.getElem?_eq_some_iff.1 hq).1
  have hcx := h.cx
  have hA : Below wc.heap.size wc (wc.alloc (.cells #[optr q] 68)) := (Below.refl _ _).alloc (Nat.le_refl _) _
  have hAs : (wc.alloc (.cells #[optr q] 68)).heap.size = wc.heap.size + 1 := by simp
  have hws : w.heap.size ≤ wc.heap.size := hb.size
  have hxl : ∀ k, lv.ownBlock = some k → k ≠ x := fun k hk e => by have := (hlc k hk).1; rw [e] at this; omega
  -- what stays between wc and the end
  have keep : ∀ k, k < wc.heap.size → k ≠ x → lv.ownBlock ≠ some k → ((w9.setCell ⟨x, 2, none⟩ v').setCell ⟨x, 1, none⟩ (.int .i64 ((N + sz : Nat) : Int))).heap[k]? = wc.heap[k]? := by
    intro k hk h1 h2
    rw [Below.heap_setCell _ _ _ _ h1, Below.heap_setCell _ _ _ _ h1, hg.block k (by omega) (fun e => h2 e.symm), hA.block k hk]
  have hsz : ((w9.setCell ⟨x, 2, none⟩ v').setCell ⟨x, 1, none⟩ (.int .i64 ((N + sz : Nat) : Int))).heap.size = w9.heap.size := by simp [World.setCell]
  have hgs := hg.size
  have h9x : w9.heap[x]? = some (.cells #[.int .i64 m, .int .i64 (N : Nat), lv] 67 (0, 0)) := by rw [hg.block x (by omega) (fun e => hxl x e.symm rfl), hA.block x (by omega)]; exact hlv
  have s1 := heap_setCell_same w9 x 2 _ 67 v' h9x
  have s2 := heap_setCell_same _ x 1 _ 67 (.int .i64 ((N + sz : Nat) : Int)) s1
  refine ⟨he, fun k => if k = q then 3 * os.length + 3 else if uv.ownBlock = some k then 3 * os.length + 4 else if vv.ownBlock = some k then 3 * os.length + 5 else if v'.ownBlock = some k then 2 else C k, qs ++ [q], ?_, ?_, ?_⟩
  · have hlow : ∀ k, k < w.heap.size → (if k = q then 3 * os.length + 3 else if uv.ownBlock = some k then 3 * os.length + 4 else if vv.ownBlock = some k then 3 * os.length + 5 else if v'.ownBlock = some k then 2 else C k) = C k := by
      intro k hk
      rw [if_neg (by omega), if_neg (fun e => by have := (hu.lt k e).1; omega), if_neg (fun e => by have := (hvv.lt k e).1; omega)]
      split
      · rename_i e
        rcases hvb k e with h1 | h1
        · exact (hlc k h1).1.symm
        · omega
      · rfl
    have hfr : Fr (fun k => k = x ∨ lv.ownBlock = some k) w ((w9.setCell ⟨x, 2, none⟩ v').setCell ⟨x, 1, none⟩ (.int .i64 ((N + sz : Nat) : Int))) :=
      ⟨by show w9.os = _; rw [hg.os, hA.os, hb.os], by show w9.tape = _; rw [hg.tape, hA.tape, hb.tape], by show w9.output = _; rw [hg.output, hA.output, hb.output], by rw [hsz]; omega,
        fun k hk hn => by rw [keep k (by omega) (fun e => hn (.inl e)) (fun e => hn (.inr e))]; exact hb.block k hk⟩
    have hvq : ∀ k, v'.ownBlock = some k → k ≠ q ∧ uv.ownBlock ≠ some k ∧ vv.ownBlock ≠ some k := by
      intro k hk
      rcases hvb k hk with h1 | h1
      · have := (hlc k h1).2
        exact ⟨by omega, fun e => by have := (hu.lt k e).1; omega, fun e => by have := (hvv.lt k e).1; omega⟩
      · exact ⟨by omega, fun e => by have := (hu.lt k e).2; omega, fun e => by have := (hvv.lt k e).2; omega⟩
    refine ⟨⟨v', ?_, ?_, ?_⟩, ?_, by simp [h.len], ?_, hoks, hclo, h.most, by rw [htot]; exact hr, ?_⟩
    · rw [htot]; simpa using s2
    · rw [List.length_append, List.map_append]
      refine own_fr (F := fun k => k = x) hown (Fr.setCell (F := fun k => k = x) (p := ⟨x, 1, none⟩) (Fr.setCell (F := fun k => k = x) (p := ⟨x, 2, none⟩) (Fr.refl _ _) rfl _) rfl _) (fun k hk e => ?_)
      rcases hvb k hk with h1 | h1
      · exact hxl k h1 e
      · omega
    · intro k hk
      obtain ⟨a1, a2, a3⟩ := hvq k hk
      show (if k = q then _ else _) = 2
      rw [if_neg a1, if_neg a2, if_neg a3, if_pos hk]
    · show (if x = q then _ else _) = 1
      rw [hlow x hxw]; exact hcx
    · intro i hi hi'
      rw [List.length_append] at hi hi'
      simp only [List.length_cons, List.length_nil] at hi hi'
      rw [adr_snoc os _ i (by omega)]
      by_cases hil : i < os.length
      · have hiq : i < qs.length := by rw [h.len]; exact hil
        rw [List.getElem_append_left hil, List.getElem_append_left hiq]
        refine ((h.obs i hil hiq).recolor hlow).fr hfr (fun k hk => ?_)
        have hc : (if k = q then 3 * os.length + 3 else if uv.ownBlock = some k then 3 * os.length + 4 else if vv.ownBlock = some k then 3 * os.length + 5 else if v'.ownBlock = some k then 2 else C k) = 1 ∨ (if k = q then 3 * os.length + 3 else if uv.ownBlock = some k then 3 * os.length + 4 else if vv.ownBlock = some k then 3 * os.length + 5 else if v'.ownBlock = some k then 2 else C k) = 2 := by
          rcases hk with rfl | hk
          · rw [hlow k hxw]; exact .inl hcx
          · rw [hlow k (hlc k hk).2]; exact .inr (hlc k hk).1
        omega
      · have hie : i = os.length := by omega
        subst hie
        rw [List.getElem_append_right (Nat.le_refl _), List.getElem_append_right (by rw [h.len]; exact Nat.le_refl _)]
        simp only [Nat.sub_self, h.len, List.getElem_cons_zero]
        rw [adr_all, ← hN]
        have hfc : Fr (fun k => k = x ∨ lv.ownBlock = some k) wc ((w9.setCell ⟨x, 2, none⟩ v').setCell ⟨x, 1, none⟩ (.int .i64 ((N + sz : Nat) : Int))) :=
          ⟨by show w9.os = _; rw [hg.os, hA.os], by show w9.tape = _; rw [hg.tape, hA.tape], by show w9.output = _; rw [hg.output, hA.output], by rw [hsz]; omega,
            fun k hk hn => keep k hk (fun e => hn (.inl e)) (fun e => hn (.inr e))⟩
        have hhi : ∀ k, w.heap.size ≤ k → ¬ (k = x ∨ lv.ownBlock = some k) := fun k hk e => by
          rcases e with e | e
          · omega
          · have := (hlc k e).2; omega
        refine ⟨if_pos rfl, uv, vv, (hfc.block q hqs (hhi q hqw)).trans hq, ?_, fun k hk => ?_, ?_, fun k hk => ?_⟩
        · rw [newO_ptrs]; exact own_fr (own_less hu (Nat.zero_le _)) hfc (fun k hk => hhi k (hu.lt k hk).1)
        · show (if k = q then _ else _) = _
          rw [if_neg (fun e => hq1 (by rw [hk, e])), if_pos hk]
        · rw [newO_nums]; exact own_fr (own_less hvv (Nat.zero_le _)) hfc (fun k hk => hhi k (hvv.lt k hk).1)
        · show (if k = q then _ else _) = _
          rw [if_neg (fun e => hq2 (by rw [hk, e])), if_neg (fun e => hap k e hk), if_pos hk]
    · intro k hk
      rw [hsz] at hk
      show (if k = q then _ else _) = 0
      rw [if_neg (by omega), if_neg (fun e => by have := (hu.lt k e).2; omega), if_neg (fun e => by have := (hvv.lt k e).2; omega), if_neg (fun e => by have := (hown.lt k e).2; omega)]
      exact h.fresh k (by omega)
  · exact ⟨by show w9.os = _; rw [hg.os, hA.os, hb.os], by show w9.tape = _; rw [hg.tape, hA.tape, hb.tape], by show w9.output = _; rw [hg.output, hA.output, hb.output], by rw [hsz]; omega,
      fun k hk hn => by
        rw [keep k (by omega) (fun e => hn (by rw [e]; omega)) (fun e => hn (by have := (hlc k e).1; omega))]
        exact hb.block k hk⟩
  · intro k hk
    by_cases hkw : k < w.heap.size
    · refine .inl (fun e => hk ?_)
      show (if k = q then _ else _) = 0
      rw [if_neg (by omega), if_neg (fun e => by have := (hu.lt k e).1; omega), if_neg (fun e => by have := (hvv.lt k e).1; omega)]
      split
      · rename_i e2
        rcases hvb k e2 with h1 | h1
        · have := (hlc k h1).1; omega
        · omega
      · exact e
    · exact .inr (by omega)
set_option maxHeartbeats 16000000 in
set_option maxRecDepth 100000 in
theorem rput_r {w : World} {x : Nat} {C : Nat → Nat} {qs : List Nat} {os : List Ob} {m : Nat} (h : Rh w x C qs os m) (t : Nat) (ps ns : List Int) (pv nv : Value) (hp : IsS w pv ps) (hn : IsS w nv ns)
    (h1 : 1 ≤ t) (h2 : t ≤ 7) (h3 : ps.length ≤ 60) (h4 : ns.length ≤ 60) (h5 : Shp t ps ns) (hv : ∀ p ∈ ps, bey os p = false) (hr : total os + (newO t ps ns).size ≤ m) :
    Calls Try.prog 69 #[.pointer (some ⟨x, 0, none⟩), .int .i64 t, pv, nv] w (RetR (.int .i64 (total os : Nat)) x C (os ++ [newO t ps ns]) m w) := by
  have HP := Lib.hid hp
  have HNS := Lib.hid hn
  have HH := Lib.hid h
  have hx := h.lt
  have hm := h.most
  have HC : Hid (∀ W, Below w.heap.size w W → W.cell? ⟨x, 1, none⟩ = some (.int .i64 (total os : Nat))) := fun W hb => by obtain ⟨_, _, _, h1, _⟩ := (h.below hb).cells; exact h1
  have hsz : (newO t ps ns).size = max 2 (1 + ps.length + ns.length) := newO_size t ps ns
  have hclo : Hid (Closed (os ++ [newO t ps ns])) := by
    intro y hy p hp
    rw [ob_snoc]
    split
    · exact ⟨_, rfl⟩
    · rename_i hne
      simp at hy
      rcases hy with hy | rfl
      · exact h.closed y hy p hp
      · rw [newO_ptrs] at hp
        have := hv p hp
        unfold bey at this
        cases hob : ob os p with
        | some q => exact ⟨q, rfl⟩
        | none => rw [hob] at this; simp at this; exact absurd this hne
  have hoks : Hid (Oks (os ++ [newO t ps ns])) := oks_snoc h.oks (newO_ok h1 h2 h3 h4 h5)
  have htot : Hid (total (os ++ [newO t ps ns]) = total os + (newO t ps ns).size) := by show _ = _; rw [total_append]; simp [total]
  obtain ⟨pa, pc, rfl, hpc, _⟩ := hp
  obtain ⟨na, nc, rfl, hnc, _⟩ := hn
  obtain ⟨N, hN⟩ : ∃ N, N = total os := ⟨_, rfl⟩
  rw [← hN] at HC hr htot ⊢
  have HNN := Lib.hid hN
  obtain ⟨sz, hszd⟩ : ∃ sz, sz = (newO t ps ns).size := ⟨_, rfl⟩
  rw [← hszd] at hr hsz htot
  clear h hv hN hszd
  go_enter Try.func69, Try.ntmps69
  go_upto_region 1 with fail
  go_cut [9] from 10 (fun s9 wx => ∃ (q : Nat) (uv vv : Value), s9 = .pointer (some ⟨q, 0, none⟩) ∧ wx.heap[q]? = some (.cells #[.int .i64 (N : Nat), .int .i64 t, uv, vv] 70 (0, 0)) ∧ wx.ownsRow w.heap.size 3 1 uv ps.length (ps.map (Value.int .i64)) ∧ wx.ownsRow w.heap.size 3 1 vv ns.length (ns.map (Value.int .i64)) ∧ Apt uv vv ∧
    w.heap.size ≤ q ∧ uv.ownBlock ≠ some q ∧ vv.ownBlock ≠ some q ∧ Below w.heap.size w wx)
  case first =>
    refine wp_region_noPanic ?_
    refine wp_region_held_drew (S := Below w.heap.size w) (by kernel_rfl) ((Below.refl _ _).drew) (fun hHeld => ?_)
    generalize w.drew = X at hHeld ⊢
    have HB_ := Lib.hid hHeld
    refine wpAnyH_take (i := 0) (v := ?v0) rfl (by kernel_rfl) (by kernel_rfl) (by kernel_rfl) (fun _ _ _ h => h) (Or.inl ⟨rfl, fun w' hw' => ?h0⟩) hHeld ?r0
    case h0 =>
      go_simp
      try with_reducible rfl
    simp only [List.getElem_toArray, List.getElem_cons_succ, List.getElem_cons_zero, Act.put, List.setIfInBounds_toArray, List.set_cons_zero, List.set_cons_succ]
    refine wpAnyH_take (i := 1) (v := ?v1) rfl (by kernel_rfl) (by kernel_rfl) (by kernel_rfl) (fun _ _ _ h => h) (Or.inl ⟨rfl, fun w' hw' => ?h1⟩) hHeld ?r1
    case h1 =>
      go_simp
      try with_reducible rfl
    simp only [List.getElem_toArray, List.getElem_cons_succ, List.getElem_cons_zero, Act.put, List.setIfInBounds_toArray, List.set_cons_zero, List.set_cons_succ]
    refine wpAnyH_take (i := 2) (v := ?v2) rfl (by kernel_rfl) (by kernel_rfl) (by kernel_rfl) (fun _ _ _ h => h) (Or.inl ⟨rfl, fun w' hw' => ?h2⟩) hHeld ?r2
    case h2 =>
      go_simp
      try with_reducible rfl
    simp only [List.getElem_toArray, List.getElem_cons_succ, List.getElem_cons_zero, Act.put, List.setIfInBounds_toArray, List.set_cons_zero, List.set_cons_succ]
    refine wpAnyH_take (i := 3) (v := ?v3) rfl (by kernel_rfl) (by kernel_rfl) (by kernel_rfl) (fun _ _ _ h => h) (Or.inl ⟨rfl, fun w' hw' => ?h3⟩) hHeld ?r3
    case h3 =>
      (have d0 := HC.out w' hw'; go_simp)
      try with_reducible rfl
    simp only [List.getElem_toArray, List.getElem_cons_succ, List.getElem_cons_zero, Act.put, List.setIfInBounds_toArray, List.set_cons_zero, List.set_cons_succ]
    refine wpAnyH_take (i := 4) (v := ?v4) rfl (by kernel_rfl) (by kernel_rfl) (by kernel_rfl) (fun _ _ _ h => h) (Or.inl ⟨rfl, fun w' hw' => ?h4⟩) hHeld ?r4
    case h4 =>
      go_simp
      try with_reducible rfl
    simp only [List.getElem_toArray, List.getElem_cons_succ, List.getElem_cons_zero, Act.put, List.setIfInBounds_toArray, List.set_cons_zero, List.set_cons_succ]
    refine wpAnyH_take (i := 6) (v := ?v5) rfl (by kernel_rfl) (by kernel_rfl) (by kernel_rfl) (fun _ _ _ h => h) (Or.inl ⟨rfl, fun w' hw' => ?h5⟩) hHeld ?r5
    case h5 =>
      go_simp
      try with_reducible rfl
    simp only [List.getElem_toArray, List.getElem_cons_succ, List.getElem_cons_zero, Act.put, List.setIfInBounds_toArray, List.set_cons_zero, List.set_cons_succ]
    refine wpAnyH_take (i := 9) (v := ?v6) rfl (by kernel_rfl) (by kernel_rfl) (by kernel_rfl) (fun _ _ _ h => h) (Or.inl ⟨rfl, fun w' hw' => ?h6⟩) hHeld ?r6
    case h6 =>
      go_simp
      try with_reducible rfl
    simp only [List.getElem_toArray, List.getElem_cons_succ, List.getElem_cons_zero, Act.put, List.setIfInBounds_toArray, List.set_cons_zero, List.set_cons_succ]
    refine wpAnyH_ready (rs := [5, 8]) (by kernel_rfl) (by simp) ?_
    refine (AllReadyH.cons rfl (fun K hK => ?_) (AllReadyH.cons rfl (fun K hK => ?_) AllReadyH.nil))
    · skip
      go_simp
      have b9 := HB_.out.alloc HB_.out.size (.cells #[] 3)
      have o9 := none_made2 HB_.out
      generalize X.alloc (.cells #[] 3) = Y5_ at b9 o9 ⊢
      generalize X.heap.size = g5 at o9 ⊢
      have HB_5_ := Lib.hid b9
      have O5 := Lib.hid o9
      clear b9 o9 
      refine hK.out _ _ HB_5_.out (fun hHeld => ?_)
      clear hK K
      try simp only [List.getElem_toArray, List.getElem_cons_succ, List.getElem_cons_zero, Act.put, List.setIfInBounds_toArray, List.set_cons_zero, List.set_cons_succ]
      refine wpAnyH_ready (rs := [7, 8]) (by kernel_rfl) (by simp) ?_
      refine (AllReadyH.cons rfl (fun K hK => ?_) (AllReadyH.cons rfl (fun K hK => ?_) AllReadyH.nil))
      · skip
        refine wp_appI (Operand.tmp 15) (Operand.tmp 16) rfl w.heap.size (.slice (some ⟨g5, 0, none⟩) 0 0) 0 [] rfl O5.out (.slice pa ps.length pc) rfl ps.length _ (isS_srcA (HP.out.below HB_5_.out)) (by omega) HB_5_.out.size ?_
        intro v7 Y5_7_ hown9 hg9 hv9
        rw [Nat.zero_add, List.nil_append] at hown9
        have HB_5_7_ := Lib.hid (below_grown HB_5_.out O5.out hg9)
        obtain ⟨b7, c7, hf7⟩ := own_sform hown9
        subst hf7
        have O7 := Lib.hid hown9
        clear hown9 hg9 hv9 O5
        refine hK.out _ _ HB_5_7_.out (fun hHeld => ?_)
        clear hK K
        try simp only [List.getElem_toArray, List.getElem_cons_succ, List.getElem_cons_zero, Act.put, List.setIfInBounds_toArray, List.set_cons_zero, List.set_cons_succ]
        refine wpAnyH_ready (rs := [8]) (by kernel_rfl) (by simp) ?_
        refine (AllReadyH.cons rfl (fun K hK => ?_) AllReadyH.nil)
        go_simp
        have b9 := HB_5_7_.out.alloc HB_5_7_.out.size (.cells #[] 3)
        have o9 := none_made2 HB_5_7_.out
        have a9 := apt_new (c := 0) (d := 0) O7.out
        have k9 := O7.out.alloc (.cells #[] 3)
        generalize Y5_7_.alloc (.cells #[] 3) = Y5_7_8_ at b9 o9 k9 ⊢
        generalize Y5_7_.heap.size = g8 at o9 a9 ⊢
        have HB_5_7_8_ := Lib.hid b9
        have O8 := Lib.hid o9
        clear O7
        have O7 := Lib.hid k9
        have AP := Lib.hid (a9)
        clear b9 o9 a9 k9
        refine hK.out _ _ HB_5_7_8_.out (fun hHeld => ?_)
        clear hK K
        try simp only [List.getElem_toArray, List.getElem_cons_succ, List.getElem_cons_zero, Act.put, List.setIfInBounds_toArray, List.set_cons_zero, List.set_cons_succ]
        refine wpAnyH_ready (rs := [10]) (by kernel_rfl) (by simp) ?_
        refine (AllReadyH.cons rfl (fun K hK => ?_) AllReadyH.nil)
        refine wp_appI (Operand.tmp 18) (Operand.tmp 19) rfl w.heap.size (.slice (some ⟨g8, 0, none⟩) 0 0) 0 [] rfl O8.out (.slice na ns.length nc) rfl ns.length _ (isS_srcA (HNS.out.below HB_5_7_8_.out)) (by omega) HB_5_7_8_.out.size ?_
        intro v10 Y5_7_8_10_ hown9 hg9 hv9
        rw [Nat.zero_add, List.nil_append] at hown9
        have HB_5_7_8_10_ := Lib.hid (below_grown HB_5_7_8_.out O8.out hg9)
        have AP2 := Lib.hid ((AP.out.symm).app O7.out hv9)
        have k9 := own_grown O7.out hg9 (AP.out.symm)
        clear O7 AP
        have O7 := Lib.hid k9
        have AP := Lib.hid AP2.out.symm
        clear k9 AP2
        obtain ⟨b10, c10, hf10⟩ := own_sform hown9
        subst hf10
        have O10 := Lib.hid hown9
        clear hown9 hg9 hv9 O8
        refine hK.out _ _ HB_5_7_8_10_.out (fun hHeld => ?_)
        clear hK K
        try simp only [List.getElem_toArray, List.getElem_cons_succ, List.getElem_cons_zero, Act.put, List.setIfInBounds_toArray, List.set_cons_zero, List.set_cons_succ]
        refine wpAnyH_take (i := 11) (v := ?v7) rfl (by kernel_rfl) (by kernel_rfl) (by kernel_rfl) (fun _ _ _ h => h) (Or.inl ⟨rfl, fun w' hw' => ?h7⟩) hHeld ?r7
        case h7 =>
          go_simp
          try with_reducible rfl
        simp only [List.getElem_toArray, List.getElem_cons_succ, List.getElem_cons_zero, Act.put, List.setIfInBounds_toArray, List.set_cons_zero, List.set_cons_succ]
        refine wpAnyH_ready (rs := [12]) (by kernel_rfl) (by simp) ?_
        refine (AllReadyH.cons rfl (fun K hK => ?_) AllReadyH.nil)
        go_simp
        have b9 := HB_5_7_8_10_.out.alloc HB_5_7_8_10_.out.size (.cells #[.int .i64 (N : Nat), .int .i64 t, .slice b7 ps.length c7, .slice b10 ns.length c10] 70)
        refine hK.out _ _ b9 (fun hHeld => ?_)
        have HF : Hid (∃ (q : Nat) (uv vv : Value), Value.pointer (some ⟨Y5_7_8_10_.heap.size, 0, none⟩) = .pointer (some ⟨q, 0, none⟩) ∧ (Y5_7_8_10_.alloc (.cells #[.int .i64 (N : Nat), .int .i64 t, .slice b7 ps.length c7, .slice b10 ns.length c10] 70)).heap[q]? = some (.cells #[.int .i64 (N : Nat), .int .i64 t, uv, vv] 70 (0, 0)) ∧ (Y5_7_8_10_.alloc (.cells #[.int .i64 (N : Nat), .int .i64 t, .slice b7 ps.length c7, .slice b10 ns.length c10] 70)).ownsRow w.heap.size 3 1 uv ps.length (ps.map (Value.int .i64)) ∧ (Y5_7_8_10_.alloc (.cells #[.int .i64 (N : Nat), .int .i64 t, .slice b7 ps.length c7, .slice b10 ns.length c10] 70)).ownsRow w.heap.size 3 1 vv ns.length (ns.map (Value.int .i64)) ∧ Apt uv vv ∧ w.heap.size ≤ q ∧ uv.ownBlock ≠ some q ∧ vv.ownBlock ≠ some q ∧ Below w.heap.size w (Y5_7_8_10_.alloc (.cells #[.int .i64 (N : Nat), .int .i64 t, .slice b7 ps.length c7, .slice b10 ns.length c10] 70))) := ⟨_, _, _, rfl, alloc_at Y5_7_8_10_ _, O7.out.alloc _, O10.out.alloc _, AP.out, HB_5_7_8_10_.out.size, fun e => by have := (O7.out.lt _ e).2; omega, fun e => by have := (O10.out.lt _ e).2; omega, b9⟩
        clear b9
        clear hK K
        try simp only [List.getElem_toArray, List.getElem_cons_succ, List.getElem_cons_zero, Act.put, List.setIfInBounds_toArray, List.set_cons_zero, List.set_cons_succ]
        refine wpAnyH_take (i := 13) (v := ?v8) rfl (by kernel_rfl) (by kernel_rfl) (by kernel_rfl) (fun _ _ _ h => h) (Or.inl ⟨rfl, fun w' hw' => ?h8⟩) hHeld ?r8
        case h8 =>
          go_simp
          try with_reducible rfl
        simp only [List.getElem_toArray, List.getElem_cons_succ, List.getElem_cons_zero, Act.put, List.setIfInBounds_toArray, List.set_cons_zero, List.set_cons_succ]
        refine wpAnyH_done (by kernel_rfl) ?_ _
        refine NoPanic.normal ?_
        clear hHeld
        go_wp2_with fail
        go_meet
        case rel => exact HF.out
      · skip
        go_simp
        have b9 := HB_5_.out.alloc HB_5_.out.size (.cells #[] 3)
        have o9 := none_made2 HB_5_.out
        have a9 := apt_new (c := 0) (d := 0) O5.out
        have k9 := O5.out.alloc (.cells #[] 3)
        generalize Y5_.alloc (.cells #[] 3) = Y5_8_ at b9 o9 k9 ⊢
        generalize Y5_.heap.size = g8 at o9 a9 ⊢
        have HB_5_8_ := Lib.hid b9
        have O8 := Lib.hid o9
        clear O5
        have O5 := Lib.hid k9
        have AP := Lib.hid (a9)
        clear b9 o9 a9 k9
        refine hK.out _ _ HB_5_8_.out (fun hHeld => ?_)
        clear hK K
        try simp only [List.getElem_toArray, List.getElem_cons_succ, List.getElem_cons_zero, Act.put, List.setIfInBounds_toArray, List.set_cons_zero, List.set_cons_succ]
        refine wpAnyH_ready (rs := [7]) (by kernel_rfl) (by simp) ?_
        refine (AllReadyH.cons rfl (fun K hK => ?_) AllReadyH.nil)
        refine wp_appI (Operand.tmp 15) (Operand.tmp 16) rfl w.heap.size (.slice (some ⟨g5, 0, none⟩) 0 0) 0 [] rfl O5.out (.slice pa ps.length pc) rfl ps.length _ (isS_srcA (HP.out.below HB_5_8_.out)) (by omega) HB_5_8_.out.size ?_
        intro v7 Y5_7_8_ hown9 hg9 hv9
        rw [Nat.zero_add, List.nil_append] at hown9
        have HB_5_7_8_ := Lib.hid (below_grown HB_5_8_.out O5.out hg9)
        have AP2 := Lib.hid ((AP.out).app O8.out hv9)
        have k9 := own_grown O8.out hg9 (AP.out)
        clear O8 AP
        have O8 := Lib.hid k9
        have AP := Lib.hid AP2.out
        clear k9 AP2
        obtain ⟨b7, c7, hf7⟩ := own_sform hown9
        subst hf7
        have O7 := Lib.hid hown9
        clear hown9 hg9 hv9 O5
        refine hK.out _ _ HB_5_7_8_.out (fun hHeld => ?_)
        clear hK K
        try simp only [List.getElem_toArray, List.getElem_cons_succ, List.getElem_cons_zero, Act.put, List.setIfInBounds_toArray, List.set_cons_zero, List.set_cons_succ]
        refine wpAnyH_ready (rs := [10]) (by kernel_rfl) (by simp) ?_
        refine (AllReadyH.cons rfl (fun K hK => ?_) AllReadyH.nil)
        refine wp_appI (Operand.tmp 18) (Operand.tmp 19) rfl w.heap.size (.slice (some ⟨g8, 0, none⟩) 0 0) 0 [] rfl O8.out (.slice na ns.length nc) rfl ns.length _ (isS_srcA (HNS.out.below HB_5_7_8_.out)) (by omega) HB_5_7_8_.out.size ?_
        intro v10 Y5_7_8_10_ hown9 hg9 hv9
        rw [Nat.zero_add, List.nil_append] at hown9
        have HB_5_7_8_10_ := Lib.hid (below_grown HB_5_7_8_.out O8.out hg9)
        have AP2 := Lib.hid ((AP.out.symm).app O7.out hv9)
        have k9 := own_grown O7.out hg9 (AP.out.symm)
        clear O7 AP
        have O7 := Lib.hid k9
        have AP := Lib.hid AP2.out.symm
        clear k9 AP2
        obtain ⟨b10, c10, hf10⟩ := own_sform hown9
        subst hf10
        have O10 := Lib.hid hown9
        clear hown9 hg9 hv9 O8
        refine hK.out _ _ HB_5_7_8_10_.out (fun hHeld => ?_)
        clear hK K
        try simp only [List.getElem_toArray, List.getElem_cons_succ, List.getElem_cons_zero, Act.put, List.setIfInBounds_toArray, List.set_cons_zero, List.set_cons_succ]
        refine wpAnyH_take (i := 11) (v := ?v9) rfl (by kernel_rfl) (by kernel_rfl) (by kernel_rfl) (fun _ _ _ h => h) (Or.inl ⟨rfl, fun w' hw' => ?h9⟩) hHeld ?r9
        case h9 =>
          go_simp
          try with_reducible rfl
        simp only [List.getElem_toArray, List.getElem_cons_succ, List.getElem_cons_zero, Act.put, List.setIfInBounds_toArray, List.set_cons_zero, List.set_cons_succ]
        refine wpAnyH_ready (rs := [12]) (by kernel_rfl) (by simp) ?_
        refine (AllReadyH.cons rfl (fun K hK => ?_) AllReadyH.nil)
        go_simp
        have b9 := HB_5_7_8_10_.out.alloc HB_5_7_8_10_.out.size (.cells #[.int .i64 (N : Nat), .int .i64 t, .slice b7 ps.length c7, .slice b10 ns.length c10] 70)
        refine hK.out _ _ b9 (fun hHeld => ?_)
        have HF : Hid (∃ (q : Nat) (uv vv : Value), Value.pointer (some ⟨Y5_7_8_10_.heap.size, 0, none⟩) = .pointer (some ⟨q, 0, none⟩) ∧ (Y5_7_8_10_.alloc (.cells #[.int .i64 (N : Nat), .int .i64 t, .slice b7 ps.length c7, .slice b10 ns.length c10] 70)).heap[q]? = some (.cells #[.int .i64 (N : Nat), .int .i64 t, uv, vv] 70 (0, 0)) ∧ (Y5_7_8_10_.alloc (.cells #[.int .i64 (N : Nat), .int .i64 t, .slice b7 ps.length c7, .slice b10 ns.length c10] 70)).ownsRow w.heap.size 3 1 uv ps.length (ps.map (Value.int .i64)) ∧ (Y5_7_8_10_.alloc (.cells #[.int .i64 (N : Nat), .int .i64 t, .slice b7 ps.length c7, .slice b10 ns.length c10] 70)).ownsRow w.heap.size 3 1 vv ns.length (ns.map (Value.int .i64)) ∧ Apt uv vv ∧ w.heap.size ≤ q ∧ uv.ownBlock ≠ some q ∧ vv.ownBlock ≠ some q ∧ Below w.heap.size w (Y5_7_8_10_.alloc (.cells #[.int .i64 (N : Nat), .int .i64 t, .slice b7 ps.length c7, .slice b10 ns.length c10] 70))) := ⟨_, _, _, rfl, alloc_at Y5_7_8_10_ _, O7.out.alloc _, O10.out.alloc _, AP.out, HB_5_7_8_10_.out.size, fun e => by have := (O7.out.lt _ e).2; omega, fun e => by have := (O10.out.lt _ e).2; omega, b9⟩
        clear b9
        clear hK K
        try simp only [List.getElem_toArray, List.getElem_cons_succ, List.getElem_cons_zero, Act.put, List.setIfInBounds_toArray, List.set_cons_zero, List.set_cons_succ]
        refine wpAnyH_take (i := 13) (v := ?v10) rfl (by kernel_rfl) (by kernel_rfl) (by kernel_rfl) (fun _ _ _ h => h) (Or.inl ⟨rfl, fun w' hw' => ?h10⟩) hHeld ?r10
        case h10 =>
          go_simp
          try with_reducible rfl
        simp only [List.getElem_toArray, List.getElem_cons_succ, List.getElem_cons_zero, Act.put, List.setIfInBounds_toArray, List.set_cons_zero, List.set_cons_succ]
        refine wpAnyH_done (by kernel_rfl) ?_ _
        refine NoPanic.normal ?_
        clear hHeld
        go_wp2_with fail
        go_meet
        case rel => exact HF.out
    · skip
      go_simp
      have b9 := HB_.out.alloc HB_.out.size (.cells #[] 3)
      have o9 := none_made2 HB_.out
      generalize X.alloc (.cells #[] 3) = Y8_ at b9 o9 ⊢
      generalize X.heap.size = g8 at o9 ⊢
      have HB_8_ := Lib.hid b9
      have O8 := Lib.hid o9
      clear b9 o9 
      refine hK.out _ _ HB_8_.out (fun hHeld => ?_)
      clear hK K
      try simp only [List.getElem_toArray, List.getElem_cons_succ, List.getElem_cons_zero, Act.put, List.setIfInBounds_toArray, List.set_cons_zero, List.set_cons_succ]
      refine wpAnyH_ready (rs := [5]) (by kernel_rfl) (by simp) ?_
      refine (AllReadyH.cons rfl (fun K hK => ?_) AllReadyH.nil)
      go_simp
      have b9 := HB_8_.out.alloc HB_8_.out.size (.cells #[] 3)
      have o9 := none_made2 HB_8_.out
      have a9 := apt_new (c := 0) (d := 0) O8.out
      have k9 := O8.out.alloc (.cells #[] 3)
      generalize Y8_.alloc (.cells #[] 3) = Y5_8_ at b9 o9 k9 ⊢
      generalize Y8_.heap.size = g5 at o9 a9 ⊢
      have HB_5_8_ := Lib.hid b9
      have O5 := Lib.hid o9
      clear O8
      have O8 := Lib.hid k9
      have AP := Lib.hid (a9.symm)
      clear b9 o9 a9 k9
      refine hK.out _ _ HB_5_8_.out (fun hHeld => ?_)
      clear hK K
      try simp only [List.getElem_toArray, List.getElem_cons_succ, List.getElem_cons_zero, Act.put, List.setIfInBounds_toArray, List.set_cons_zero, List.set_cons_succ]
      refine wpAnyH_ready (rs := [7]) (by kernel_rfl) (by simp) ?_
      refine (AllReadyH.cons rfl (fun K hK => ?_) AllReadyH.nil)
      refine wp_appI (Operand.tmp 15) (Operand.tmp 16) rfl w.heap.size (.slice (some ⟨g5, 0, none⟩) 0 0) 0 [] rfl O5.out (.slice pa ps.length pc) rfl ps.length _ (isS_srcA (HP.out.below HB_5_8_.out)) (by omega) HB_5_8_.out.size ?_
      intro v7 Y5_7_8_ hown9 hg9 hv9
      rw [Nat.zero_add, List.nil_append] at hown9
      have HB_5_7_8_ := Lib.hid (below_grown HB_5_8_.out O5.out hg9)
      have AP2 := Lib.hid ((AP.out).app O8.out hv9)
      have k9 := own_grown O8.out hg9 (AP.out)
      clear O8 AP
      have O8 := Lib.hid k9
      have AP := Lib.hid AP2.out
      clear k9 AP2
      obtain ⟨b7, c7, hf7⟩ := own_sform hown9
      subst hf7
      have O7 := Lib.hid hown9
      clear hown9 hg9 hv9 O5
      refine hK.out _ _ HB_5_7_8_.out (fun hHeld => ?_)
      clear hK K
      try simp only [List.getElem_toArray, List.getElem_cons_succ, List.getElem_cons_zero, Act.put, List.setIfInBounds_toArray, List.set_cons_zero, List.set_cons_succ]
      refine wpAnyH_ready (rs := [10]) (by kernel_rfl) (by simp) ?_
      refine (AllReadyH.cons rfl (fun K hK => ?_) AllReadyH.nil)
      refine wp_appI (Operand.tmp 18) (Operand.tmp 19) rfl w.heap.size (.slice (some ⟨g8, 0, none⟩) 0 0) 0 [] rfl O8.out (.slice na ns.length nc) rfl ns.length _ (isS_srcA (HNS.out.below HB_5_7_8_.out)) (by omega) HB_5_7_8_.out.size ?_
      intro v10 Y5_7_8_10_ hown9 hg9 hv9
      rw [Nat.zero_add, List.nil_append] at hown9
      have HB_5_7_8_10_ := Lib.hid (below_grown HB_5_7_8_.out O8.out hg9)
      have AP2 := Lib.hid ((AP.out.symm).app O7.out hv9)
      have k9 := own_grown O7.out hg9 (AP.out.symm)
      clear O7 AP
      have O7 := Lib.hid k9
      have AP := Lib.hid AP2.out.symm
      clear k9 AP2
      obtain ⟨b10, c10, hf10⟩ := own_sform hown9
      subst hf10
      have O10 := Lib.hid hown9
      clear hown9 hg9 hv9 O8
      refine hK.out _ _ HB_5_7_8_10_.out (fun hHeld => ?_)
      clear hK K
      try simp only [List.getElem_toArray, List.getElem_cons_succ, List.getElem_cons_zero, Act.put, List.setIfInBounds_toArray, List.set_cons_zero, List.set_cons_succ]
      refine wpAnyH_take (i := 11) (v := ?v11) rfl (by kernel_rfl) (by kernel_rfl) (by kernel_rfl) (fun _ _ _ h => h) (Or.inl ⟨rfl, fun w' hw' => ?h11⟩) hHeld ?r11
      case h11 =>
        go_simp
        try with_reducible rfl
      simp only [List.getElem_toArray, List.getElem_cons_succ, List.getElem_cons_zero, Act.put, List.setIfInBounds_toArray, List.set_cons_zero, List.set_cons_succ]
      refine wpAnyH_ready (rs := [12]) (by kernel_rfl) (by simp) ?_
      refine (AllReadyH.cons rfl (fun K hK => ?_) AllReadyH.nil)
      go_simp
      have b9 := HB_5_7_8_10_.out.alloc HB_5_7_8_10_.out.size (.cells #[.int .i64 (N : Nat), .int .i64 t, .slice b7 ps.length c7, .slice b10 ns.length c10] 70)
      refine hK.out _ _ b9 (fun hHeld => ?_)
      have HF : Hid (∃ (q : Nat) (uv vv : Value), Value.pointer (some ⟨Y5_7_8_10_.heap.size, 0, none⟩) = .pointer (some ⟨q, 0, none⟩) ∧ (Y5_7_8_10_.alloc (.cells #[.int .i64 (N : Nat), .int .i64 t, .slice b7 ps.length c7, .slice b10 ns.length c10] 70)).heap[q]? = some (.cells #[.int .i64 (N : Nat), .int .i64 t, uv, vv] 70 (0, 0)) ∧ (Y5_7_8_10_.alloc (.cells #[.int .i64 (N : Nat), .int .i64 t, .slice b7 ps.length c7, .slice b10 ns.length c10] 70)).ownsRow w.heap.size 3 1 uv ps.length (ps.map (Value.int .i64)) ∧ (Y5_7_8_10_.alloc (.cells #[.int .i64 (N : Nat), .int .i64 t, .slice b7 ps.length c7, .slice b10 ns.length c10] 70)).ownsRow w.heap.size 3 1 vv ns.length (ns.map (Value.int .i64)) ∧ Apt uv vv ∧ w.heap.size ≤ q ∧ uv.ownBlock ≠ some q ∧ vv.ownBlock ≠ some q ∧ Below w.heap.size w (Y5_7_8_10_.alloc (.cells #[.int .i64 (N : Nat), .int .i64 t, .slice b7 ps.length c7, .slice b10 ns.length c10] 70))) := ⟨_, _, _, rfl, alloc_at Y5_7_8_10_ _, O7.out.alloc _, O10.out.alloc _, AP.out, HB_5_7_8_10_.out.size, fun e => by have := (O7.out.lt _ e).2; omega, fun e => by have := (O10.out.lt _ e).2; omega, b9⟩
      clear b9
      clear hK K
      try simp only [List.getElem_toArray, List.getElem_cons_succ, List.getElem_cons_zero, Act.put, List.setIfInBounds_toArray, List.set_cons_zero, List.set_cons_succ]
      refine wpAnyH_take (i := 13) (v := ?v12) rfl (by kernel_rfl) (by kernel_rfl) (by kernel_rfl) (fun _ _ _ h => h) (Or.inl ⟨rfl, fun w' hw' => ?h12⟩) hHeld ?r12
      case h12 =>
        go_simp
        try with_reducible rfl
      simp only [List.getElem_toArray, List.getElem_cons_succ, List.getElem_cons_zero, Act.put, List.setIfInBounds_toArray, List.set_cons_zero, List.set_cons_succ]
      refine wpAnyH_done (by kernel_rfl) ?_ _
      refine NoPanic.normal ?_
      clear hHeld
      go_wp2_with fail
      go_meet
      case rel => exact HF.out
  case rest =>
    obtain ⟨q, uv, vv, rfl, hq, hu, hvv, hap, hqw, hq1, hq2, hbw⟩ := hcut
    obtain ⟨lv, l1, l2, l3⟩ := (HH.out.below hbw).head
    rw [← HNN.out] at l1
    have hlc : ∀ k, lv.ownBlock = some k → C k = 2 ∧ k < w.heap.size := by
      intro k hk
      refine ⟨l3 k hk, ?_⟩
      by_cases e : k < w.heap.size
      · exact e
      · have := HH.out.fresh k (by omega); have := l3 k hk; omega
    have hlen := HH.out.len
    have hol := total_len os
    have hrm := HH.out.room
    obtain ⟨la, lc, rfl⟩ := own_sform l2
    have cx2 : wc.cell? ⟨x, 2, none⟩ = some (.slice la os.length lc) := by rw [cell_of_row _ _ _ _ _ _ l1]; rfl
    have hxc : x < wc.heap.size := (Array.getElem?_eq_some_iff.1 l1).1
    have hqc : q < wc.heap.size := (Array.getElem?_eq_some_iff.1 hq).1
    have hxl : ∀ k, (Value.slice la os.length lc).ownBlock = some k → k ≠ x := fun k hk e => by have := (hlc k hk).1; have := HH.out.cx; rw [e] at *; omega
    have hqx : q ≠ x := by have := HH.out.lt; omega
    have hlq : ∀ k, (Value.slice la os.length lc).ownBlock = some k → k ≠ q := fun k hk e => by have := (hlc k hk).2; omega
    have HOA := Lib.hid (l2.alloc (.cells #[optr q] 68))
    have HSR := Lib.hid (srcA_one (d := optr q) (T := 68) (alloc_at wc (.cells #[optr q] 68)) rfl 1)
    have FIN := Lib.hid (fun w9 v' h1 h2 h3 e he => rput_fin (w9 := w9) (v' := v') (sz := sz) HH.out hbw l1 l2 hlc HNN.out hq hu hvv hap hqw hq1 hq2 h1 h2 h3 hclo.out hoks.out htot.out hr e he)
    have HX9 : Hid (∀ w9, (wc.alloc (.cells #[optr q] 68)).grownBy w9 (Value.slice la os.length lc).ownBlock → w9.heap[x]? = some (.cells #[.int .i64 m, .int .i64 (N : Nat), .slice la os.length lc] 67 (0, 0)) ∧ w9.heap[q]? = some (.cells #[.int .i64 (N : Nat), .int .i64 t, uv, vv] 70 (0, 0))) := fun w9 hg =>
      ⟨(hg.block x (by simp; omega) (fun e => hxl x e.symm rfl)).trans ((Below.heap_alloc _ _ _ hxc).trans l1), (hg.block q (by simp; omega) (fun e => hlq q e.symm rfl)).trans ((Below.heap_alloc _ _ _ hqc).trans hq)⟩
    obtain ⟨n, hn⟩ : ∃ n, n = os.length := ⟨_, rfl⟩
    have hn9 : n + 1 ≤ 1000000000 := by omega
    have hNb : N ≤ 1000000 := by have := HNN.out; omega
    obtain ⟨p, hpd⟩ : ∃ p, p = ps.length := ⟨_, rfl⟩
    obtain ⟨k, hkd⟩ : ∃ k, k = ns.length := ⟨_, rfl⟩
    rw [← hn] at HOA cx2
    simp only [← hn] at FIN HX9
    have hszN : (if (2 : Int) < 1 + (p : Int) + (k : Int) then 1 + (p : Int) + (k : Int) else 2) = (sz : Int) := by split <;> omega
    rw [← hpd] at hpc h3
    rw [← hkd] at hnc h4
    have hszb : sz ≤ 200 := by omega
    simp only [← hpd, ← hkd]
    clear hq hu hvv hap hqw hq1 hq2 hbw l1 l2 l3 hlc hlen hol hrm hxl hlq hn hsz hpd hkd HP HNS
    by_cases hbig : (2 : Int) < 1 + (p : Int) + (k : Int)
    · rw [if_pos hbig] at hszN
      go_wp2_with (refine wpList_wantedR (by rfl) fun K hK => ?_; refine wp_appG Try.underlying65 infoP57 rfl (by decide) (by decide) (Operand.tmp 27) (Operand.tmp 29) rfl 0 (.slice la n lc) n _ rfl HOA.out (.slice (some ⟨wc.heap.size, 0, none⟩) 1 1) rfl 1 _ HSR.out hn9 (Nat.zero_le _) ?_; intro v' w9 hown9 hg9 hv9; obtain ⟨hx9, hq9⟩ := HX9.out w9 hg9; obtain ⟨va, vc, hvf⟩ := own_sform hown9; subst hvf; have HR9 := Lib.hid (FIN.out w9 _ hown9 hg9 hv9); have c9 : w9.cell? ⟨x, 2, none⟩ = some (.slice la n lc) := (by rw [cell_of_row _ _ _ _ _ _ hx9]; rfl); have c8 : w9.cell? ⟨x, 1, none⟩ = some (.int .i64 (N : Nat)) := (by rw [cell_of_row _ _ _ _ _ _ hx9]; rfl); have f9 := frozen_of_row _ _ 2 _ _ hx9; have f8 := frozen_of_row _ _ 1 _ _ hx9; have c7 : w9.cell? ⟨q, 0, none⟩ = some (.int .i64 (N : Nat)) := (by rw [cell_of_row _ _ _ _ _ _ hq9]; rfl); clear hown9 hg9 hv9 hx9 hq9 HOA HSR FIN HX9; refine hK _ _ ?_; clear hK K)
      go_ret
      have e := HR9.out _ rfl
      rw [show ((N + sz : Nat) : Int) = (N : Int) + (sz : Int) by omega] at e
      exact e
    · rw [if_neg hbig] at hszN
      have hs2 : (sz : Int) = 2 := hszN.symm
      clear hszN
      go_wp2_with (refine wpList_wantedR (by rfl) fun K hK => ?_; refine wp_appG Try.underlying65 infoP57 rfl (by decide) (by decide) (Operand.tmp 27) (Operand.tmp 29) rfl 0 (.slice la n lc) n _ rfl HOA.out (.slice (some ⟨wc.heap.size, 0, none⟩) 1 1) rfl 1 _ HSR.out hn9 (Nat.zero_le _) ?_; intro v' w9 hown9 hg9 hv9; obtain ⟨hx9, hq9⟩ := HX9.out w9 hg9; obtain ⟨va, vc, hvf⟩ := own_sform hown9; subst hvf; have HR9 := Lib.hid (FIN.out w9 _ hown9 hg9 hv9); have c9 : w9.cell? ⟨x, 2, none⟩ = some (.slice la n lc) := (by rw [cell_of_row _ _ _ _ _ _ hx9]; rfl); have c8 : w9.cell? ⟨x, 1, none⟩ = some (.int .i64 (N : Nat)) := (by rw [cell_of_row _ _ _ _ _ _ hx9]; rfl); have f9 := frozen_of_row _ _ 2 _ _ hx9; have f8 := frozen_of_row _ _ 1 _ _ hx9; have c7 : w9.cell? ⟨q, 0, none⟩ = some (.int .i64 (N : Nat)) := (by rw [cell_of_row _ _ _ _ _ _ hq9]; rfl); clear hown9 hg9 hv9 hx9 hq9 HOA HSR FIN HX9; refine hK _ _ ?_; clear hK K)
      go_ret
      have e := HR9.out _ rfl
      rw [show ((N + sz : Nat) : Int) = (N : Int) + 2 by omega] at e
      exact e
end Go.Proofs.Ytkekekdkfjjifaa
