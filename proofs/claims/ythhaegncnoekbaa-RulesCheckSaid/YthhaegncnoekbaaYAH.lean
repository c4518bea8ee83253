/- The document's reader: next: what holds; append of one that is open. -/
import Derived.Test.YthhaegncnoekbaaQ11
import Derived.Test.YthhaegncnoekbaaYAA
set_option linter.unusedVariables false
set_option linter.unusedSimpArgs false
namespace Go.Proofs.Ythhaegncnoekbaa
open Go.RowKit Go.BigM
structure Stt (D : Nat → Prop) (g : Nat) (s : ByteArray) (p : Nat) (es : List En) (out : List Dt) (w X : World) : Prop where
  rd : RdAt D X.heap.size X g s p es out
  low : Below g w X
  size : w.heap.size ≤ X.heap.size
theorem Stt.drew {D : Nat → Prop} {g : Nat} {s : ByteArray} {p : Nat} {es : List En} {out : List Dt} {w X : World} (h : Stt D g s p es out w X) (hg : g < X.heap.size) : Stt D g s p es out w X.drew :=
  ⟨h.rd.keep (fun _ _ _ => rfl) hg (Nat.le_refl _), h.low.trans ((Below.refl g X).drew), h.size⟩
theorem Stt.start {D : Nat → Prop} {g : Nat} {s : ByteArray} {p : Nat} {es : List En} {out : List Dt} {w : World} (h : RdAt D w.heap.size w g s p es out) : Stt D g s p es out w w := ⟨h, Below.refl _ _, Nat.le_refl _⟩
def Z3 : Array Value := #[.bool false, .int .i64 0, .slice none 0 0]
theorem info84 : (Try.prog.info? 137).map (fun i => (i.zero, i.size, i.bytes)) = some (some (.agg Z3), 3, 40) := by kernel_rfl
theorem run_app3 (w : World) (B ty : Nat) (v : Value) (n : Nat) (xs : List Value) (hown : w.ownsRow B 137 3 v n xs) (g0 c : Nat) (news : List Value) (hl : news.length = 3)
    (hnews : ∀ j u, news[j]? = some u → w.cell? ⟨g0, j, none⟩ = some u) (h1 : ∀ u ∈ news, u.oneCell' = true) (hn : n + 1 ≤ 1000000000) (hB : B ≤ w.heap.size) :
    ∃ v' w', (Builtin.append_ #[112, 112] ty #[v, .slice (some ⟨g0, 0, none⟩) 1 c]).run Try.prog w = .ok v' w' ∧ w'.ownsRow B 137 3 v' (n + 1) (xs ++ news) ∧ w.grownBy w' v.ownBlock ∧ (v'.ownBlock = v.ownBlock ∨ v'.ownBlock = some w.heap.size) := by
  obtain ⟨i, hi, hz, hs, hb⟩ := info_parts info84
  have hnews' : ∀ j u, news[j]? = some u → w.cell? ((⟨g0, 0, none⟩ : Addr).add j) = some u := by
    intro j u hu
    have e : (⟨g0, 0, none⟩ : Addr).add j = ⟨g0, j, none⟩ := by unfold Addr.add; split <;> simp_all
    rw [e]; exact hnews j u hu
  have hl1 : news.length = 1 * 3 := by omega
  obtain ⟨v', w', hr, h2, h3, _⟩ := run_append_own (P := Try.prog) w B 112 ty 137 i (.agg Z3) 3 40 Try.underlying112 hi hz hs hb rfl (by decide) v n xs hown ⟨g0, 0, none⟩ 1 c news hl1 hnews' h1 (by unfold maxLen; omega) (by omega) hB
  refine ⟨v', w', hr, h2, h3, ?_⟩
  have hl2 : news.length = 1 * i.size := by rw [hs]; exact hl1
  rcases hown.2 with ⟨rfl, rfl⟩ | ⟨g, cap, cur, rfl, hbg, hg, hnc, hcm, hcs, htake⟩
  · have hr2 := run_append_nil (P := Try.prog) w 112 ty 137 i (.agg Z3) Try.underlying112 hi hz ⟨g0, 0, none⟩ 1 c news hl2 hnews' (by decide) (by decide) (by rw [hb]; decide)
    rw [hr] at hr2
    injection hr2 with e1 e2
    right; rw [e1]; rfl
  · by_cases hroom : n + 1 ≤ cap
    · have hfit : n * i.size + news.length ≤ cur.size := by rw [hs, hl, hcs]; omega
      have hr2 := run_append_room (P := Try.prog) w 112 ty 137 i Try.underlying112 hi g n cap cur hg ⟨g0, 0, none⟩ 1 c news hl2 hnews' h1 hroom hfit
      rw [hr] at hr2
      injection hr2 with e1 e2
      left; rw [e1]; rfl
    · have hlo : xs.length = n * i.size := by rw [hs]; exact hown.1
      have hr2 := run_append_grow (P := Try.prog) w 112 ty 137 i (.agg Z3) Try.underlying112 hi hz ⟨g, 0, none⟩ n cap xs hlo (hown.cells (g := g) rfl) ⟨g0, 0, none⟩ 1 c news hl2 hnews' (by omega) (by omega) (growslice_fits (by omega) (by rw [hb]; omega))
      rw [hr] at hr2
      injection hr2 with e1 e2
      right; rw [e1]; rfl
theorem wp_app3 {o : Oper} {a : Act} {w : World} {K : Act → World → Prop} {Q : Exit → Act → World → Prop} (s x : Operand)
    (ho : o.op = .call { callee := .builtin .append, args := #[s, x], argTypes := #[112, 112] }) (B : Nat) (v : Value) (n : Nat) (xs : List Value) (hs : a.eval s = v) (hown : w.ownsRow B 137 3 v n xs)
    (g0 c : Nat) (hx : a.eval x = .slice (some ⟨g0, 0, none⟩) 1 c) (news : List Value) (hl : news.length = 3)
    (hnews : ∀ j u, news[j]? = some u → w.cell? ⟨g0, j, none⟩ = some u) (h1 : ∀ u ∈ news, u.oneCell' = true) (hn : n + 1 ≤ 1000000000) (hB : B ≤ w.heap.size)
    (h : ∀ v' w', w'.ownsRow B 137 3 v' (n + 1) (xs ++ news) → w.grownBy w' v.ownBlock → (v'.ownBlock = v.ownBlock ∨ v'.ownBlock = some w.heap.size) → K (a.put o.dst v') w') : o.wp Try.prog a w K Q := by
  obtain ⟨v', w', hr, h2, h3, h4⟩ := run_app3 w B o.type v n xs hown g0 c news hl hnews h1 hn hB
  unfold Oper.wp execOp
  simp only [ho, resolve, invoke, builtin, Sem.run_bind, Sem.run_pure, Result.andThen_ok, List.map_toArray, List.map_cons, List.map_nil, hs, hx, hr]
  exact h v' w' h2 h3 h4
/-- One more open: its append, its store. -/
theorem push_step {D : Nat → Prop} {g : Nat} {s : ByteArray} {p : Nat} {es : List En} {out : List Dt} {w X : World} (h : Stt D g s p es out w X) (hgX : g < X.heap.size) (e : En) (hds : e.ds = if e.q = true then [.mk 3 qT [] [] e.pl] else []) :
    ∃ ao c xs, X.cell? ⟨g, 1, none⟩ = some (.int .i64 (p : Int)) ∧ X.cell? ⟨g, 2, none⟩ = some (.slice ao es.length c) ∧ (X.alloc (.cells #[.bool e.q, .int .i64 e.pl, .slice none 0 0] 137)).cell? ⟨g, 2, none⟩ = some (.slice ao es.length c) ∧ (X.alloc (.cells #[.bool e.q, .int .i64 e.pl, .slice none 0 0] 137)).cell? ⟨g, 1, none⟩ = some (.int .i64 (p : Int)) ∧
      (X.alloc (.cells #[.bool e.q, .int .i64 e.pl, .slice none 0 0] 137)).ownsRow (g + 1) 137 3 (.slice ao es.length c) es.length xs ∧ g + 1 ≤ (X.alloc (.cells #[.bool e.q, .int .i64 e.pl, .slice none 0 0] 137)).heap.size ∧
      ∀ v' w9, w9.ownsRow (g + 1) 137 3 v' (es.length + 1) (xs ++ [.bool e.q, .int .i64 e.pl, .slice none 0 0]) → (X.alloc (.cells #[.bool e.q, .int .i64 e.pl, .slice none 0 0] 137)).grownBy w9 (Value.slice ao es.length c).ownBlock → (v'.ownBlock = (Value.slice ao es.length c).ownBlock ∨ v'.ownBlock = some (X.alloc (.cells #[.bool e.q, .int .i64 e.pl, .slice none 0 0] 137)).heap.size) →
        w9.cell? ⟨g, 1, none⟩ = some (.int .i64 (p : Int)) ∧ w9.cell? ⟨g, 2, none⟩ = some (.slice ao es.length c) ∧ w9.frozen? ⟨g, 2, none⟩ = false ∧ (w9.setCell ⟨g, 2, none⟩ v').cell? ⟨g, 1, none⟩ = some (.int .i64 (p : Int)) ∧ Stt D g s p (e :: es) out w (w9.setCell ⟨g, 2, none⟩ v') := by
  obtain ⟨wa, hwa⟩ : ∃ wa, wa = X.alloc (.cells #[.bool e.q, .int .i64 e.pl, .slice none 0 0] 137) := ⟨_, rfl⟩
  have hsz : wa.heap.size = X.heap.size + 1 := by rw [hwa]; simp
  have hold : ∀ x, x < X.heap.size → wa.heap[x]? = X.heap[x]? := fun x hx => by rw [hwa]; exact Lib.alloc_old X _ x hx
  have ha : RdAt D X.heap.size wa g s p es out := h.rd.keep (fun x _ hx => hold x hx) hgX (by omega)
  have hla : Below g w wa := by rw [hwa]; exact h.low.alloc (by omega) _
  obtain ⟨ov, dv, xs, hR, hown, hnx⟩ := ha.push hgX e hds
  obtain ⟨ao, c, rfl⟩ := row_form hown (by decide)
  have hgg : wa.heap[g]? = X.heap[g]? := hold g hgX
  have cc := hR.cells
  rw [← hwa]
  refine ⟨ao, c, xs, ?_, ?_, cc.2.2.1, cc.2.1, hown, by omega, fun v' w9 h9 hg hv => ?_⟩
  · rw [← cc.2.1]; simp only [World.cell?, hgg]
  · rw [← cc.2.2.1]; simp only [World.cell?, hgg]
  have hs9 := hg.size
  have hob : ∀ x, (Value.slice ao es.length c).ownBlock = some x → g + 1 ≤ x := fun x hx => (hown.lt x hx).1
  have hg9 : w9.heap[g]? = wa.heap[g]? := hg.block g (by omega) (fun e => by have := hob g e.symm; omega)
  have hR9 : Rs3 w9 g s p (.slice ao es.length c) dv := rs3_of hR hg9
  have hfin := hnx v' w9 h9 hg (by
    rcases hv with e | e
    · exact .inl e
    · exact .inr ⟨_, e, Nat.le_refl _, (h9.lt _ e).2⟩)
  have hse : (w9.setCell ⟨g, 2, none⟩ v').heap.size = w9.heap.size := by simp [World.setCell]
  refine ⟨hR9.cells.2.1, hR9.cells.2.2.1, hR9.frozen 2, ?_, ?_, ?_, by rw [hse]; have := h.size; omega⟩
  · rw [World.cell?_setCell_other w9 _ _ _ (by intro e; cases e)]; exact hR9.cells.2.1
  · rw [hse]; exact hfin
  · exact (below_grown hla hg (by omega) (fun x hx => by have := hob x hx; omega)).setCell (p := ⟨g, 2, none⟩) (Nat.le_refl _) _
end Go.Proofs.Ythhaegncnoekbaa
namespace Go.Proofs.Ythhaegncnoekbaa
open Go.RowKit Go.BigM
set_option maxHeartbeats 16000000 in
set_option maxRecDepth 100000 in
theorem next_open40 {D : Nat → Prop} (g : Nat) (s : ByteArray) (p : Nat) (es : List En) (out : List Dt) (b : UInt8) (w : World) (h : RdAt D w.heap.size w g s p es out) (hgN : g < w.heap.size) (hp : p < s.size) (hb : s[p] = b) (hs : s.size ≤ 8000) (hB : Bnd es out p) (hbv : b = 40) :
    Calls Try.prog 64 #[.pointer (some ⟨g, 0, none⟩)] w (RetNx g s p b es out w) := by
  obtain ⟨ao, c, bo, dd, hf⟩ := h.form
  obtain ⟨dv, hdv⟩ : ∃ v, v = Value.slice bo out.length dd := ⟨_, rfl⟩
  rw [← hdv] at hf
  have HS := Lib.hid (Stt.start h)
  have HR := Lib.hid hf
  have HB := Lib.hid hB
  have HBB := Lib.hid hb
  have hel : es.length ≤ 60 := hB.2.2
  clear h hB hdv hf hb
  have HBV := Lib.hid hbv
  have hbn : b.toNat = 40 := by rw [hbv]; rfl
  have E40 : ((b.toNat : Int) == 40) = true := by simpa using (show (b.toNat : Int) = 40 by omega)
  have E39 : ((b.toNat : Int) == 39) = false := by simpa using (show ¬ (b.toNat : Int) = 39 by omega)
  clear hbv hbn
  go_enter Try.func64, Try.ntmps64
  go_upto_region 1 with fail
  have HC : Hid (∀ w', Below w.heap.size w w' → w'.cell? ⟨g, 0, none⟩ = some (.string s) ∧ w'.cell? ⟨g, 1, none⟩ = some (.int .i64 (p : Int)) ∧ w'.cell? ⟨g, 2, none⟩ = some (.slice ao es.length c) ∧ w'.cell? ⟨g, 3, none⟩ = some dv) := fun w' hw' => by
    have h9 : w'.heap[g]? = some (.cells #[.string s, .int .i64 (p : Int), .slice ao es.length c, dv] 114 (0, 0)) := by rw [hw'.block g HR.out.lt]; exact HR.out
    exact Rs3.cells (p := p) h9
  have HS0 : Hid (Below w.heap.size w w.drew) := (Below.refl _ _).drew
  replace HS : Hid (Stt D g s p es out w w.drew) := HS.out.drew HR.out.lt
  replace HR : Hid (Rs3 w.drew g s p (.slice ao es.length c) dv) := HR.out
  refine wp_region_noPanic ?_
  refine wp_region_held_drew (S := Below w.heap.size w) (by kernel_rfl) HS0.out (fun hHeld => ?_)
  generalize w.drew = X1 at HS0 HS HR hHeld ⊢
  refine qtk (i := 0) (v := ?v0) rfl rfl (fun w' hw' => ?h0) hHeld ?r0
  case h0 => go_simp; try with_reducible rfl
  simp only [zt,zs,zz,Act.put,zi,zy,zx]
  refine qtk (i := 1) (v := ?v1) rfl rfl (fun w' hw' => ?h1) hHeld ?r1
  case h1 => go_simp; try with_reducible rfl
  simp only [zt,zs,zz,Act.put,zi,zy,zx]
  refine qtk (i := 2) (v := ?v2) rfl rfl (fun w' hw' => ?h2) hHeld ?r2
  case h2 => go_simp; try with_reducible rfl
  simp only [zt,zs,zz,Act.put,zi,zy,zx]
  refine qtk (i := 3) (v := ?v3) rfl rfl (fun w' hw' => ?h3) hHeld ?r3
  case h3 => (obtain ⟨d0, d1, d2, d3⟩ := HC.out w' hw'; go_simp); try with_reducible rfl
  simp only [zt,zs,zz,Act.put,zi,zy,zx]
  refine qtk (i := 4) (v := ?v4) rfl rfl (fun w' hw' => ?h4) hHeld ?r4
  case h4 => go_simp; try with_reducible rfl
  simp only [zt,zs,zz,Act.put,zi,zy,zx]
  refine qtk (i := 5) (v := ?v5) rfl rfl (fun w' hw' => ?h5) hHeld ?r5
  case h5 => go_simp; try with_reducible rfl
  simp only [zt,zs,zz,Act.put,zi,zy,zx]
  refine qtk (i := 6) (v := ?v6) rfl rfl (fun w' hw' => ?h6) hHeld ?r6
  case h6 => go_simp; try with_reducible rfl
  simp only [zt,zs,zz,Act.put,zi,zy,zx]
  refine qtk (i := 7) (v := ?v7) rfl rfl (fun w' hw' => ?h7) hHeld ?r7
  case h7 => (obtain ⟨d0, d1, d2, d3⟩ := HC.out w' hw'; go_simp); try with_reducible rfl
  simp only [zt,zs,zz,Act.put,zi,zy,zx]
  refine qtk (i := 8) (v := Value.int .u8 ((s[p]'hp).toNat : Int)) rfl rfl (fun w' hw' => ?_) hHeld ?_
  · go_simp
  simp only [zt,zs,zz,Act.put,zi,zy,zx]
  refine qtk (i := 9) (v := ?v9) rfl rfl (fun w' hw' => ?h9) hHeld ?r9
  case h9 => go_simp; try with_reducible rfl
  simp only [zt,zs,zz,Act.put,zi,zy,zx]
  refine wpAnyH_done (by kernel_rfl) ?_ _
  refine NoPanic.normal ?_
  clear hHeld
  clear HC HS0
  rw [HBB.out]
  by_cases h60 : es.length = 60
  · have HN : Hid (nxt s p b es out = (6, p, es, out)) := by
      show _ = _
      unfold nxt
      rw [HBV.out, if_pos (by decide), if_pos h60]
    have d2 := HR.out.cells.2.2.1
    rw [h60] at d2
    go_wp2_with fail
    go_ret
    have hn := HN.out
    unfold RetNx
    rw [hn]
    exact ⟨rfl, HS.out.low, HS.out.size, fun h => absurd h (by simp), fun _ => ⟨_, _, HR.out⟩⟩
  · have HN : Hid (nxt s p b es out = (0, p + 1, (⟨p, false, []⟩ : En) :: es, out)) := by
      show _ = _
      unfold nxt
      rw [HBV.out, if_pos (by decide), if_neg h60]
      rfl
    have q60 : decide (60 ≤ (es.length : Int)) = false := decide_eq_false (by omega)
    have d2 := HR.out.cells.2.2.1
    go_upto_region 6 with fail
    clear d2
    have HXS : Hid (g < X1.heap.size) := HR.out.lt
    have hst := push_step (HS.out.drew HR.out.lt) HXS.out (⟨p, false, []⟩ : En) rfl
    obtain ⟨ao2, c2, xs, c1, cl0, cl1, cl2, hown, hB8, HNX⟩ := hst
    obtain ⟨on, hon⟩ : ∃ on, on = es.length := ⟨_, rfl⟩
    simp only [← hon] at cl0 cl1 hown HNX hel
    have HC1 := Lib.hid cl0
    have HC2 := Lib.hid cl1
    have HP2 := Lib.hid cl2
    have HO := Lib.hid hown
    have HNX := Lib.hid HNX
    have HC9 := Lib.hid c1
    clear cl0 cl1 cl2 hown hon HS HR c1
    refine wp_region_noPanic ?_
    refine wp_region_held_drew (S := fun w' => w'.cell? ⟨g, 1, none⟩ = some (.int .i64 (p : Int))) (by kernel_rfl) HC9.out (fun hHeld => ?_)
    generalize X1.drew = X2 at HC1 HC2 HP2 HO HNX HC9 hB8 hHeld ⊢
    refine qtk (i := 0) (v := ?v10) rfl rfl (fun w' hw' => ?h10) hHeld ?r10
    case h10 => go_simp; try with_reducible rfl
    simp only [zt,zs,zz,Act.put,zi,zy,zx]
    refine qtk (i := 1) (v := ?v11) rfl rfl (fun w' hw' => ?h11) hHeld ?r11
    case h11 => go_simp; try with_reducible rfl
    simp only [zt,zs,zz,Act.put,zi,zy,zx]
    refine qtk (i := 2) (v := ?v12) rfl rfl (fun w' hw' => ?h12) hHeld ?r12
    case h12 => go_simp; try with_reducible rfl
    simp only [zt,zs,zz,Act.put,zi,zy,zx]
    refine qtk (i := 3) (v := ?v13) rfl rfl (fun w' hw' => ?h13) hHeld ?r13
    case h13 => go_simp; try with_reducible rfl
    simp only [zt,zs,zz,Act.put,zi,zy,zx]
    refine qtk (i := 5) (v := ?v14) rfl rfl (fun w' hw' => ?h14) hHeld ?r14
    case h14 => go_simp; try with_reducible rfl
    simp only [zt,zs,zz,Act.put,zi,zy,zx]
    refine qtk (i := 6) (v := ?v15) rfl rfl (fun w' hw' => ?h15) hHeld ?r15
    case h15 => go_simp; try with_reducible rfl
    simp only [zt,zs,zz,Act.put,zi,zy,zx]
    refine qtk (i := 7) (v := ?v16) rfl rfl (fun w' hw' => ?h16) hHeld ?r16
    case h16 => go_simp; try with_reducible rfl
    simp only [zt,zs,zz,Act.put,zi,zy,zx]
    refine qtk (i := 8) (v := ?v17) rfl rfl (fun w' hw' => ?h17) hHeld ?r17
    case h17 => go_simp; try with_reducible rfl
    simp only [zt,zs,zz,Act.put,zi,zy,zx]
    refine qtk (i := 9) (v := ?v18) rfl rfl (fun w' hw' => ?h18) hHeld ?r18
    case h18 => go_simp; try with_reducible rfl
    simp only [zt,zs,zz,Act.put,zi,zy,zx]
    refine qtk (i := 10) (v := ?v19) rfl rfl (fun w' hw' => ?h19) hHeld ?r19
    case h19 => (have q := hw'; go_simp); try with_reducible rfl
    simp only [zt,zs,zz,Act.put,zi,zy,zx]
    refine qtk (i := 11) (v := ?v20) rfl rfl (fun w' hw' => ?h20) hHeld ?r20
    case h20 => go_simp; try with_reducible rfl
    simp only [zt,zs,zz,Act.put,zi,zy,zx]
    refine wpAnyH_ready (rs := [4, 12]) (by kernel_rfl) (by simp) ?_
    refine (AllReadyH.cons rfl (fun K hK => ?_) (AllReadyH.cons rfl (fun K hK => ?_) AllReadyH.nil))
    · skip
      have cl := HC1.out
      go_simp
      refine hK.out _ _ hHeld (fun hHeld => ?_)
      clear cl
      clear hK K
      try simp only [zt,zs,zz,Act.put,zi,zy,zx]
      refine wpAnyH_ready (rs := [12]) (by kernel_rfl) (by simp) ?_
      refine (AllReadyH.cons rfl (fun K hK => ?_) AllReadyH.nil)
      go_simp
      refine hK.out _ _ HP2.out (fun hHeld => ?_)
      clear hK K
      try simp only [zt,zs,zz,Act.put,zi,zy,zx]
      refine wpAnyH_ready (rs := [13]) (by kernel_rfl) (by simp) ?_
      refine (AllReadyH.cons rfl (fun K hK => ?_) AllReadyH.nil)
      rw [if_pos (by rfl)]
      refine wp_app3 (Operand.tmp 31) (Operand.tmp 39) rfl (g + 1) (.slice ao2 on c2) on xs rfl HO.out X2.heap.size 1 rfl [.bool false, .int .i64 (p : Int), .slice none 0 0] rfl (fun i u hu => ?_) (by simp [Value.oneCell']) (by omega) hB8 ?_
      · have q : (X2.alloc (.cells #[.bool false, .int .i64 (p : Int), .slice none 0 0] 137)).cell? ⟨X2.heap.size, i, none⟩ = some u := by rw [Lib.cell_of_heap (alloc_at X2 (.cells #[.bool false, .int .i64 (p : Int), .slice none 0 0] 137))]; simpa using hu
        exact q
      intro v' w9 hown9 hg9 hv9
      obtain ⟨y1, y2, y3, y4, hfin⟩ := HNX.out v' w9 hown9 hg9 hv9
      obtain ⟨vo, vc, rfl⟩ := row_form hown9 (by decide)
      have HY2 := Lib.hid y2
      have HY3 := Lib.hid y3
      have HY4 := Lib.hid y4
      have HFIN := Lib.hid hfin
      clear hown9 hg9 hv9 hfin y2 y3 y4
      refine hK.out _ _ y1 (fun hHeld => ?_)
      clear y1
      clear hK K
      try simp only [zt,zs,zz,Act.put,zi,zy,zx]
      refine qtk (i := 14) (v := ?v21) rfl rfl (fun w' hw' => ?h21) hHeld ?r21
      case h21 => go_simp; try with_reducible rfl
      simp only [zt,zs,zz,Act.put,zi,zy,zx]
      refine qtk (i := 15) (v := ?v22) rfl rfl (fun w' hw' => ?h22) hHeld ?r22
      case h22 => go_simp; try with_reducible rfl
      simp only [zt,zs,zz,Act.put,zi,zy,zx]
      refine wpAnyH_ready (rs := [16]) (by kernel_rfl) (by simp) ?_
      refine (AllReadyH.cons rfl (fun K hK => ?_) AllReadyH.nil)
      have cl := HY2.out
      have cf := HY3.out
      go_simp
      refine hK.out _ _ HY4.out (fun hHeld => ?_)
      clear cl cf
      clear hK K
      try simp only [zt,zs,zz,Act.put,zi,zy,zx]
      refine wpAnyH_done (by kernel_rfl) ?_ _
      refine NoPanic.normal ?_
      clear hHeld
      generalize w9.setCell ⟨g, 2, none⟩ (.slice vo (on + 1) vc) = X3 at HFIN HY4 ⊢
      obtain ⟨ao3, c3, bo3, dd3, hf3⟩ := HFIN.out.rd.form
      have d1 := hf3.cells.2.1
      have fz := hf3.frozen 1
      have e9 := wrap_succ p (by omega)
      have HRD := Lib.hid (HFIN.out.rd.setP (p + 1))
      have HL1 : Hid (Below g w (X3.setCell ⟨g, 1, none⟩ (.int .i64 ((p + 1 : Nat) : Int)))) := HFIN.out.low.setCell (p := ⟨g, 1, none⟩) (Nat.le_refl _) _
      have hz : (X3.setCell ⟨g, 1, none⟩ (.int .i64 ((p + 1 : Nat) : Int))).heap.size = X3.heap.size := by simp [World.setCell]
      have HZ1 := Lib.hid hz
      have HZ2 := Lib.hid HFIN.out.size
      clear hf3 hz HFIN
      go_wp2_with fail
      go_ret
      have hn := HN.out
      unfold RetNx
      rw [hn]
      exact ⟨rfl, HL1.out, by have h1 := HZ1.out; have h2 := HZ2.out; push_cast at h1; rw [h1]; exact h2, fun _ => ⟨D, by have h1 := HZ1.out; have h2 := HRD.out; push_cast at h1 h2 ⊢; rw [h1]; exact h2⟩, fun h => absurd rfl h⟩
    · skip
      go_simp
      refine hK.out _ _ HP2.out (fun hHeld => ?_)
      clear hK K
      try simp only [zt,zs,zz,Act.put,zi,zy,zx]
      refine wpAnyH_ready (rs := [4]) (by kernel_rfl) (by simp) ?_
      refine (AllReadyH.cons rfl (fun K hK => ?_) AllReadyH.nil)
      have cl := HC2.out
      go_simp
      refine hK.out _ _ hHeld (fun hHeld => ?_)
      clear cl
      clear hK K
      try simp only [zt,zs,zz,Act.put,zi,zy,zx]
      refine wpAnyH_ready (rs := [13]) (by kernel_rfl) (by simp) ?_
      refine (AllReadyH.cons rfl (fun K hK => ?_) AllReadyH.nil)
      rw [if_pos (by rfl)]
      refine wp_app3 (Operand.tmp 31) (Operand.tmp 39) rfl (g + 1) (.slice ao2 on c2) on xs rfl HO.out X2.heap.size 1 rfl [.bool false, .int .i64 (p : Int), .slice none 0 0] rfl (fun i u hu => ?_) (by simp [Value.oneCell']) (by omega) hB8 ?_
      · have q : (X2.alloc (.cells #[.bool false, .int .i64 (p : Int), .slice none 0 0] 137)).cell? ⟨X2.heap.size, i, none⟩ = some u := by rw [Lib.cell_of_heap (alloc_at X2 (.cells #[.bool false, .int .i64 (p : Int), .slice none 0 0] 137))]; simpa using hu
        exact q
      intro v' w9 hown9 hg9 hv9
      obtain ⟨y1, y2, y3, y4, hfin⟩ := HNX.out v' w9 hown9 hg9 hv9
      obtain ⟨vo, vc, rfl⟩ := row_form hown9 (by decide)
      have HY2 := Lib.hid y2
      have HY3 := Lib.hid y3
      have HY4 := Lib.hid y4
      have HFIN := Lib.hid hfin
      clear hown9 hg9 hv9 hfin y2 y3 y4
      refine hK.out _ _ y1 (fun hHeld => ?_)
      clear y1
      clear hK K
      try simp only [zt,zs,zz,Act.put,zi,zy,zx]
      refine qtk (i := 14) (v := ?v23) rfl rfl (fun w' hw' => ?h23) hHeld ?r23
      case h23 => go_simp; try with_reducible rfl
      simp only [zt,zs,zz,Act.put,zi,zy,zx]
      refine qtk (i := 15) (v := ?v24) rfl rfl (fun w' hw' => ?h24) hHeld ?r24
      case h24 => go_simp; try with_reducible rfl
      simp only [zt,zs,zz,Act.put,zi,zy,zx]
      refine wpAnyH_ready (rs := [16]) (by kernel_rfl) (by simp) ?_
      refine (AllReadyH.cons rfl (fun K hK => ?_) AllReadyH.nil)
      have cl := HY2.out
      have cf := HY3.out
      go_simp
      refine hK.out _ _ HY4.out (fun hHeld => ?_)
      clear cl cf
      clear hK K
      try simp only [zt,zs,zz,Act.put,zi,zy,zx]
      refine wpAnyH_done (by kernel_rfl) ?_ _
      refine NoPanic.normal ?_
      clear hHeld
      generalize w9.setCell ⟨g, 2, none⟩ (.slice vo (on + 1) vc) = X3 at HFIN HY4 ⊢
      obtain ⟨ao3, c3, bo3, dd3, hf3⟩ := HFIN.out.rd.form
      have d1 := hf3.cells.2.1
      have fz := hf3.frozen 1
      have e9 := wrap_succ p (by omega)
      have HRD := Lib.hid (HFIN.out.rd.setP (p + 1))
      have HL1 : Hid (Below g w (X3.setCell ⟨g, 1, none⟩ (.int .i64 ((p + 1 : Nat) : Int)))) := HFIN.out.low.setCell (p := ⟨g, 1, none⟩) (Nat.le_refl _) _
      have hz : (X3.setCell ⟨g, 1, none⟩ (.int .i64 ((p + 1 : Nat) : Int))).heap.size = X3.heap.size := by simp [World.setCell]
      have HZ1 := Lib.hid hz
      have HZ2 := Lib.hid HFIN.out.size
      clear hf3 hz HFIN
      go_wp2_with fail
      go_ret
      have hn := HN.out
      unfold RetNx
      rw [hn]
      exact ⟨rfl, HL1.out, by have h1 := HZ1.out; have h2 := HZ2.out; push_cast at h1; rw [h1]; exact h2, fun _ => ⟨D, by have h1 := HZ1.out; have h2 := HRD.out; push_cast at h1 h2 ⊢; rw [h1]; exact h2⟩, fun h => absurd rfl h⟩
set_option maxHeartbeats 16000000 in
set_option maxRecDepth 100000 in
theorem next_open39 {D : Nat → Prop} (g : Nat) (s : ByteArray) (p : Nat) (es : List En) (out : List Dt) (b : UInt8) (w : World) (h : RdAt D w.heap.size w g s p es out) (hgN : g < w.heap.size) (hp : p < s.size) (hb : s[p] = b) (hs : s.size ≤ 8000) (hB : Bnd es out p) (hbv : b = 39) :
    Calls Try.prog 64 #[.pointer (some ⟨g, 0, none⟩)] w (RetNx g s p b es out w) := by
  obtain ⟨ao, c, bo, dd, hf⟩ := h.form
  obtain ⟨dv, hdv⟩ : ∃ v, v = Value.slice bo out.length dd := ⟨_, rfl⟩
  rw [← hdv] at hf
  have HS := Lib.hid (Stt.start h)
  have HR := Lib.hid hf
  have HB := Lib.hid hB
  have HBB := Lib.hid hb
  have hel : es.length ≤ 60 := hB.2.2
  clear h hB hdv hf hb
  have HBV := Lib.hid hbv
  have hbn : b.toNat = 39 := by rw [hbv]; rfl
  have E40 : ((b.toNat : Int) == 40) = false := by simpa using (show ¬ (b.toNat : Int) = 40 by omega)
  have E39 : ((b.toNat : Int) == 39) = true := by simpa using (show (b.toNat : Int) = 39 by omega)
  clear hbv hbn
  go_enter Try.func64, Try.ntmps64
  go_upto_region 1 with fail
  have HC : Hid (∀ w', Below w.heap.size w w' → w'.cell? ⟨g, 0, none⟩ = some (.string s) ∧ w'.cell? ⟨g, 1, none⟩ = some (.int .i64 (p : Int)) ∧ w'.cell? ⟨g, 2, none⟩ = some (.slice ao es.length c) ∧ w'.cell? ⟨g, 3, none⟩ = some dv) := fun w' hw' => by
    have h9 : w'.heap[g]? = some (.cells #[.string s, .int .i64 (p : Int), .slice ao es.length c, dv] 114 (0, 0)) := by rw [hw'.block g HR.out.lt]; exact HR.out
    exact Rs3.cells (p := p) h9
  have HS0 : Hid (Below w.heap.size w w.drew) := (Below.refl _ _).drew
  replace HS : Hid (Stt D g s p es out w w.drew) := HS.out.drew HR.out.lt
  replace HR : Hid (Rs3 w.drew g s p (.slice ao es.length c) dv) := HR.out
  refine wp_region_noPanic ?_
  refine wp_region_held_drew (S := Below w.heap.size w) (by kernel_rfl) HS0.out (fun hHeld => ?_)
  generalize w.drew = X1 at HS0 HS HR hHeld ⊢
  refine qtk (i := 0) (v := ?v25) rfl rfl (fun w' hw' => ?h25) hHeld ?r25
  case h25 => go_simp; try with_reducible rfl
  simp only [zt,zs,zz,Act.put,zi,zy,zx]
  refine qtk (i := 1) (v := ?v26) rfl rfl (fun w' hw' => ?h26) hHeld ?r26
  case h26 => go_simp; try with_reducible rfl
  simp only [zt,zs,zz,Act.put,zi,zy,zx]
  refine qtk (i := 2) (v := ?v27) rfl rfl (fun w' hw' => ?h27) hHeld ?r27
  case h27 => go_simp; try with_reducible rfl
  simp only [zt,zs,zz,Act.put,zi,zy,zx]
  refine qtk (i := 3) (v := ?v28) rfl rfl (fun w' hw' => ?h28) hHeld ?r28
  case h28 => (obtain ⟨d0, d1, d2, d3⟩ := HC.out w' hw'; go_simp); try with_reducible rfl
  simp only [zt,zs,zz,Act.put,zi,zy,zx]
  refine qtk (i := 4) (v := ?v29) rfl rfl (fun w' hw' => ?h29) hHeld ?r29
  case h29 => go_simp; try with_reducible rfl
  simp only [zt,zs,zz,Act.put,zi,zy,zx]
  refine qtk (i := 5) (v := ?v30) rfl rfl (fun w' hw' => ?h30) hHeld ?r30
  case h30 => go_simp; try with_reducible rfl
  simp only [zt,zs,zz,Act.put,zi,zy,zx]
  refine qtk (i := 6) (v := ?v31) rfl rfl (fun w' hw' => ?h31) hHeld ?r31
  case h31 => go_simp; try with_reducible rfl
  simp only [zt,zs,zz,Act.put,zi,zy,zx]
  refine qtk (i := 7) (v := ?v32) rfl rfl (fun w' hw' => ?h32) hHeld ?r32
  case h32 => (obtain ⟨d0, d1, d2, d3⟩ := HC.out w' hw'; go_simp); try with_reducible rfl
  simp only [zt,zs,zz,Act.put,zi,zy,zx]
  refine qtk (i := 8) (v := Value.int .u8 ((s[p]'hp).toNat : Int)) rfl rfl (fun w' hw' => ?_) hHeld ?_
  · go_simp
  simp only [zt,zs,zz,Act.put,zi,zy,zx]
  refine qtk (i := 9) (v := ?v34) rfl rfl (fun w' hw' => ?h34) hHeld ?r34
  case h34 => go_simp; try with_reducible rfl
  simp only [zt,zs,zz,Act.put,zi,zy,zx]
  refine wpAnyH_done (by kernel_rfl) ?_ _
  refine NoPanic.normal ?_
  clear hHeld
  clear HC HS0
  rw [HBB.out]
  by_cases h60 : es.length = 60
  · have HN : Hid (nxt s p b es out = (6, p, es, out)) := by
      show _ = _
      unfold nxt
      rw [HBV.out, if_pos (by decide), if_pos h60]
    have d2 := HR.out.cells.2.2.1
    rw [h60] at d2
    go_wp2_with fail
    go_ret
    have hn := HN.out
    unfold RetNx
    rw [hn]
    exact ⟨rfl, HS.out.low, HS.out.size, fun h => absurd h (by simp), fun _ => ⟨_, _, HR.out⟩⟩
  · have HN : Hid (nxt s p b es out = (0, p + 1, (⟨p, true, [.mk 3 qT [] [] p]⟩ : En) :: es, out)) := by
      show _ = _
      unfold nxt
      rw [HBV.out, if_pos (by decide), if_neg h60]
      rfl
    have q60 : decide (60 ≤ (es.length : Int)) = false := decide_eq_false (by omega)
    have d2 := HR.out.cells.2.2.1
    go_upto_region 6 with fail
    clear d2
    have HXS : Hid (g < X1.heap.size) := HR.out.lt
    have hst := push_step (HS.out.drew HR.out.lt) HXS.out (⟨p, true, [.mk 3 qT [] [] p]⟩ : En) rfl
    obtain ⟨ao2, c2, xs, c1, cl0, cl1, cl2, hown, hB8, HNX⟩ := hst
    obtain ⟨on, hon⟩ : ∃ on, on = es.length := ⟨_, rfl⟩
    simp only [← hon] at cl0 cl1 hown HNX hel
    have HC1 := Lib.hid cl0
    have HC2 := Lib.hid cl1
    have HP2 := Lib.hid cl2
    have HO := Lib.hid hown
    have HNX := Lib.hid HNX
    have HC9 := Lib.hid c1
    clear cl0 cl1 cl2 hown hon HS HR c1
    refine wp_region_noPanic ?_
    refine wp_region_held_drew (S := fun w' => w'.cell? ⟨g, 1, none⟩ = some (.int .i64 (p : Int))) (by kernel_rfl) HC9.out (fun hHeld => ?_)
    generalize X1.drew = X2 at HC1 HC2 HP2 HO HNX HC9 hB8 hHeld ⊢
    refine qtk (i := 0) (v := ?v35) rfl rfl (fun w' hw' => ?h35) hHeld ?r35
    case h35 => go_simp; try with_reducible rfl
    simp only [zt,zs,zz,Act.put,zi,zy,zx]
    refine qtk (i := 1) (v := ?v36) rfl rfl (fun w' hw' => ?h36) hHeld ?r36
    case h36 => go_simp; try with_reducible rfl
    simp only [zt,zs,zz,Act.put,zi,zy,zx]
    refine qtk (i := 2) (v := ?v37) rfl rfl (fun w' hw' => ?h37) hHeld ?r37
    case h37 => go_simp; try with_reducible rfl
    simp only [zt,zs,zz,Act.put,zi,zy,zx]
    refine qtk (i := 3) (v := ?v38) rfl rfl (fun w' hw' => ?h38) hHeld ?r38
    case h38 => go_simp; try with_reducible rfl
    simp only [zt,zs,zz,Act.put,zi,zy,zx]
    refine qtk (i := 5) (v := ?v39) rfl rfl (fun w' hw' => ?h39) hHeld ?r39
    case h39 => go_simp; try with_reducible rfl
    simp only [zt,zs,zz,Act.put,zi,zy,zx]
    refine qtk (i := 6) (v := ?v40) rfl rfl (fun w' hw' => ?h40) hHeld ?r40
    case h40 => go_simp; try with_reducible rfl
    simp only [zt,zs,zz,Act.put,zi,zy,zx]
    refine qtk (i := 7) (v := ?v41) rfl rfl (fun w' hw' => ?h41) hHeld ?r41
    case h41 => go_simp; try with_reducible rfl
    simp only [zt,zs,zz,Act.put,zi,zy,zx]
    refine qtk (i := 8) (v := ?v42) rfl rfl (fun w' hw' => ?h42) hHeld ?r42
    case h42 => go_simp; try with_reducible rfl
    simp only [zt,zs,zz,Act.put,zi,zy,zx]
    refine qtk (i := 9) (v := ?v43) rfl rfl (fun w' hw' => ?h43) hHeld ?r43
    case h43 => go_simp; try with_reducible rfl
    simp only [zt,zs,zz,Act.put,zi,zy,zx]
    refine qtk (i := 10) (v := ?v44) rfl rfl (fun w' hw' => ?h44) hHeld ?r44
    case h44 => (have q := hw'; go_simp); try with_reducible rfl
    simp only [zt,zs,zz,Act.put,zi,zy,zx]
    refine qtk (i := 11) (v := ?v45) rfl rfl (fun w' hw' => ?h45) hHeld ?r45
    case h45 => go_simp; try with_reducible rfl
    simp only [zt,zs,zz,Act.put,zi,zy,zx]
    refine wpAnyH_ready (rs := [4, 12]) (by kernel_rfl) (by simp) ?_
    refine (AllReadyH.cons rfl (fun K hK => ?_) (AllReadyH.cons rfl (fun K hK => ?_) AllReadyH.nil))
    · skip
      have cl := HC1.out
      go_simp
      refine hK.out _ _ hHeld (fun hHeld => ?_)
      clear cl
      clear hK K
      try simp only [zt,zs,zz,Act.put,zi,zy,zx]
      refine wpAnyH_ready (rs := [12]) (by kernel_rfl) (by simp) ?_
      refine (AllReadyH.cons rfl (fun K hK => ?_) AllReadyH.nil)
      go_simp
      refine hK.out _ _ HP2.out (fun hHeld => ?_)
      clear hK K
      try simp only [zt,zs,zz,Act.put,zi,zy,zx]
      refine wpAnyH_ready (rs := [13]) (by kernel_rfl) (by simp) ?_
      refine (AllReadyH.cons rfl (fun K hK => ?_) AllReadyH.nil)
      rw [if_pos (by rfl)]
      refine wp_app3 (Operand.tmp 31) (Operand.tmp 39) rfl (g + 1) (.slice ao2 on c2) on xs rfl HO.out X2.heap.size 1 rfl [.bool true, .int .i64 (p : Int), .slice none 0 0] rfl (fun i u hu => ?_) (by simp [Value.oneCell']) (by omega) hB8 ?_
      · have q : (X2.alloc (.cells #[.bool true, .int .i64 (p : Int), .slice none 0 0] 137)).cell? ⟨X2.heap.size, i, none⟩ = some u := by rw [Lib.cell_of_heap (alloc_at X2 (.cells #[.bool true, .int .i64 (p : Int), .slice none 0 0] 137))]; simpa using hu
        exact q
      intro v' w9 hown9 hg9 hv9
      obtain ⟨y1, y2, y3, y4, hfin⟩ := HNX.out v' w9 hown9 hg9 hv9
      obtain ⟨vo, vc, rfl⟩ := row_form hown9 (by decide)
      have HY2 := Lib.hid y2
      have HY3 := Lib.hid y3
      have HY4 := Lib.hid y4
      have HFIN := Lib.hid hfin
      clear hown9 hg9 hv9 hfin y2 y3 y4
      refine hK.out _ _ y1 (fun hHeld => ?_)
      clear y1
      clear hK K
      try simp only [zt,zs,zz,Act.put,zi,zy,zx]
      refine qtk (i := 14) (v := ?v46) rfl rfl (fun w' hw' => ?h46) hHeld ?r46
      case h46 => go_simp; try with_reducible rfl
      simp only [zt,zs,zz,Act.put,zi,zy,zx]
      refine qtk (i := 15) (v := ?v47) rfl rfl (fun w' hw' => ?h47) hHeld ?r47
      case h47 => go_simp; try with_reducible rfl
      simp only [zt,zs,zz,Act.put,zi,zy,zx]
      refine wpAnyH_ready (rs := [16]) (by kernel_rfl) (by simp) ?_
      refine (AllReadyH.cons rfl (fun K hK => ?_) AllReadyH.nil)
      have cl := HY2.out
      have cf := HY3.out
      go_simp
      refine hK.out _ _ HY4.out (fun hHeld => ?_)
      clear cl cf
      clear hK K
      try simp only [zt,zs,zz,Act.put,zi,zy,zx]
      refine wpAnyH_done (by kernel_rfl) ?_ _
      refine NoPanic.normal ?_
      clear hHeld
      generalize w9.setCell ⟨g, 2, none⟩ (.slice vo (on + 1) vc) = X3 at HFIN HY4 ⊢
      obtain ⟨ao3, c3, bo3, dd3, hf3⟩ := HFIN.out.rd.form
      have d1 := hf3.cells.2.1
      have fz := hf3.frozen 1
      have e9 := wrap_succ p (by omega)
      have HRD := Lib.hid (HFIN.out.rd.setP (p + 1))
      have HL1 : Hid (Below g w (X3.setCell ⟨g, 1, none⟩ (.int .i64 ((p + 1 : Nat) : Int)))) := HFIN.out.low.setCell (p := ⟨g, 1, none⟩) (Nat.le_refl _) _
      have hz : (X3.setCell ⟨g, 1, none⟩ (.int .i64 ((p + 1 : Nat) : Int))).heap.size = X3.heap.size := by simp [World.setCell]
      have HZ1 := Lib.hid hz
      have HZ2 := Lib.hid HFIN.out.size
      clear hf3 hz HFIN
      go_wp2_with fail
      go_ret
      have hn := HN.out
      unfold RetNx
      rw [hn]
      exact ⟨rfl, HL1.out, by have h1 := HZ1.out; have h2 := HZ2.out; push_cast at h1; rw [h1]; exact h2, fun _ => ⟨D, by have h1 := HZ1.out; have h2 := HRD.out; push_cast at h1 h2 ⊢; rw [h1]; exact h2⟩, fun h => absurd rfl h⟩
    · skip
      go_simp
      refine hK.out _ _ HP2.out (fun hHeld => ?_)
      clear hK K
      try simp only [zt,zs,zz,Act.put,zi,zy,zx]
      refine wpAnyH_ready (rs := [4]) (by kernel_rfl) (by simp) ?_
      refine (AllReadyH.cons rfl (fun K hK => ?_) AllReadyH.nil)
      have cl := HC2.out
      go_simp
      refine hK.out _ _ hHeld (fun hHeld => ?_)
      clear cl
      clear hK K
      try simp only [zt,zs,zz,Act.put,zi,zy,zx]
      refine wpAnyH_ready (rs := [13]) (by kernel_rfl) (by simp) ?_
      refine (AllReadyH.cons rfl (fun K hK => ?_) AllReadyH.nil)
      rw [if_pos (by rfl)]
      refine wp_app3 (Operand.tmp 31) (Operand.tmp 39) rfl (g + 1) (.slice ao2 on c2) on xs rfl HO.out X2.heap.size 1 rfl [.bool true, .int .i64 (p : Int), .slice none 0 0] rfl (fun i u hu => ?_) (by simp [Value.oneCell']) (by omega) hB8 ?_
      · have q : (X2.alloc (.cells #[.bool true, .int .i64 (p : Int), .slice none 0 0] 137)).cell? ⟨X2.heap.size, i, none⟩ = some u := by rw [Lib.cell_of_heap (alloc_at X2 (.cells #[.bool true, .int .i64 (p : Int), .slice none 0 0] 137))]; simpa using hu
        exact q
      intro v' w9 hown9 hg9 hv9
      obtain ⟨y1, y2, y3, y4, hfin⟩ := HNX.out v' w9 hown9 hg9 hv9
      obtain ⟨vo, vc, rfl⟩ := row_form hown9 (by decide)
      have HY2 := Lib.hid y2
      have HY3 := Lib.hid y3
      have HY4 := Lib.hid y4
      have HFIN := Lib.hid hfin
      clear hown9 hg9 hv9 hfin y2 y3 y4
      refine hK.out _ _ y1 (fun hHeld => ?_)
      clear y1
      clear hK K
      try simp only [zt,zs,zz,Act.put,zi,zy,zx]
      refine qtk (i := 14) (v := ?v48) rfl rfl (fun w' hw' => ?h48) hHeld ?r48
      case h48 => go_simp; try with_reducible rfl
      simp only [zt,zs,zz,Act.put,zi,zy,zx]
      refine qtk (i := 15) (v := ?v49) rfl rfl (fun w' hw' => ?h49) hHeld ?r49
      case h49 => go_simp; try with_reducible rfl
      simp only [zt,zs,zz,Act.put,zi,zy,zx]
      refine wpAnyH_ready (rs := [16]) (by kernel_rfl) (by simp) ?_
      refine (AllReadyH.cons rfl (fun K hK => ?_) AllReadyH.nil)
      have cl := HY2.out
      have cf := HY3.out
      go_simp
      refine hK.out _ _ HY4.out (fun hHeld => ?_)
      clear cl cf
      clear hK K
      try simp only [zt,zs,zz,Act.put,zi,zy,zx]
      refine wpAnyH_done (by kernel_rfl) ?_ _
      refine NoPanic.normal ?_
      clear hHeld
      generalize w9.setCell ⟨g, 2, none⟩ (.slice vo (on + 1) vc) = X3 at HFIN HY4 ⊢
      obtain ⟨ao3, c3, bo3, dd3, hf3⟩ := HFIN.out.rd.form
      have d1 := hf3.cells.2.1
      have fz := hf3.frozen 1
      have e9 := wrap_succ p (by omega)
      have HRD := Lib.hid (HFIN.out.rd.setP (p + 1))
      have HL1 : Hid (Below g w (X3.setCell ⟨g, 1, none⟩ (.int .i64 ((p + 1 : Nat) : Int)))) := HFIN.out.low.setCell (p := ⟨g, 1, none⟩) (Nat.le_refl _) _
      have hz : (X3.setCell ⟨g, 1, none⟩ (.int .i64 ((p + 1 : Nat) : Int))).heap.size = X3.heap.size := by simp [World.setCell]
      have HZ1 := Lib.hid hz
      have HZ2 := Lib.hid HFIN.out.size
      clear hf3 hz HFIN
      go_wp2_with fail
      go_ret
      have hn := HN.out
      unfold RetNx
      rw [hn]
      exact ⟨rfl, HL1.out, by have h1 := HZ1.out; have h2 := HZ2.out; push_cast at h1; rw [h1]; exact h2, fun _ => ⟨D, by have h1 := HZ1.out; have h2 := HRD.out; push_cast at h1 h2 ⊢; rw [h1]; exact h2⟩, fun h => absurd rfl h⟩
end Go.Proofs.Ythhaegncnoekbaa
