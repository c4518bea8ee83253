/- copied. -/
import Derived.Test.YtkekekdkfjjifaaK10
namespace Go.Proofs.Ytkekekdkfjjifaa
open Go Go.RowKit
set_option linter.unusedVariables false
set_option linter.unusedSimpArgs false
theorem Cop.fr0 {F : Nat → Prop} {B : Nat} {w w' : World} {C : Nat → Nat} {c b : Nat} {G : Option Nat} {os : List Ob} {m dp eb pb : Nat} {pk : List (Option Nat)} {b2 : Nat} {G2 : Option Nat} {kb : Nat} {dv : Value} {D : List Int} {Q : List (List Int)} (h : Cop B w C c b G os m dp eb pb pk b2 G2 kb dv D Q)
    (hf : Fr F w w') (hF : ∀ k, F k → C k = 0) : Cop B w' C c b G os m dp eb pb pk b2 G2 kb dv D Q := by
  obtain ⟨ks, k1, k2⟩ := h.k
  obtain ⟨l1, l2⟩ := h.low'
  exact ⟨h.memo.fr hf (fun k hk => by rw [hF k hk]; decide), (hf.block c l2 (fun e => by have := hF _ e; rw [h.memo.1.cc] at this; cases this)).trans h.cell, h.new.fr hf (fun e => by have := hF _ e; rw [h.c2] at this; cases this) (fun k hk e => by have := hF _ e; rw [h.cg2 k hk] at this; cases this), h.lk, h.nd, h.vd, ⟨ks, k1.fr' hf (fun e => by have := hF _ e; rw [h.ck] at this; cases this), k2⟩,
    own_fr h.done hf (fun k hk e => by have := hF _ e; rw [h.cd k hk] at this; cases this), h.c2, h.cg2, h.ck, h.cd, h.low⟩
/-- A row that came in lies in no block of the copier's. -/
def Out (C : Nat → Nat) (v : Value) : Prop := ∀ ao n k g o, v = .slice ao n k → 0 < n → ao = some ⟨g, o, none⟩ → C g = 0
theorem IsS.cst {C C' : Nat → Nat} {w w' : World} {v : Value} {l : List Int} (h : IsS w v l) (hC : Out C v) (hs : Cst C w C' w') : IsS w' v l ∧ Out C' v := by
  refine ⟨h.fr hs.fr (fun ao n k g o e1 e2 e3 => by rw [hC ao n k g o e1 e2 e3]; exact fun e => e.1 rfl), fun ao n k g o e1 e2 e3 => ?_⟩
  obtain ⟨ao', cap, e4, _, hr⟩ := h
  rw [e4] at e1
  injection e1 with e1 e5 e6
  rcases hr with ⟨_, e7⟩ | ⟨g', o', e7, e8⟩
  · rw [← e5, e7] at e2; simp at e2
  · rw [← e1, e7] at e3
    injection e3 with e3
    injection e3 with e9 e10
    subst e9
    have h1 := World.block_lt_of_cell? w _ (e8 0 (by omega))
    rw [hs.col _ h1]
    exact hC _ _ _ _ _ e4 (by omega) e7
theorem addD_pos {os : List Ob} {D : List Int} {x : Int} (hx : x ∈ D) (e : Int) : pos os (addD D e) x = pos os D x := by
  obtain ⟨E, hE⟩ := addD_ext D e
  rw [hE, pos_app _ hx]
theorem vis_pos {os : List Ob} {dp : Nat} {D : List Int} {x : Int} (hx : x ∈ D) (l : List Int) : pos os (vis os dp D l) x = pos os D x := by
  obtain ⟨E, hE⟩ := vis_ext os dp l D
  rw [hE, pos_app _ hx]
def poss (os : List Ob) (dp : Nat) (D l : List Int) : List Int := l.map fun a => (pos os (vis os dp D l) (shortO os dp a) : Int)
theorem poss_len (os : List Ob) (dp : Nat) (D l : List Int) : (poss os dp D l).length = l.length := by simp [poss]
theorem poss_snoc (os : List Ob) (dp : Nat) (D l : List Int) (a : Int) : poss os dp D (l ++ [a]) = poss os dp D l ++ [(pos os (vis os dp D l) (shortO os dp a) : Int)] := by
  unfold poss
  rw [List.map_append, vis_snoc]
  congr 1
  · apply List.map_congr_left
    intro x hx
    rw [addD_pos ((vis_mem os dp l D _).2 (.inr ⟨x, hx, rfl⟩))]
  · simp only [List.map_cons, List.map_nil]
    rw [pos_addD]
def CpI (B n g : Nat) (C : Nat → Nat) (c b : Nat) (G : Option Nat) (os : List Ob) (m dp eb pb b2 kb : Nat) (D : List Int) (Q : List (List Int)) (lv : Value) (l : List Int) (w : World) (iv : Value) (wr : World) : Prop :=
  ∃ (j : Nat) (out : List Int) (C' : Nat → Nat) (pk' : List (Option Nat)) (G2' : Option Nat) (dv' : Value) (E : List (List Int)), j ≤ n ∧ iv = .int .i64 (j : Int) ∧ Cop B wr C' c b G os m dp eb pb pk' b2 G2' kb dv' (vis os dp D (l.take j)) (Q ++ E) ∧ Cst C w C' wr ∧
    IRw wr g out ∧ out.length = n ∧ out.take j = poss os dp D (l.take j) ∧ C' g = 0 ∧ IsS wr lv l ∧ Out C' lv
def RetCp (B : Nat) (C : Nat → Nat) (c b : Nat) (G : Option Nat) (os : List Ob) (m dp eb pb b2 kb : Nat) (D l : List Int) (Q : List (List Int)) (w : World) (e : Ending) (w' : World) : Prop :=
  ∃ (g : Nat) (C' : Nat → Nat) (pk' : List (Option Nat)) (G2' : Option Nat) (dv' : Value) (E : List (List Int)), e = .returned (.slice (some ⟨g, 0, none⟩) l.length l.length) ∧ Cop B w' C' c b G os m dp eb pb pk' b2 G2' kb dv' (vis os dp D l) (Q ++ E) ∧ Cst C w C' w' ∧ IRw w' g (poss os dp D l) ∧ w.heap.size ≤ g ∧ C' g = 0
set_option maxHeartbeats 16000000 in
set_option maxRecDepth 100000 in
theorem copied_any {B : Nat} {w : World} {C : Nat → Nat} {c b : Nat} {G : Option Nat} {os : List Ob} {m dp eb pb : Nat} {pk : List (Option Nat)} {b2 : Nat} {G2 : Option Nat} {kb : Nat} {dv : Value} {D : List Int} {Q : List (List Int)} (h : Cop B w C c b G os m dp eb pb pk b2 G2 kb dv D Q) (hdp : dp ≤ 20) (lv : Value) (l : List Int) (hl : IsS w lv l) (hlo : Out C lv) (hln : l.length ≤ 1000000) (hlv : ∀ a ∈ l, Vd os a) :
    Calls Try.prog 35 #[.pointer (some ⟨c, 0, none⟩), lv] w (RetCp B C c b G os m dp eb pb b2 kb D l Q w) := by
  have hmk := run_make_ints l.length hln w
  have HB1 : Hid (Below w.heap.size w (w.alloc (.cells (ivals (List.replicate l.length 0)) 3))) := (Below.refl _ _).alloc (Nat.le_refl _) _
  have hg0 : C w.heap.size = 0 := h.memo.1.fresh _ (Nat.le_refl _)
  have H0 : Hid (CpI B l.length w.heap.size C c b G os m dp eb pb b2 kb D Q lv l w (.int .i64 0) (w.alloc (.cells (ivals (List.replicate l.length 0)) 3))) :=
    ⟨0, _, C, pk, G2, dv, [], Nat.zero_le _, rfl, by rw [List.append_nil]; exact h.below HB1.out, ⟨Fr.of_below HB1.out, fun _ _ => rfl⟩, alloc_at w _, by simp, by simp [poss], hg0, hl.below HB1.out, hlo⟩
  have HLV := Lib.hid hlv
  have hgl9 : ∀ g o, (∃ ao k n, lv = .slice ao n k ∧ 0 < n ∧ ao = some ⟨g, o, none⟩) → g < w.heap.size := by
    rintro g o ⟨ao, k, n, e1, e2, e3⟩
    obtain ⟨ao', cap', e4, _, hr⟩ := hl
    rw [e1] at e4
    injection e4 with e4 e5 e6
    rcases hr with ⟨_, e7⟩ | ⟨g', o', e7, e8⟩
    · rw [e5, e7] at e2; simp at e2
    · rw [e3, e7] at e4
      injection e4 with e4
      injection e4 with e9 e10
      subst e9
      exact World.block_lt_of_cell? w _ (e8 0 (by omega))
  obtain ⟨lao, lcap, elv, hlcap, -⟩ := hl
  subst elv
  have HGL9 := Lib.hid hgl9
  clear hgl9
  generalize w.alloc (.cells (ivals (List.replicate l.length 0)) 3) = W1 at hmk HB1 H0
  obtain ⟨g, hg⟩ : ∃ g, g = w.heap.size := ⟨_, rfl⟩
  rw [← hg] at hmk H0
  have HG := Lib.hid hg
  obtain ⟨n, hn⟩ : ∃ n, n = l.length := ⟨_, rfl⟩
  rw [← hn] at hmk H0 hlcap hln ⊢
  have HN := Lib.hid hn
  have FS := Lib.hid (fun (d : Nat) (hd : d ≤ 20) => short_any (c := c) (b := b) (G := G) (os := os) (m := m) (eb := eb) (pb := pb) d hd)
  clear h hg hn hg0 hlo hlv HB1
  go_enter Try.func35, Try.ntmps35
  go_wp2_with fail
  go_loopw [13] (fun iv wr => CpI B n g C c b G os m dp eb pb b2 kb D Q (.slice lao n lcap) l w iv wr) (fun iv _ => n - (intOf iv).toNat)
  case atStart => exact H0.out
  case round =>
    clear H0
    obtain ⟨j, out, C1, pk1, G1, dv1, E1, hj, rfl, hc, hs, ho, hol, hot, hg0, hls, hlo⟩ := hrel
    have HC := Lib.hid hc
    have HS := Lib.hid hs
    have HO := Lib.hid ho
    have HOL := Lib.hid hol
    have HOT := Lib.hid hot
    have HG0 := Lib.hid hg0
    have HLS := Lib.hid hls
    have HLO := Lib.hid hlo
    clear hc hs ho hol hot hg0 hls hlo
    by_cases hjn : j < n
    · have q1 : decide ((j : Int) < (n : Int)) = true := decide_eq_true (by omega)
      have hjl : j < l.length := by rw [← HN.out]; exact hjn
      obtain ⟨ao', cap', e1, _, hr⟩ := HLS.out
      injection e1 with e1 e2 e3
      rcases hr with ⟨_, e⟩ | ⟨gl, ol, e4, hcl⟩
      · rw [e] at hjl; simp at hjl
      · rw [← e1] at e4
        subst e4
        have cl := hcl j hjl
        obtain ⟨a, ha⟩ : ∃ a, a = l[j] := ⟨_, rfl⟩
        rw [← ha] at cl
        have HGL : Hid (gl < w.heap.size) := HGL9.out gl ol ⟨_, _, _, rfl, by omega, rfl⟩
        have HAV : Hid (Vd os a) := by rw [ha]; exact HLV.out _ (List.getElem_mem _)
        have HTK : Hid (l.take (j + 1) = l.take j ++ [a]) := by show _ = _; rw [List.take_succ_eq_append_getElem hjl, ha]
        have hvp := vd_lt HAV.out
        clear hcl e1 e2 e3 ha
        go_wp2_with fail
        have hX := Lib.hid (HC.out.below (Below.refl wr.heap.size wr).drew)
        have HSX := Lib.hid (HS.out.below (Below.refl wr.heap.size wr).drew)
        have HOX : Hid (IRw wr.drew g out) := HO.out
        have HLX := Lib.hid (HLS.out.below (Below.refl wr.heap.size wr).drew)
        have cX := hX.out.cells.2.1
        clear HC HS HO HLS
        refine wp_region_noPanic ?_
        refine wp_region_held_drew (S := fun W => W.cell? ⟨c, 3, none⟩ = some (.int .i64 (dp : Nat))) (by kernel_rfl) cX (fun hHeld => ?_)
        generalize wr.drew = X at hX HSX HOX HLX cX hHeld ⊢
        refine wpAnyH_take (i := 0) (v := ?v0) rfl (by kernel_rfl) (by kernel_rfl) (by kernel_rfl) (fun _ _ _ h => h) (Or.inl ⟨rfl, fun w' hw' => ?h0⟩) hHeld ?r0
        case h0 =>
          (go_simp; try omega)
          try with_reducible rfl
        simp only [List.getElem_toArray, List.getElem_cons_succ, List.getElem_cons_zero, Act.put, List.setIfInBounds_toArray, List.set_cons_zero, List.set_cons_succ]
        refine wpAnyH_take (i := 1) (v := ?v1) rfl (by kernel_rfl) (by kernel_rfl) (by kernel_rfl) (fun _ _ _ h => h) (Or.inl ⟨rfl, fun w' hw' => ?h1⟩) hHeld ?r1
        case h1 =>
          (go_simp; try omega)
          try with_reducible rfl
        simp only [List.getElem_toArray, List.getElem_cons_succ, List.getElem_cons_zero, Act.put, List.setIfInBounds_toArray, List.set_cons_zero, List.set_cons_succ]
        refine wpAnyH_take (i := 2) (v := ?v2) rfl (by kernel_rfl) (by kernel_rfl) (by kernel_rfl) (fun _ _ _ h => h) (Or.inl ⟨rfl, fun w' hw' => ?h2⟩) hHeld ?r2
        case h2 =>
          (go_simp; try omega)
          try with_reducible rfl
        simp only [List.getElem_toArray, List.getElem_cons_succ, List.getElem_cons_zero, Act.put, List.setIfInBounds_toArray, List.set_cons_zero, List.set_cons_succ]
        refine wpAnyH_take (i := 3) (v := ?v3) rfl (by kernel_rfl) (by kernel_rfl) (by kernel_rfl) (fun _ _ _ h => h) (Or.inl ⟨rfl, fun w' hw' => ?h3⟩) hHeld ?r3
        case h3 =>
          (go_simp; try omega)
          try with_reducible rfl
        simp only [List.getElem_toArray, List.getElem_cons_succ, List.getElem_cons_zero, Act.put, List.setIfInBounds_toArray, List.set_cons_zero, List.set_cons_succ]
        refine wpAnyH_take (i := 4) (v := ?v4) rfl (by kernel_rfl) (by kernel_rfl) (by kernel_rfl) (fun _ _ _ h => h) (Or.inl ⟨rfl, fun w' hw' => ?h4⟩) hHeld ?r4
        case h4 =>
          (go_simp; try omega)
          try with_reducible rfl
        simp only [List.getElem_toArray, List.getElem_cons_succ, List.getElem_cons_zero, Act.put, List.setIfInBounds_toArray, List.set_cons_zero, List.set_cons_succ]
        refine wpAnyH_take (i := 5) (v := ?v5) rfl (by kernel_rfl) (by kernel_rfl) (by kernel_rfl) (fun _ _ _ h => h) (Or.inl ⟨rfl, fun w' hw' => ?h5⟩) hHeld ?r5
        case h5 =>
          (go_simp; try omega)
          try with_reducible rfl
        simp only [List.getElem_toArray, List.getElem_cons_succ, List.getElem_cons_zero, Act.put, List.setIfInBounds_toArray, List.set_cons_zero, List.set_cons_succ]
        refine wpAnyH_take (i := 6) (v := ?v6) rfl (by kernel_rfl) (by kernel_rfl) (by kernel_rfl) (fun _ _ _ h => h) (Or.inl ⟨rfl, fun w' hw' => ?h6⟩) hHeld ?r6
        case h6 =>
          (go_simp; try omega)
          try with_reducible rfl
        simp only [List.getElem_toArray, List.getElem_cons_succ, List.getElem_cons_zero, Act.put, List.setIfInBounds_toArray, List.set_cons_zero, List.set_cons_succ]
        refine wpAnyH_take (i := 7) (v := ?v7) rfl (by kernel_rfl) (by kernel_rfl) (by kernel_rfl) (fun _ _ _ h => h) (Or.inl ⟨rfl, fun w' hw' => ?h7⟩) hHeld ?r7
        case h7 =>
          (go_simp; try omega)
          try with_reducible rfl
        simp only [List.getElem_toArray, List.getElem_cons_succ, List.getElem_cons_zero, Act.put, List.setIfInBounds_toArray, List.set_cons_zero, List.set_cons_succ]
        refine wpAnyH_take (i := 8) (v := ?v8) rfl (by kernel_rfl) (by kernel_rfl) (by kernel_rfl) (fun _ _ _ h => h) (Or.inl ⟨rfl, fun w' hw' => ?h8⟩) hHeld ?r8
        case h8 =>
          (go_simp; try omega)
          try with_reducible rfl
        simp only [List.getElem_toArray, List.getElem_cons_succ, List.getElem_cons_zero, Act.put, List.setIfInBounds_toArray, List.set_cons_zero, List.set_cons_succ]
        refine wpAnyH_take (i := 9) (v := ?v9) rfl (by kernel_rfl) (by kernel_rfl) (by kernel_rfl) (fun _ _ _ h => h) (Or.inl ⟨rfl, fun w' hw' => ?h9⟩) hHeld ?r9
        case h9 =>
          (go_simp; try omega)
          try with_reducible rfl
        simp only [List.getElem_toArray, List.getElem_cons_succ, List.getElem_cons_zero, Act.put, List.setIfInBounds_toArray, List.set_cons_zero, List.set_cons_succ]
        refine wpAnyH_take (i := 10) (v := ?v10) rfl (by kernel_rfl) (by kernel_rfl) (by kernel_rfl) (fun _ _ _ h => h) (Or.inl ⟨rfl, fun w' hw' => ?h10⟩) hHeld ?r10
        case h10 =>
          (obtain d0 := hw'; go_simp)
          try with_reducible rfl
        simp only [List.getElem_toArray, List.getElem_cons_succ, List.getElem_cons_zero, Act.put, List.setIfInBounds_toArray, List.set_cons_zero, List.set_cons_succ]
        refine wpAnyH_ready (rs := [11]) (by kernel_rfl) (by simp) ?_
        refine (AllReadyH.cons rfl (fun K hK => ?_) AllReadyH.nil)
        go_simp
        refine ((FS.out dp (by omega)) X C1 pk1 a hX.out.memo HAV.out).mono ?_
        rintro e9 w2 ⟨rfl, C2, pk2, hm2, hs2⟩
        have h2 := Lib.hid (hX.out.memo_turn hm2 hs2)
        have HS2 := Lib.hid (HSX.out.trans hs2.cst)
        have hl2 := HLX.out.cst HLO.out hs2.cst
        have HL2 := Lib.hid hl2.1
        have HLO2 := Lib.hid hl2.2
        have hgX := HOX.out.lt
        have HO2 := Lib.hid (HOX.out.fr' hs2.cst.fr (fun e => by rw [HG0.out] at e; exact e.1 rfl))
        have HG2 : Hid (C2 g = 0) := (hs2.cst.col g hgX).trans HG0.out
        have HXV := Lib.hid (shortO_valid hX.out.memo.1.hp.2.2.1 hX.out.memo.1.hp.2.1 dp HAV.out)
        obtain ⟨x, hx⟩ : ∃ x, x = shortO os dp a := ⟨_, rfl⟩
        rw [← hx] at HXV ⊢
        have HX9 := Lib.hid hx
        clear hX HSX HOX HLX cX hm2 hs2 hl2 hgX HLO HG0 hx
        refine hK.out _ _ h2.out.cells.2.1 (fun hHeld => ?_)
        clear hK K
        try simp only [List.getElem_toArray, List.getElem_cons_succ, List.getElem_cons_zero, Act.put, List.setIfInBounds_toArray, List.set_cons_zero, List.set_cons_succ]
        refine wpAnyH_ready (rs := [12]) (by kernel_rfl) (by simp) ?_
        refine (AllReadyH.cons rfl (fun K hK => ?_) AllReadyH.nil)
        go_simp
        refine (copyOf_any h2.out x HXV.out).mono ?_
        rintro e9 w3 ⟨rfl, C3, pk3, G3, dv3, E3, hc3, hs3⟩
        have h3 := Lib.hid hc3
        have HS3 := Lib.hid (HS2.out.trans hs3)
        have hl3 := HL2.out.cst HLO2.out hs3
        have HL3 := Lib.hid hl3.1
        have HLO3 := Lib.hid hl3.2
        have hg2 := HO2.out.lt
        have HO3 := Lib.hid (HO2.out.fr' hs3.fr (fun e => by rw [HG2.out] at e; exact e.1 rfl))
        have HG3 : Hid (C3 g = 0) := (hs3.col g hg2).trans HG2.out
        have hjo : j < out.length := by rw [HOL.out]; exact hjn
        obtain ⟨z, hz⟩ : ∃ z, out[j]? = some z := ⟨_, List.getElem?_eq_getElem hjo⟩
        have cz := HO3.out.cell? hz
        have fz := HO3.out.frz j
        clear h2 HS2 HL2 HLO2 HO2 HG2 hc3 hs3 hl3 hg2 hz
        refine hK.out _ _ h3.out.cells.2.1 (fun hHeld => ?_)
        clear hK K
        try simp only [List.getElem_toArray, List.getElem_cons_succ, List.getElem_cons_zero, Act.put, List.setIfInBounds_toArray, List.set_cons_zero, List.set_cons_succ]
        refine wpAnyH_take (i := 13) (v := Value.pointer (some ⟨g, j, none⟩)) rfl (by kernel_rfl) (by kernel_rfl) (by kernel_rfl) (fun _ _ _ h => h) (Or.inl ⟨rfl, fun w' hw' => ?_⟩) hHeld ?_
        · (go_simp; try omega)
        simp only [List.getElem_toArray, List.getElem_cons_succ, List.getElem_cons_zero, Act.put, List.setIfInBounds_toArray, List.set_cons_zero, List.set_cons_succ]
        refine wpAnyH_ready (rs := [14]) (by kernel_rfl) (by simp) ?_
        refine (AllReadyH.cons rfl (fun K hK => ?_) AllReadyH.nil)
        go_simp
        have hfs : Fr (fun k => k = g) w3 (w3.setCell ⟨g, j, none⟩ (.int .i64 (pos os (vis os dp D (l.take j)) x : Nat))) := Fr.setCell (F := fun k => k = g) (p := ⟨g, j, none⟩) (Fr.refl _ _) rfl _
        have h4 := Lib.hid (h3.out.fr0 hfs (fun k hk => by rw [hk]; exact HG3.out))
        have HREL : Hid (CpI B n g C c b G os m dp eb pb b2 kb D Q (.slice (some ⟨gl, ol, none⟩) n lcap) l w (.int .i64 ((j : Int) + 1)) (w3.setCell ⟨g, j, none⟩ (.int .i64 (pos os (vis os dp D (l.take j)) x : Nat)))) := by
          refine ⟨j + 1, out.set j (pos os (vis os dp D (l.take j)) x : Nat), C3, pk3, G3, dv3, E1 ++ E3, hjn, by go_num, ?_, ⟨HS3.out.fr.trans hfs (fun y hy e => by rw [e] at hy; have := HG.out; omega), HS3.out.col⟩, HO3.out.put j _, by rw [List.length_set]; exact HOL.out, ?_, HG3.out, HL3.out.fr hfs (fun ao nn kk gg oo e1 e2 e3 e4 => ?_), HLO3.out⟩
          · rw [HTK.out, vis_snoc, ← HX9.out, ← List.append_assoc]; exact h4.out
          · rw [List.take_set, List.take_succ_eq_append_getElem hjo, HTK.out, poss_snoc, ← HOT.out, List.set_append_right _ _ (by rw [List.length_take]; omega), ← HX9.out]
            congr 1
            rw [List.length_take, Nat.min_eq_left (by omega), Nat.sub_self]; rfl
          · injection e1 with e1 e5 e6
            rw [e3] at e1
            injection e1 with e1
            injection e1 with e7 e8
            have hgl : gl < w.heap.size := HGL.out
            have hgg := HG.out
            omega
        refine hK.out _ _ h4.out.cells.2.1 (fun hHeld => ?_)
        clear cz fz
        clear hK K
        try simp only [List.getElem_toArray, List.getElem_cons_succ, List.getElem_cons_zero, Act.put, List.setIfInBounds_toArray, List.set_cons_zero, List.set_cons_succ]
        refine wpAnyH_done (by kernel_rfl) ?_ _
        refine NoPanic.normal ?_
        clear hHeld
        go_wp2_with fail
        go_roundw
        case rel => exact HREL.out
        case measure => simp [intOf]; omega
    · have hjn2 : j = n := by omega
      subst hjn2
      have q1 : decide ((j : Int) < (j : Int)) = false := decide_eq_false (by omega)
      have HE : Hid (IRw wr g (poss os dp D l)) := by
        have h1 := HOT.out
        have e1 := HOL.out
        have e2 := HN.out
        rw [← e1, List.take_length, e1, e2, List.take_length] at h1
        rw [← h1]; exact HO.out
      have HC2 : Hid (Cop B wr C1 c b G os m dp eb pb pk1 b2 G1 kb dv1 (vis os dp D l) (Q ++ E1)) := by
        have h1 := HC.out
        rw [HN.out, List.take_length] at h1
        exact h1
      go_wp2_with fail
      go_ret
      exact ⟨g, C1, pk1, G1, dv1, E1, by rw [← HN.out]; rfl, HC2.out, HS.out, HE.out, by have := HG.out; omega, HG0.out⟩
end Go.Proofs.Ytkekekdkfjjifaa
namespace Go.Proofs.Ytkekekdkfjjifaa
open Go Go.RowKit
set_option linter.unusedVariables false
set_option linter.unusedSimpArgs false
def QD (os : List Ob) (dp : Nat) (D : List Int) (Q : List (List Int)) (i : Nat) : Prop :=
  ∀ (j : Nat) (a : Int), j < i → D[j]? = some a → Q[j]? = some ((ptrsOf os a).map fun p => (pos os D (shortO os dp p) : Int)) ∧ ∀ p ∈ ptrsOf os a, shortO os dp p ∈ D
theorem QD.zero (os : List Ob) (dp : Nat) (D : List Int) (Q : List (List Int)) : QD os dp D Q 0 := fun j a h => by omega
theorem QD.ext {os : List Ob} {dp : Nat} {D : List Int} {Q : List (List Int)} {i : Nat} (h : QD os dp D Q i) (hi : i ≤ D.length) (hl : Q.length = D.length) (E : List Int) (R : List (List Int)) : QD os dp (D ++ E) (Q ++ R) i := by
  intro j a hj ha
  rw [List.getElem?_append_left (by omega)] at ha
  obtain ⟨h1, h2⟩ := h j a hj ha
  refine ⟨?_, fun p hp => List.mem_append_left _ (h2 p hp)⟩
  rw [List.getElem?_append_left (by omega), h1]
  congr 1
  apply List.map_congr_left
  intro p hp
  rw [pos_app _ (h2 p hp)]
theorem QD.next {os : List Ob} {dp : Nat} {D : List Int} {Q : List (List Int)} {i : Nat} (h : QD os dp D Q i) {a : Int} (hi : D[i]? = some a) (hl : Q.length = D.length) (hm : ∀ p ∈ ptrsOf os a, shortO os dp p ∈ D) : QD os dp D (Q.set i ((ptrsOf os a).map fun p => (pos os D (shortO os dp p) : Int))) (i + 1) := by
  intro j x hj hx
  have hil : i < D.length := (List.getElem?_eq_some_iff.1 hi).1
  by_cases e : i = j
  · subst e
    rw [hi] at hx
    injection hx with hx
    subst hx
    exact ⟨by rw [List.getElem?_set, if_pos rfl, if_pos (by omega)], hm⟩
  · obtain ⟨h1, h2⟩ := h j x (by omega) hx
    exact ⟨by rw [List.getElem?_set, if_neg e]; exact h1, h2⟩
theorem QD.all {os : List Ob} {dp : Nat} {D : List Int} {Q : List (List Int)} {i : Nat} (h : QD os dp D Q i) (hi : D.length ≤ i) (hl : Q.length = D.length) : Q = finQ os dp D := by
  apply List.ext_getElem?
  intro j
  unfold finQ
  rw [List.getElem?_map]
  cases hd : D[j]? with
  | none =>
    rw [List.getElem?_eq_none_iff] at hd
    rw [List.getElem?_eq_none (by omega)]; rfl
  | some a =>
    have := (List.getElem?_eq_some_iff.1 hd).1
    rw [(h j a (by omega) hd).1]; rfl
theorem cps_ob {os : List Ob} {D : List Int} {Q : List (List Int)} (h : Lk os D Q) (hn : D.Nodup) {i : Nat} {a : Int} (hi : D[i]? = some a) {q : List Int} (hq : Q[i]? = some q) : ob (cps os D Q) (pos os D a : Nat) = some (newO (hdo os a).t q (numsOf os a)) := by
  obtain ⟨h1, rfl⟩ := List.getElem?_eq_some_iff.1 hi
  obtain ⟨h2, rfl⟩ := List.getElem?_eq_some_iff.1 hq
  rw [ob_loc (cps_loc h hn i h1), cps_at h i h1 h2]
theorem cps_mem {os : List Ob} {D : List Int} {Q : List (List Int)} (h : Lk os D Q) (hn : D.Nodup) {x : Int} (hx : x ∈ D) : (ob (cps os D Q) (pos os D x : Nat)).isSome = true := by
  obtain ⟨i, hi, rfl⟩ := List.getElem_of_mem hx
  have hl := h.len
  rw [cps_ob h hn (List.getElem?_eq_getElem hi) (List.getElem?_eq_getElem (show i < Q.length by omega))]; rfl
theorem cps_upd {os : List Ob} {D : List Int} {Q : List (List Int)} (h : Lk os D Q) {i : Nat} {a : Int} (hi : D[i]? = some a) {q : List Int} (hq : Q[i]? = some q) (j : Nat) (hj : j < q.length) (v : Int) : upd (cps os D Q) i (fun o => setO o j v) = cps os D (Q.set i (q.set j v)) := by
  obtain ⟨h1, rfl⟩ := List.getElem?_eq_some_iff.1 hi
  obtain ⟨h2, rfl⟩ := List.getElem?_eq_some_iff.1 hq
  have hc : i < (cps os D Q).length := by rw [cps_len h]; exact h1
  rw [upd_eq hc, cps_at h i h1 h2, newO_set _ _ _ _ _ hj, cps_set h i h1 h2]
theorem Cop.set {B : Nat} {w w' : World} {C : Nat → Nat} {c b : Nat} {G : Option Nat} {os : List Ob} {m dp eb pb : Nat} {pk : List (Option Nat)} {b2 : Nat} {G2 G3 : Option Nat} {kb : Nat} {dv : Value} {D : List Int} {Q : List (List Int)} (h : Cop B w C c b G os m dp eb pb pk b2 G2 kb dv D Q)
    {i : Nat} (hi : i < D.length) {q : List Int} (hq : q.length = (ptrsOf os D[i]).length) (hH : HpO w' b2 G3 (cps os D (Q.set i q)) m) (hF : Fr (own b2 G2) w w') (hG : ∀ k, G3 = some k → G2 = some k ∨ w.heap.size ≤ k) :
    ∃ C', Cop B w' C' c b G os m dp eb pb pk b2 G3 kb dv D (Q.set i q) ∧ Cst C w C' w' := by
  obtain ⟨ks, k1, k2⟩ := h.k
  obtain ⟨l1, l2⟩ := h.low'
  obtain ⟨hmb, es, e1, e2⟩ := h.memo
  have hown : ∀ k, own b2 G2 k → C k = 5 := by
    rintro k (rfl | hk)
    · exact h.c2
    · exact h.cg2 k hk
  have hf : Fr (fun k => C k = 5) w w' := ⟨hF.os, hF.tape, hF.output, hF.size, fun k hk hn => hF.block k hk (fun e => hn (hown k e))⟩
  have hcol : ∀ k, k < w.heap.size → (if G3 = some k then 5 else C k) = C k := by
    intro k hk
    split
    · rename_i e1
      rcases hG k e1 with e2 | e2
      · exact (h.cg2 k e2).symm
      · omega
    · rfl
  have hcn : ∀ k, w'.heap.size ≤ k → (if G3 = some k then 5 else C k) = 0 := by
    intro k hk
    rw [if_neg (fun e => by have := (hH.1.glt k e).1; omega)]
    exact hmb.fresh k (by have := hf.size; omega)
  have hm1 := hmb.fr hf (fun k hk => by rw [hk]; decide)
  have hm' : Memo w' (fun k => if G3 = some k then 5 else C k) c b G os m eb pb pk :=
    ⟨⟨hm1.hp, (hcol _ hmb.hp.1.lt).trans hmb.cb, fun k hk => (hcol _ (hmb.hp.1.glt k hk).1).trans (hmb.cg k hk), (hcol _ l2).trans hmb.cc, (hcol _ e1.lt).trans hmb.ce, (hcol _ hmb.p.lt).trans hmb.cp, fun i q hq => by
      obtain ⟨l, a1, _⟩ := hmb.q i q hq
      exact (hcol _ a1.lt).trans (hmb.cq i q hq), hmb.inj, hmb.len, hm1.p, hm1.q, hm1.k0, hm1.k1, hm1.k2, hcn⟩, es, e1.fr' hf (fun e => by rw [hmb.ce] at e; cases e), e2⟩
  refine ⟨fun k => if G3 = some k then 5 else C k, ⟨hm', (hf.block c l2 (fun e => by rw [hmb.cc] at e; cases e)).trans h.cell, hH, h.lk.set i q hi hq, h.nd, h.vd, ⟨ks, k1.fr' hf (fun e => by rw [h.ck] at e; cases e), k2⟩, own_fr h.done hf (fun k hk e => by rw [h.cd k hk] at e; cases e), (hcol _ h.new.1.lt).trans h.c2, fun k hk => if_pos hk, (hcol _ k1.lt).trans h.ck, fun k hk => (hcol _ (h.done.lt k hk).2).trans (h.cd k hk), fun k hk hk6 => ?_⟩, ⟨⟨hf.os, hf.tape, hf.output, hf.size, fun k hk hn => hf.block k hk (fun e => hn (by omega))⟩, hcol⟩⟩
  by_cases e : k < w.heap.size
  · have := hcol k e
    simp only [this] at hk hk6
    exact h.low k hk hk6
  · omega
end Go.Proofs.Ytkekekdkfjjifaa
