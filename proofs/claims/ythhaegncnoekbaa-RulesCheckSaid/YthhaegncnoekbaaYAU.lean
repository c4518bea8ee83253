/- Rules: the document's Check. -/
import Derived.Test.YthhaegncnoekbaaYAA
import Derived.Test.YthhaegncnoekbaaYAT
import Derived.Test.YthhaegncnoekbaaCK1
import Derived.Test.YthhaegncnoekbaaYAO
set_option linter.unusedVariables false
set_option linter.unusedSimpArgs false
namespace Go.Proofs.Ythhaegncnoekbaa
open Go.RowKit
mutual
theorem vars_size (V : Dt → Bool) : ∀ (d : Dt) (n : Int), ∀ x ∈ d.vars V n, x.1.size ≤ d.size
  | .mk k t ms l p, n, x, hx => by
    rw [vars_mk] at hx
    split at hx
    · simp at hx; subst hx; exact Nat.le_refl _
    · have := varss_size V l n x hx
      simp only [Dt.size]; omega
theorem varss_size (V : Dt → Bool) : ∀ (l : List Dt) (n : Int), ∀ x ∈ varss V l n, x.1.size ≤ Dt.sizes l
  | [], n, x, hx => by simp [varss] at hx
  | d :: r, n, x, hx => by
    rw [varss_cons, List.mem_append] at hx
    simp only [Dt.sizes]
    rcases hx with hx | hx
    · have := vars_size V d _ x hx; omega
    · have := varss_size V r n x hx; omega
end
def dupAt (ns : List (Dt × Int)) (i : Nat) : Bool := match ns[i]? with | some x => decide (0 ≤ fnd (ns.take i) x.1) | none => false
/-- Does a variable stand there again? -/
def dup (ns : List (Dt × Int)) : Bool := (List.range ns.length).any (dupAt ns)
theorem dup_yes {ns : List (Dt × Int)} (i : Nat) (h : i < ns.length) (e : dupAt ns i = true) : dup ns = true := List.any_eq_true.2 ⟨i, List.mem_range.2 h, e⟩
theorem dup_no {ns : List (Dt × Int)} (h : ∀ i, i < ns.length → dupAt ns i = false) : dup ns = false := by
  unfold dup
  rw [List.any_eq_false]
  intro i hi
  rw [h i (List.mem_range.1 hi)]; decide
theorem dupAt_is {ns : List (Dt × Int)} (i : Nat) (h : i < ns.length) : dupAt ns i = decide (0 ≤ fnd (ns.take i) ns[i].1) := by
  unfold dupAt; rw [List.getElem?_eq_getElem h]
/-- The first fault of a rule. -/
def chk (ls : List ByteArray) (p t : Dt) : Int := if (!(p.kind == 4) || !p.pat) = true then 7 else if dup (p.vars (isVar ls) 0) = true then 9 else if t.tmpl (p.vars (isVar ls) 0) 0 = true then 0 else 7
def CkInv (ns : List (Dt × Int)) (w : World) (iv : Value) (wr : World) : Prop := ∃ j : Nat, j ≤ ns.length ∧ iv = .int .i64 (j : Int) ∧ (∀ i, i < j → dupAt ns i = false) ∧ Below w.heap.size w wr
theorem grw_nil {w w' : World} {v : Value} (h : Grw w w' (.slice none 0 0) v) : Below w.heap.size w w' := ⟨h.1.os, h.1.tape, h.1.output, h.1.size, fun k hk => h.1.block k hk (by simp [Value.ownBlock])⟩
theorem ns_cells {B : Nat} {w : World} {ao : Option Addr} {n cap : Nat} {ns : List (Dt × Int)} (h : NsAt B w (.slice ao n cap) ns) (j : Nat) (hj : j < ns.length) :
    ∃ g o k t mv lv p, ao = some ⟨g, o, none⟩ ∧ Dt.At (fun g => g < B) w ns[j].1 #[.int .i64 k, .string t, mv, lv, .int .i64 p] ∧ mv.oneCell' = true ∧ lv.oneCell' = true ∧ ∀ W, Below w.heap.size w W → W.cell? ⟨g, o + j * 6, none⟩ = some (.int .i64 k) ∧ W.cell? ⟨g, o + j * 6 + 1, none⟩ = some (.string t) ∧ W.cell? ⟨g, o + j * 6 + 2, none⟩ = some mv ∧ W.cell? ⟨g, o + j * 6 + 3, none⟩ = some lv ∧ W.cell? ⟨g, o + j * 6 + 4, none⟩ = some (.int .i64 p) := by
  obtain ⟨g, o, k, t, mv, lv, p, e, hat, e0, e1, e2, e3, e4, _, o1, o2⟩ := h.get j hj
  have hg : g < w.heap.size := World.block_lt_of_cell? w _ e0
  exact ⟨g, o, k, t, mv, lv, p, e, hat, o1, o2, fun W hb => ⟨(hb.cell hg).trans e0, (hb.cell hg).trans e1, (hb.cell hg).trans e2, (hb.cell hg).trans e3, (hb.cell hg).trans e4⟩⟩
theorem OwnN.cap {B : Nat} {w : World} {ao : Option Addr} {n c : Nat} {ns : List (Dt × Int)} (h : OwnN B w (.slice ao n c) ns) : ns.length ≤ c := by
  obtain ⟨xs, ho, _⟩ := h
  rcases ho.2 with ⟨e, hz⟩ | ⟨g, cap, cur, e, _, _, hnc, _⟩
  · injection e with _ _ e3; omega
  · injection e with _ _ e3; omega
set_option maxHeartbeats 16000000 in
set_option maxRecDepth 100000 in
theorem refcheck_any (B : Nat) (pd td : Dt) (cs ds : Array Value) (ls : List ByteArray) (v : Value) (w : World) (hB : B ≤ w.heap.size) (hp0 : Dt.At (fun g => g < B) w pd cs) (ht0 : Dt.At (fun g => g < B) w td ds) (hv : LitsAt w v ls) (hvB : ∀ x, v.ownBlock = some x → x < B) (hls : ls.length ≤ 1000000) (hps : pd.size ≤ 1000000) (hts : td.size ≤ 1000000) :
    Calls Try.prog 22 #[v, .agg cs, .agg ds] w (RetI (chk ls pd td) w) := by
  obtain ⟨ns, hns⟩ : ∃ ns, ns = pd.vars (isVar ls) 0 := ⟨_, rfl⟩
  have hnl : ns.length ≤ 1000000 := by rw [hns]; exact Nat.le_trans (vars_len _ _ _) hps
  have hnz : ∀ x ∈ ns, x.1.size ≤ 1000000000 := fun x hx => by rw [hns] at hx; have := vars_size _ _ _ x hx; omega
  have HCK : Hid (chk ls pd td = if (!(pd.kind == 4) || !pd.pat) = true then 7 else if dup ns = true then 9 else if td.tmpl ns 0 = true then 0 else 7) := by show _ = _; rw [hns]; rfl
  have hpa := hp0
  have hta := ht0
  obtain ⟨mv, lv, rfl, o1, o2⟩ := At_five hp0
  obtain ⟨mv2, lv2, rfl, o3, o4⟩ := At_five ht0
  obtain ⟨k, hk⟩ : ∃ k, k = pd.kind := ⟨_, rfl⟩
  obtain ⟨t, ht⟩ : ∃ k, k = pd.text := ⟨_, rfl⟩
  obtain ⟨p, hp⟩ : ∃ k, k = pd.place := ⟨_, rfl⟩
  obtain ⟨k2, hk2⟩ : ∃ k, k = td.kind := ⟨_, rfl⟩
  obtain ⟨t2, ht2⟩ : ∃ k, k = td.text := ⟨_, rfl⟩
  obtain ⟨p2, hp2⟩ : ∃ k, k = td.place := ⟨_, rfl⟩
  rw [← hk] at HCK
  rw [← hk, ← ht, ← hp] at hpa ⊢
  rw [← hk2, ← ht2, ← hp2] at hta ⊢
  have hb0 : Below w.heap.size w ((w.alloc (.cells #[.int .i64 k, .string t, mv, lv, .int .i64 p] 29)).alloc (.cells #[.int .i64 k2, .string t2, mv2, lv2, .int .i64 p2] 29)) := ((Below.refl _ _).alloc (Nat.le_refl _) _).alloc (by simp) _
  have hxs : ((w.alloc (.cells #[.int .i64 k, .string t, mv, lv, .int .i64 p] 29)).alloc (.cells #[.int .i64 k2, .string t2, mv2, lv2, .int .i64 p2] 29)).heap.size = w.heap.size + 1 + 1 := by simp
  have hx1 : ((w.alloc (.cells #[.int .i64 k, .string t, mv, lv, .int .i64 p] 29)).alloc (.cells #[.int .i64 k2, .string t2, mv2, lv2, .int .i64 p2] 29)).heap[w.heap.size]? = some (.cells #[.int .i64 k, .string t, mv, lv, .int .i64 p] 29 (0, 0)) := (Lib.alloc_old _ _ _ (by simp)).trans (alloc_at w _)
  have hx2 : ((w.alloc (.cells #[.int .i64 k, .string t, mv, lv, .int .i64 p] 29)).alloc (.cells #[.int .i64 k2, .string t2, mv2, lv2, .int .i64 p2] 29)).heap[w.heap.size + 1]? = some (.cells #[.int .i64 k2, .string t2, mv2, lv2, .int .i64 p2] 29 (0, 0)) := second_at w _ _
  obtain ⟨X, hX⟩ : ∃ X, X = (w.alloc (.cells #[.int .i64 k, .string t, mv, lv, .int .i64 p] 29)).alloc (.cells #[.int .i64 k2, .string t2, mv2, lv2, .int .i64 p2] 29) := ⟨_, rfl⟩
  rw [← hX] at hb0 hxs hx1 hx2
  have HXE := Lib.hid hX
  have HB0 := Lib.hid hb0
  have HX1 : Hid (∀ W, Below X.heap.size X W → W.heap[w.heap.size]? = some (.cells #[.int .i64 k, .string t, mv, lv, .int .i64 p] 29 (0, 0))) := fun W hW => by rw [hW.block _ (by omega)]; exact hx1
  have HX2 : Hid (∀ W, Below X.heap.size X W → W.heap[w.heap.size + 1]? = some (.cells #[.int .i64 k2, .string t2, mv2, lv2, .int .i64 p2] 29 (0, 0))) := fun W hW => by rw [hW.block _ (by omega)]; exact hx2
  have HXS := Lib.hid hxs
  have FP : Hid (∀ W, Below X.heap.size X W → Calls Try.prog 48 #[v, .agg #[.int .i64 k, .string t, mv, lv, .int .i64 p]] W (RetBool pd.pat W)) := fun W hW => refpat_any 1000000 (by decide) pd hps _ _ ls v W (Dt.At.keeps (keeps_low ((hb0.trans (hW.mono (by omega))).mono hB)) _ _ hpa) (hv.below (hb0.trans (hW.mono (by omega)))) hls
  have FV : Hid (∀ W, Below X.heap.size X W → Calls Try.prog 49 #[v, .agg #[.int .i64 k, .string t, mv, lv, .int .i64 p], .int .i64 0, .slice none 0 0] W (RetVs B W (.slice none 0 0) ns)) := fun W hW => by
    have h1 := hb0.trans (hW.mono (by omega))
    have := refvars_any 1000000 (by decide) pd hps B _ ls v 0 (.slice none 0 0) [] W (by have := h1.size; omega) (Dt.At.keeps (keeps_low (h1.mono hB)) _ _ hpa) (hv.below h1) hvB hls (OwnN.nil _ _) (by simp; omega) (by omega) (by omega)
    rw [List.nil_append, ← hns] at this
    exact this
  have FT : Hid (∀ W u, Below X.heap.size X W → NsAt B W u ns → Calls Try.prog 51 #[u, .agg #[.int .i64 k2, .string t2, mv2, lv2, .int .i64 p2], .int .i64 0] W (RetBool (td.tmpl ns 0) W)) := fun W u hW hu => tmpl_any 1000000 (by decide) td hts B _ ns u 0 W (by have := (hb0.trans (hW.mono (by omega))).size; omega) (Dt.At.keeps (keeps_low ((hb0.trans (hW.mono (by omega))).mono hB)) _ _ hta) hu (by omega) hnz (by omega) (by omega)
  have HNZ := Lib.hid hnz
  obtain ⟨vo, vc, rfl⟩ := hv.form
  clear hb0 hx1 hx2 hX hpa hta hk ht hp hk2 ht2 hp2 hns hv hvB hnz hp0 ht0 hxs
  have HXr := Lib.hid (Below.refl X.heap.size X)
  have hxz : X.heap.size = w.heap.size + 1 + 1 := HXS.out
  cases h4 : (k == 4) with
  | false =>
    have HE : Hid (chk ls pd td = 7) := by show _ = _; rw [HCK.out, h4]; rfl
    have h4b : (k != 4) = true := by simp [bne, h4]
    go_enter Try.func22, Try.ntmps22
    go_upto_region 1 with fail
    rw [← HXE.out]
    have c0 : X.cell? ⟨w.heap.size, 0, none⟩ = some (.int .i64 k) := by rw [Lib.cell_of_heap (HX1.out X HXr.out)]; rfl
    go_wp2_with fail
    go_ret
    exact ⟨by rw [HE.out]; rfl, HB0.out⟩
  | true =>
    have h4b : (k != 4) = false := by simp [bne, h4]
    obtain ⟨bp, hbp⟩ : ∃ b, b = pd.pat := ⟨_, rfl⟩
    rw [← hbp] at FP HCK
    have H4 := Lib.hid h4
    clear hbp h4
    go_enter Try.func22, Try.ntmps22
    go_upto_region 1 with fail
    rw [← HXE.out]
    have c0 : X.cell? ⟨w.heap.size, 0, none⟩ = some (.int .i64 k) := by rw [Lib.cell_of_heap (HX1.out X HXr.out)]; rfl
    have c1 : X.cell? ⟨w.heap.size, 1, none⟩ = some (.string t) := by rw [Lib.cell_of_heap (HX1.out X HXr.out)]; rfl
    have c2 : X.cell? ⟨w.heap.size, 2, none⟩ = some mv := by rw [Lib.cell_of_heap (HX1.out X HXr.out)]; rfl
    have c3 : X.cell? ⟨w.heap.size, 3, none⟩ = some lv := by rw [Lib.cell_of_heap (HX1.out X HXr.out)]; rfl
    have c4 : X.cell? ⟨w.heap.size, 4, none⟩ = some (.int .i64 p) := by rw [Lib.cell_of_heap (HX1.out X HXr.out)]; rfl
    go_wp2_with fail
    refine (FP.out X HXr.out).mono ?_
    rintro e w1 ⟨rfl, hb1⟩
    have HW1 := Lib.hid hb1
    clear hb1 c0 c1 c2 c3 c4 h4b
    cases bp with
    | false =>
      have HE : Hid (chk ls pd td = 7) := by show _ = _; rw [HCK.out, H4.out]; rfl
      go_wp2_with fail
      go_ret
      exact ⟨by rw [HE.out]; rfl, HB0.out.trans (HW1.out.mono HB0.out.size)⟩
    | true =>
      have HC2 : Hid (chk ls pd td = if dup ns = true then 9 else if td.tmpl ns 0 = true then 0 else 7) := by show _ = _; rw [HCK.out, H4.out]; rfl
      have hx1 := HX1.out w1 HW1.out
      go_wp2_with (refine wpList_load_row rfl 29 _ rfl w.heap.size rfl 29 #[.int .i64 k, .string t, mv, lv, .int .i64 p] (0, 0) _ hx1 Try.underlying29 rfl info40 ?_)
      refine (FV.out w1 HW1.out).mono ?_
      rintro e w2 ⟨nv, rfl, hown, hgr⟩
      have HW2 := Lib.hid (HW1.out.trans ((grw_nil hgr).mono HW1.out.size))
      have HN := Lib.hid hown.nsat
      obtain ⟨no, nc, rfl⟩ := hown.form
      have hcap := hown.cap
      clear hgr hown hx1
      go_wp2_with fail
      go_loopw [8] (fun iv wr => CkInv ns w2 iv wr) (fun iv _ => ns.length - (intOf iv).toNat)
      case atStart => exact ⟨0, Nat.zero_le _, rfl, fun i hi => absurd hi (by omega), Below.refl _ _⟩
      case round =>
        obtain ⟨j, hj, rfl, hno, hbw⟩ := hrel
        have HBW := Lib.hid hbw
        have HNO := Lib.hid hno
        have hsw := hbw.size
        have hsx := HW2.out.size
        have HNw := Lib.hid (HN.out.below hbw (by omega))
        have HWr := Lib.hid (HW2.out.trans (hbw.mono HW2.out.size))
        clear hbw hno
        by_cases hlt : j < ns.length
        · have q1 : decide ((j : Int) < (ns.length : Int)) = true := decide_eq_true (by omega)
          obtain ⟨g, o, k5, t5, mv5, lv5, p5, rfl, hat, o5, o6, hJ⟩ := ns_cells HNw.out j hlt
          have HC := Lib.hid hJ
          have FF := Lib.hid (find_any B (ns.take j) _ ns[j].1 _ wr.drew (by show B ≤ wr.heap.size; omega) ((HNw.out.take j (by omega)).below ((Below.refl _ _).drew) (by omega)) (by rw [List.length_take]; omega) (fun x hx => HNZ.out x (List.mem_of_mem_take hx)) (Dt.At.keeps (Keeps.of_below (Below.refl _ _).drew) _ _ hat))
          have HDA := Lib.hid (dupAt_is j hlt)
          obtain ⟨fv, hfv⟩ : ∃ f, f = fnd (ns.take j) ns[j].1 := ⟨_, rfl⟩
          rw [← hfv] at FF HDA
          have hjl : j ≤ ns.length := by omega
          clear hat hJ hfv
          go_upto_region 7 with fail
          clear q1
          refine wp_region_noPanic ?_
          refine wp_region_held_drew (S := Below wr.heap.size wr) (by kernel_rfl) ((Below.refl _ _).drew) (fun hHeld => ?_)
          generalize wr.drew = X2 at FF hHeld ⊢
          have hx2s := hHeld.size
          by_cases hge : 0 ≤ fv
          · have q2 : decide (0 ≤ fv) = true := decide_eq_true hge
            have HE : Hid (chk ls pd td = 9) := by show _ = _; rw [HC2.out, if_pos (dup_yes j hlt (by rw [HDA.out]; exact q2))]
            clear hge
            refine qtk (i := 0) (v := ?v0) rfl rfl (fun w' hw' => ?h0) hHeld ?r0
            case h0 => go_simp; try with_reducible rfl
            simp only [zt,zs,zz,Act.put,zi,zy,zx]
            refine qtk (i := 1) (v := ?v1) rfl rfl (fun w' hw' => ?h1) hHeld ?r1
            case h1 => go_simp; try with_reducible rfl
            simp only [zt,zs,zz,Act.put,zi,zy,zx]
            refine qtk (i := 2) (v := Value.slice (some ⟨g, o, none⟩) j nc) rfl rfl (fun w' hw' => ?_) hHeld ?_
            · go_simp; intro hq; omega
            simp only [zt,zs,zz,Act.put,zi,zy,zx]
            refine qtk (i := 3) (v := ?v3) rfl rfl (fun w' hw' => ?h3) hHeld ?r3
            case h3 => go_simp; try with_reducible rfl
            simp only [zt,zs,zz,Act.put,zi,zy,zx]
            refine qtk (i := 4) (v := ?v4) rfl rfl (fun w' hw' => ?h4) hHeld ?r4
            case h4 => go_simp; try with_reducible rfl
            simp only [zt,zs,zz,Act.put,zi,zy,zx]
            refine qtk (i := 5) (v := Value.pointer (some ⟨g, o + j * 6, none⟩)) rfl rfl (fun w' hw' => ?_) hHeld ?_
            · go_simp; try omega
            simp only [zt,zs,zz,Act.put,zi,zy,zx]
            refine qtk (i := 6) (v := ?v6) rfl rfl (fun w' hw' => ?h6) hHeld ?r6
            case h6 => go_simp; try with_reducible rfl
            simp only [zt,zs,zz,Act.put,zi,zy,zx]
            refine qtk (i := 7) (v := Value.agg #[.int .i64 k5, .string t5, mv5, lv5, .int .i64 p5]) rfl rfl (fun w' hw' => ?_) hHeld ?_
            · (obtain ⟨d0, d1, d2, d3, d4⟩ := HC.out w' hw'; go_simp)
            simp only [zt,zs,zz,Act.put,zi,zy,zx]
            refine wpAnyH_ready (rs := [8]) (by kernel_rfl) (by simp) ?_
            refine (AllReadyH.cons rfl (fun K hK => ?_) AllReadyH.nil)
            go_simp
            refine FF.out.mono ?_
            rintro e w7 ⟨rfl, hb⟩
            have hS7 : Below wr.heap.size wr w7 := hHeld.trans (hb.mono (by omega))
            have HS7 := Lib.hid hS7
            refine hK.out _ _ hS7 (fun hHeld => ?_)
            clear hb hS7
            clear hK K
            try simp only [zt,zs,zz,Act.put,zi,zy,zx]
            refine qtk (i := 9) (v := Value.bool true) rfl rfl (fun w' hw' => ?_) hHeld ?_
            · go_simp
            simp only [zt,zs,zz,Act.put,zi,zy,zx]
            refine wpAnyH_done (by kernel_rfl) ?_ _
            refine NoPanic.normal ?_
            clear hHeld
            go_wp2_with fail
            go_ret
            exact ⟨by rw [HE.out]; rfl, HB0.out.trans ((HWr.out.trans (HS7.out.mono HWr.out.size)).mono HB0.out.size)⟩
          · have q2 : decide (0 ≤ fv) = false := decide_eq_false hge
            have HE : Hid (dupAt ns j = false) := by show _ = _; rw [HDA.out]; exact q2
            clear hge
            refine qtk (i := 0) (v := ?v9) rfl rfl (fun w' hw' => ?h9) hHeld ?r9
            case h9 => go_simp; try with_reducible rfl
            simp only [zt,zs,zz,Act.put,zi,zy,zx]
            refine qtk (i := 1) (v := ?v10) rfl rfl (fun w' hw' => ?h10) hHeld ?r10
            case h10 => go_simp; try with_reducible rfl
            simp only [zt,zs,zz,Act.put,zi,zy,zx]
            refine qtk (i := 2) (v := Value.slice (some ⟨g, o, none⟩) j nc) rfl rfl (fun w' hw' => ?_) hHeld ?_
            · go_simp; intro hq; omega
            simp only [zt,zs,zz,Act.put,zi,zy,zx]
            refine qtk (i := 3) (v := ?v12) rfl rfl (fun w' hw' => ?h12) hHeld ?r12
            case h12 => go_simp; try with_reducible rfl
            simp only [zt,zs,zz,Act.put,zi,zy,zx]
            refine qtk (i := 4) (v := ?v13) rfl rfl (fun w' hw' => ?h13) hHeld ?r13
            case h13 => go_simp; try with_reducible rfl
            simp only [zt,zs,zz,Act.put,zi,zy,zx]
            refine qtk (i := 5) (v := Value.pointer (some ⟨g, o + j * 6, none⟩)) rfl rfl (fun w' hw' => ?_) hHeld ?_
            · go_simp; try omega
            simp only [zt,zs,zz,Act.put,zi,zy,zx]
            refine qtk (i := 6) (v := ?v15) rfl rfl (fun w' hw' => ?h15) hHeld ?r15
            case h15 => go_simp; try with_reducible rfl
            simp only [zt,zs,zz,Act.put,zi,zy,zx]
            refine qtk (i := 7) (v := Value.agg #[.int .i64 k5, .string t5, mv5, lv5, .int .i64 p5]) rfl rfl (fun w' hw' => ?_) hHeld ?_
            · (obtain ⟨d0, d1, d2, d3, d4⟩ := HC.out w' hw'; go_simp)
            simp only [zt,zs,zz,Act.put,zi,zy,zx]
            refine wpAnyH_ready (rs := [8]) (by kernel_rfl) (by simp) ?_
            refine (AllReadyH.cons rfl (fun K hK => ?_) AllReadyH.nil)
            go_simp
            refine FF.out.mono ?_
            rintro e w7 ⟨rfl, hb⟩
            have hS7 : Below wr.heap.size wr w7 := hHeld.trans (hb.mono (by omega))
            have HS7 := Lib.hid hS7
            refine hK.out _ _ hS7 (fun hHeld => ?_)
            clear hb hS7
            clear hK K
            try simp only [zt,zs,zz,Act.put,zi,zy,zx]
            refine qtk (i := 9) (v := Value.bool false) rfl rfl (fun w' hw' => ?_) hHeld ?_
            · go_simp
            simp only [zt,zs,zz,Act.put,zi,zy,zx]
            refine wpAnyH_done (by kernel_rfl) ?_ _
            refine NoPanic.normal ?_
            clear hHeld
            have HN2 := Lib.hid (HBW.out.trans (HS7.out.mono HBW.out.size))
            go_wp2_with fail
            go_roundw
            case rel => exact ⟨j + 1, by omega, by go_num, fun i hi => (if e : i = j then (by rw [e]; exact HE.out) else HNO.out i (by omega)), HN2.out⟩
            case measure => simp [intOf]; omega
        · obtain rfl : j = ns.length := by omega
          have q1 : decide ((ns.length : Int) < (ns.length : Int)) = false := decide_eq_false (by omega)
          have hx2 := HX2.out wr HWr.out
          obtain ⟨bt, hbt⟩ : ∃ b, b = td.tmpl ns 0 := ⟨_, rfl⟩
          have HD : Hid (chk ls pd td = if bt = true then 0 else 7) := by show _ = _; rw [HC2.out, if_neg (by rw [dup_no HNO.out]; decide), hbt]
          rw [← hbt] at FT
          clear hbt
          go_wp2_with (refine wpList_load_row rfl 29 _ rfl (w.heap.size + 1) rfl 29 #[.int .i64 k2, .string t2, mv2, lv2, .int .i64 p2] (0, 0) _ hx2 Try.underlying29 rfl info40 ?_)
          refine (FT.out wr _ HWr.out HNw.out).mono ?_
          rintro e w4 ⟨rfl, hb4⟩
          have HW4 := Lib.hid (HB0.out.trans ((HWr.out.trans (hb4.mono HWr.out.size)).mono HB0.out.size))
          clear hb4 hx2
          cases bt with
          | true =>
            have HE : Hid (chk ls pd td = 0) := by show _ = _; rw [HD.out, if_pos rfl]
            go_wp2_with fail
            go_ret
            exact ⟨by rw [HE.out]; rfl, HW4.out⟩
          | false =>
            have HE : Hid (chk ls pd td = 7) := by show _ = _; rw [HD.out, if_neg (by decide)]
            go_wp2_with fail
            go_ret
            exact ⟨by rw [HE.out]; rfl, HW4.out⟩
end Go.Proofs.Ythhaegncnoekbaa
namespace Go.Proofs.Ythhaegncnoekbaa
open Go Go.RowKit
/-- Rows of variables: symbols, no dots, depths from 0 on. -/
def VOk (ns : List (Dt × Int)) : Prop := ∀ x ∈ ns, x.1.kind = 3 ∧ x.1.dots = false ∧ 0 ≤ x.2
theorem isVar_ok {ls : List ByteArray} {d : Dt} (h : isVar ls d = true) : d.kind = 3 ∧ d.dots = false := by
  unfold isVar at h
  simp only [Bool.and_eq_true, beq_iff_eq, Bool.not_eq_true'] at h
  exact ⟨h.1.1.1, h.2⟩
mutual
theorem vars_ok (ls : List ByteArray) : ∀ (d : Dt) (n : Int), 0 ≤ n → VOk (d.vars (isVar ls) n)
  | .mk k t ms l p, n, hn => by
    rw [vars_mk]
    split
    · rename_i h
      intro x hx
      rw [List.mem_singleton] at hx
      subst hx
      exact ⟨(isVar_ok h).1, (isVar_ok h).2, hn⟩
    · exact varss_ok ls l n hn
theorem varss_ok (ls : List ByteArray) : ∀ (l : List Dt) (n : Int), 0 ≤ n → VOk (varss (isVar ls) l n)
  | [], n, _ => by intro x hx; rw [varss] at hx; cases hx
  | d :: r, n, hn => by
    rw [varss_cons]
    intro x hx
    rcases List.mem_append.1 hx with h | h
    · exact vars_ok ls d _ (by split <;> omega) x h
    · exact varss_ok ls r n hn x h
end
theorem same_dots {d e : Dt} (h : d.same e = true) : d.dots = e.dots := by
  obtain ⟨h1, h2, _⟩ := same_texts h
  unfold Dt.dots Dt.isS; rw [h1, h2]
/-- What find tells, and where the first such variable stands. -/
theorem fpos_cons (x : Dt × Int) (r : List (Dt × Int)) (d : Dt) : fpos ((x :: r).map vB) d = if x.1.same d = true then some 0 else (fpos (r.map vB) d).map (· + 1) := by
  unfold fpos
  rw [List.map_cons, List.findIdx?_cons]
  have e : (vB x).name = x.1 := rfl
  rw [e]
theorem fnd1_fpos : ∀ (ns : List (Dt × Int)) (d : Dt), VOk ns → (∀ i, fpos (ns.map vB) d = some i → ∃ x, (ns.map vB)[i]? = some (vB x) ∧ x ∈ ns ∧ x.1.same d = true ∧ fnd1 ns d = x.2) ∧ (fpos (ns.map vB) d = none → fnd1 ns d = -1)
  | [], d, _ => ⟨fun i h => by simp [fpos] at h, fun _ => rfl⟩
  | x :: r, d, hv => by
    obtain ⟨i1, i2⟩ := fnd1_fpos r d (fun y hy => hv y (List.mem_cons_of_mem _ hy))
    rw [fpos_cons]
    cases hs : x.1.same d with
    | true =>
      rw [if_pos rfl]
      refine ⟨fun i h => ?_, fun h => by cases h⟩
      injection h with h; subst h
      exact ⟨x, rfl, List.mem_cons_self, hs, by rw [fnd1, if_pos hs]⟩
    | false =>
      rw [if_neg (by decide)]
      have hf : fnd1 (x :: r) d = fnd1 r d := by rw [fnd1, if_neg (by rw [hs]; decide)]
      refine ⟨fun i h => ?_, fun h => ?_⟩
      · cases hr : fpos (r.map vB) d with
        | none => rw [hr] at h; cases h
        | some j =>
          rw [hr] at h
          injection h with h
          obtain ⟨y, h1, h2, h3, h4⟩ := i1 j hr
          have h : j + 1 = i := h
          subst h
          exact ⟨y, by rw [List.map_cons, List.getElem?_cons_succ]; exact h1, List.mem_cons_of_mem _ h2, h3, by rw [hf]; exact h4⟩
      · cases hr : fpos (r.map vB) d with
        | none => rw [hf]; exact i2 hr
        | some j => rw [hr] at h; cases h
theorem fnd_some {ns : List (Dt × Int)} {d : Dt} {i : Nat} (hv : VOk ns) (h : fpos (ns.map vB) d = some i) : (((ns.map vB)[i]?).getD bNone).deep = fnd ns d ∧ 0 ≤ fnd ns d ∧ d.dots = false ∧ d.kind = 3 := by
  obtain ⟨x, h1, h2, h3, h4⟩ := (fnd1_fpos ns d hv).1 i h
  obtain ⟨k1, k2, k3⟩ := hv x h2
  have hk : d.kind = 3 := by rw [← (same_texts h3).1]; exact k1
  have hf : fnd ns d = x.2 := by unfold fnd; rw [if_pos (by rw [hk]; rfl)]; exact h4
  rw [h1, hf, Option.getD_some]
  exact ⟨rfl, k3, by rw [← same_dots h3]; exact k2, hk⟩
theorem fnd_none {ns : List (Dt × Int)} {d : Dt} (hv : VOk ns) (h : fpos (ns.map vB) d = none) : fnd ns d = -1 := by
  unfold fnd
  split
  · exact (fnd1_fpos ns d hv).2 h
  · rfl
theorem dots_kind {d : Dt} (h : d.dots = true) : d.kind = 3 := by
  unfold Dt.dots Dt.isS at h
  simp only [Bool.and_eq_true, beq_iff_eq] at h
  exact h.1
theorem hasv_dots {ns : List (Dt × Int)} {d : Dt} (hv : VOk ns) (hw : d.wf) (h : d.dots = true) (k : Int) (hk : 1 ≤ k) : d.hasv ns k = false := by
  have hf : fpos (ns.map vB) d = none := by
    cases e : fpos (ns.map vB) d with
    | none => rfl
    | some i => have := (fnd_some hv e).2.2.1; rw [h] at this; cases this
  have hk3 := dots_kind h
  have hp := hw.leaf (by rw [hk3]; decide)
  have h9 := fnd_none hv hf
  obtain ⟨kd, t, ms, l, p⟩ := d
  have hl : l = [] := hp
  subst hl
  rw [hasv_mk, hasvs, h9]
  simp; omega
theorem tmpls_dots {ns : List (Dt × Int)} {d : Dt} {r : List Dt} {n : Int} {f b : Bool} (h : d.dots = true) : tmpls ns (d :: r) n f b = (!(f || b) && tmpls ns r n false true) := by
  rw [tmpls_cons, if_pos h]; cases f <;> cases b <;> simp
mutual
theorem dpst_is (ns : List (Dt × Int)) (hv : VOk ns) : ∀ (d : Dt) (n : Int), 0 ≤ n → d.wf → (d.dpst (ns.map vB) n).isSome = d.tmpl ns n ∧ ∀ q, d.dpst (ns.map vB) n = some q → 0 ≤ q ∧ ∀ k, 1 ≤ k → decide (k ≤ q) = d.hasv ns k
  | .mk kd t ms l p, n, hn, hw => by
    rw [dpst_mk, tmpl_mk]
    cases hp : fpos (ns.map vB) (.mk kd t ms l p) with
    | some i =>
      obtain ⟨h1, h2, h3, h4⟩ := fnd_some hv hp
      have hl : l = [] := hw.leaf (by rw [h4]; decide)
      subst hl
      simp only [h1, h3]
      have ht : tmpls ns [] n true false = true := by rw [tmpls]
      rw [ht]
      generalize hF : fnd ns (.mk kd t ms [] p) = F at h2
      refine ⟨?_, fun q hq => ?_⟩
      · by_cases hc : F = 0 ∨ F = n
        · rw [if_pos hc]
          rcases hc with hc | hc
          · subst hc; simp
          · subst hc; simp
        · rw [if_neg hc]
          have h5 : 0 < F := by omega
          have h6 : F ≠ n := fun h => hc (.inr h)
          simp [h5, h6]
      · split at hq
        · injection hq with hq
          subst hq
          refine ⟨h2, fun k hk => ?_⟩
          rw [hasv_mk, hasvs, hF]; simp
        · cases hq
    | none =>
      have h1 := fnd_none hv hp
      simp only [h1]
      cases hd : (Dt.mk kd t ms l p).dots with
      | true => simp
      | false =>
        have hh : ∀ k, 1 ≤ k → (Dt.mk kd t ms l p).hasv ns k = hasvs ns l k := fun k hk => by
          rw [hasv_mk, h1]
          simp; omega
        obtain ⟨i1, i2⟩ := dpsts_is ns hv l n hn hw.parts true false 0
        by_cases hk : kd = 4
        · cases hs : strays l true with
          | true => 
            rw [if_pos (.inr ⟨hk, rfl⟩)]
            rw [i1]
            simp [hs]
          | false =>
            rw [if_neg (by rintro (h | ⟨_, h⟩) <;> cases h)]
            rw [i1]
            refine ⟨by simp [hs], fun q hq => ?_⟩
            obtain ⟨j1, j2⟩ := i2 q hq
            exact ⟨j1, fun k hk => by rw [hh k hk, j2 k hk, decide_eq_false (by omega), Bool.false_or]⟩
        · have hl : l = [] := hw.leaf hk
          subst hl
          rw [if_neg (by rintro (h | ⟨h, _⟩); exact absurd h (by decide); exact hk h)]
          refine ⟨by simp [dpsts, tmpls], fun q hq => ?_⟩
          rw [dpsts] at hq
          injection hq with hq; subst hq
          exact ⟨Int.le_refl _, fun k hk => by rw [hh k hk, hasvs]; simp; omega⟩
theorem dpsts_is (ns : List (Dt × Int)) (hv : VOk ns) : ∀ (l : List Dt) (n : Int), 0 ≤ n → wfs l → ∀ (f b : Bool) (m : Int), (tmpls ns l n f b = (!strays l (f || b) && (dpsts (ns.map vB) l n m).isSome)) ∧ ∀ q, dpsts (ns.map vB) l n m = some q → m ≤ q ∧ ∀ k, 1 ≤ k → decide (k ≤ q) = (decide (k ≤ m) || hasvs ns l k)
  | [], n, hn, _, f, b, m => by
    refine ⟨by simp [tmpls, strays, dpsts], fun q hq => ?_⟩
    rw [dpsts] at hq
    injection hq with hq; subst hq
    exact ⟨Int.le_refl _, fun k hk => by simp [hasvs]⟩
  | d :: r, n, hn, hw, f, b, m => by
    rw [dpsts_cons, strays_cons]
    cases hd : d.dots with
    | true =>
      rw [tmpls_dots hd, if_pos rfl, if_pos rfl]
      obtain ⟨i1, i2⟩ := dpsts_is ns hv r n hn hw.2 false true m
      refine ⟨?_, fun q hq => ?_⟩
      · cases hfb : (f || b) with
        | true => simp
        | false => simpa using i1
      · obtain ⟨j1, j2⟩ := i2 q hq
        exact ⟨j1, fun k hk => by rw [j2 k hk, hasvs_cons, hasv_dots hv hw.1 hd k hk, Bool.false_or]⟩
    | false =>
      rw [tmpls_cons, hd]
      simp only [Bool.false_eq_true, if_false]
      obtain ⟨d1, d2⟩ := dpst_is ns hv d (if nxtDots r = true then n + 1 else n) (by split <;> omega) hw.1
      rw [← d1]
      cases hq0 : d.dpst (ns.map vB) (if nxtDots r = true then n + 1 else n) with
      | none => simp
      | some q0 =>
        obtain ⟨e1, e2⟩ := d2 q0 hq0
        obtain ⟨i1, i2⟩ := dpsts_is ns hv r n hn hw.2 false false (max m q0)
        have e3 := e2 (n + 1) (by omega)
        cases hx : nxtDots r with
        | false =>
          simp only [Bool.false_eq_true, false_and, if_false, ↓reduceIte]
          refine ⟨by rw [i1]; simp, fun q hq => ?_⟩
          obtain ⟨j1, j2⟩ := i2 q hq
          refine ⟨by omega, fun k hk => ?_⟩
          rw [j2 k hk, hasvs_cons, ← e2 k hk, ← Bool.or_assoc]
          congr 1
          rw [← Bool.decide_or]
          exact decide_eq_decide.2 (by omega)
        | true =>
          simp only [true_and, ↓reduceIte, ← e3]
          by_cases hlt : q0 < n + 1
          · rw [if_pos hlt]
            refine ⟨?_, fun q hq => by cases hq⟩
            rw [decide_eq_false (by omega)]
            simp
          · rw [if_neg hlt, decide_eq_true (by omega)]
            refine ⟨by rw [i1]; simp, fun q hq => ?_⟩
            obtain ⟨j1, j2⟩ := i2 q hq
            refine ⟨by omega, fun k hk => ?_⟩
            rw [j2 k hk, hasvs_cons, ← e2 k hk, ← Bool.or_assoc]
            congr 1
            rw [← Bool.decide_or]
            exact decide_eq_decide.2 (by omega)
end
theorem fnd1_neg {ns : List (Dt × Int)} (hv : VOk ns) (d : Dt) : decide (0 ≤ fnd1 ns d) = ns.any fun x => x.1.same d := by
  induction ns with
  | nil => rfl
  | cons x r ih =>
    rw [fnd1, List.any_cons]
    cases hs : x.1.same d with
    | true => rw [if_pos rfl, decide_eq_true (hv x List.mem_cons_self).2.2]; rfl
    | false => rw [if_neg (by decide), ih (fun y hy => hv y (List.mem_cons_of_mem _ hy))]; rfl
theorem dup_is (ns : List (Dt × Int)) (hv : VOk ns) : dup ns = twcB (ns.map vB) := by
  have key : ∀ i (hi : i < ns.length), dupAt ns i = !((fpos (ns.map vB) ns[i].1).getD 0 == i) := by
    intro i hi
    rw [dupAt_is i hi]
    have hk := (hv ns[i] (List.getElem_mem hi)).1
    unfold fnd
    rw [if_pos (by rw [hk]; rfl), fnd1_neg (fun y hy => hv y (List.mem_of_mem_take hy))]
    have hself : (vB ns[i]).name.same ns[i].1 = true := same_refl _
    cases hp : fpos (ns.map vB) ns[i].1 with
    | none =>
      unfold fpos at hp
      have := List.findIdx?_eq_none_iff.1 hp (vB ns[i]) (List.mem_map_of_mem (List.getElem_mem hi))
      rw [hself] at this; cases this
    | some j =>
      obtain ⟨hj, h1, h2⟩ := List.findIdx?_eq_some_iff_getElem.1 hp
      rw [Option.getD_some]
      have hji : j ≤ i := by
        rcases Nat.lt_or_ge i j with h | h
        · have h3 := h2 i h
          rw [List.getElem_map] at h3
          exact absurd hself h3
        · exact h
      have hjn : j < ns.length := by omega
      have h1' : ns[j].1.same ns[i].1 = true := by rw [List.getElem_map] at h1; exact h1
      by_cases hlt : j < i
      · rw [List.any_eq_true.2 ⟨ns[j], by rw [List.mem_take_iff_getElem]; exact ⟨j, by omega, rfl⟩, h1'⟩]
        simp; omega
      · obtain rfl : j = i := by omega
        rw [List.any_eq_false.2]
        · simp
        · intro x hx
          obtain ⟨m, hm, rfl⟩ := List.mem_take_iff_getElem.1 hx
          have h3 := h2 m (by omega)
          rw [List.getElem_map] at h3
          exact h3
  unfold dup twcB
  rw [Bool.eq_iff_iff, List.any_eq_true, Bool.not_eq_true', List.all_eq_false]
  constructor
  · rintro ⟨i, hi, h⟩
    have hi' := List.mem_range.1 hi
    refine ⟨i, by rw [List.length_map]; exact hi, ?_⟩
    rw [key i hi'] at h
    rw [List.getElem?_map, List.getElem?_eq_getElem hi', Option.map_some, Option.getD_some, show (vB ns[i]).name = ns[i].1 from rfl]
    simpa using h
  · rintro ⟨i, hi, h⟩
    have hi' : i < ns.length := by rw [List.length_map] at hi; exact List.mem_range.1 hi
    refine ⟨i, List.mem_range.2 hi', ?_⟩
    rw [key i hi']
    rw [List.getElem?_map, List.getElem?_eq_getElem hi', Option.map_some, Option.getD_some, show (vB ns[i]).name = ns[i].1 from rfl] at h
    simpa using h
/-- The program's Check is the document's. -/
theorem chk_is (ls : List ByteArray) (p t : Dt) (ht : t.wf) : chkD ls p t = chk ls p t := by
  obtain ⟨k, tx, ms, l, pl⟩ := p
  unfold chk
  rw [chkD]
  have hv := vars_ok ls (.mk k tx ms l pl) 0 (Int.le_refl _)
  have hk0 : (Dt.mk k tx ms l pl).kind = k := rfl
  rw [hk0]
  by_cases hk : k = 4
  · subst hk
    have hnd : (Dt.mk 4 tx ms l pl).dots = false := by
      cases h : (Dt.mk 4 tx ms l pl).dots with
      | false => rfl
      | true => have := dots_kind h; cases this
    rw [pat_mk, hnd]
    cases hp : pats l true false with
    | false => simp
    | true =>
      rw [if_neg (show ¬ ((4 : Int) ≠ 4 ∨ true = false) by simp), if_neg (show ¬ ((!((4 : Int) == 4) || !(!false && true)) = true) by simp)]
      unfold tabB
      rw [dup_is _ hv, (dpst_is _ hv t 0 (Int.le_refl _) ht).1]
      cases twcB (((Dt.mk 4 tx ms l pl).vars (isVar ls) 0).map vB) with
      | true => simp
      | false =>
        cases t.tmpl ((Dt.mk 4 tx ms l pl).vars (isVar ls) 0) 0 <;> simp
  · rw [if_pos (.inl hk), if_pos (by simp [hk])]
end Go.Proofs.Ythhaegncnoekbaa
namespace Go.Proofs.Ythhaegncnoekbaa
open Go Go.RowKit
theorem eq_nil27 (a : Addr) (n c : Nat) (w : World) : (binOp .eql 27 (.slice (some a) n c) (.slice none 0 0)).run Try.prog w = .ok (.bool false) w := by kernel_rfl
theorem nil_nil27 (w : World) : (binOp .eql 27 (.slice none 0 0) (.slice none 0 0)).run Try.prog w = .ok (.bool true) w := by kernel_rfl
theorem eq_nil25 (a : Addr) (n c : Nat) (w : World) : (binOp .eql 25 (.slice (some a) n c) (.slice none 0 0)).run Try.prog w = .ok (.bool false) w := by kernel_rfl
theorem nil_nil25 (w : World) : (binOp .eql 25 (.slice none 0 0) (.slice none 0 0)).run Try.prog w = .ok (.bool true) w := by kernel_rfl
/-- A row of data that the call owns; what these lead to are some of S. -/
def OwnDI (S : Nat → Prop) (B : Nat) (w : World) (v : Value) (ds : List Dt) : Prop :=
  ∃ xs, w.ownsRow B 29 5 v ds.length xs ∧ ∀ j (h : j < ds.length), ∃ cs : Array Value, cs.size = 5 ∧ (∀ i, i < 5 → xs[5 * j + i]? = cs[i]?) ∧ Dt.At S w ds[j] cs
theorem cells_of_rowD {S : Nat → Prop} {w : World} {l : List Dt} {g o : Nat} {arr : Array Value} {fz : Nat × Nat} (hg : w.heap[g]? = some (.cells arr 29 fz)) (h : Dts.At S w l arr o) :
    ∃ xs : List Value, xs.length = l.length * 5 ∧ (∀ u ∈ xs, u.oneCell' = true) ∧ (∀ j u, xs[j]? = some u → w.cell? ⟨g, o + j, none⟩ = some u) ∧ ∀ j (hj : j < l.length), ∃ cs : Array Value, cs.size = 5 ∧ (∀ i, i < 5 → xs[5 * j + i]? = cs[i]?) ∧ Dt.At S w l[j] cs := by
  have hall : ∀ j (hj : j < l.length), ∃ cs : Array Value, cs.size = 5 ∧ (∀ i, i < 5 → arr[o + 5 * j + i]? = cs[i]?) ∧ Dt.At S w l[j] cs ∧ ∀ u ∈ cs.toList, u.oneCell' = true := by
    intro j hj
    obtain ⟨cs, h1, h2⟩ := Dts.At.get l arr o h j hj
    obtain ⟨m1, l1, e, o1, o2⟩ := At_five h2
    refine ⟨cs, by rw [e]; rfl, h1, h2, fun u hu => ?_⟩
    rw [e] at hu
    simp only [List.mem_cons, List.not_mem_nil, or_false] at hu
    rcases hu with rfl | rfl | rfl | rfl | rfl <;> first | rfl | assumption
  have hin : ∀ k, k < l.length * 5 → ∃ u, arr[o + k]? = some u ∧ u.oneCell' = true := by
    intro k hk
    obtain ⟨cs, c5, h1, _, h3⟩ := hall (k / 5) (by omega)
    have hm : k % 5 < 5 := Nat.mod_lt _ (by decide)
    have e := h1 (k % 5) hm
    rw [show o + 5 * (k / 5) + k % 5 = o + k by omega, Array.getElem?_eq_getElem (xs := cs) (by rw [c5]; exact hm)] at e
    exact ⟨_, e, h3 _ (Array.mem_toList_iff.2 (Array.getElem_mem (by rw [c5]; exact hm)))⟩
  have hlen : ((arr.toList.drop o).take (l.length * 5)).length = l.length * 5 := by
    rw [List.length_take, List.length_drop]
    rcases Nat.eq_zero_or_pos l.length with h0 | h0
    · rw [h0]; simp
    · obtain ⟨u, hu, _⟩ := hin (l.length * 5 - 1) (by omega)
      have := (Array.getElem?_eq_some_iff.1 hu).1
      simp only [Array.length_toList]; omega
  have hget : ∀ k, k < l.length * 5 → ((arr.toList.drop o).take (l.length * 5))[k]? = arr[o + k]? := by
    intro k hk
    rw [List.getElem?_take, if_pos hk, List.getElem?_drop]; simp
  refine ⟨(arr.toList.drop o).take (l.length * 5), hlen, fun u hu => ?_, fun j u hj => ?_, fun j hj => ?_⟩
  · obtain ⟨k, hk⟩ := List.mem_iff_getElem?.1 hu
    have hkl : k < l.length * 5 := by rw [← hlen]; exact (List.getElem?_eq_some_iff.1 hk).1
    rw [hget k hkl] at hk
    obtain ⟨u', hu', h1⟩ := hin k hkl
    rw [hk] at hu'; injection hu' with e; rw [e]; exact h1
  · have hkl : j < l.length * 5 := by rw [← hlen]; exact (List.getElem?_eq_some_iff.1 hj).1
    rw [hget j hkl] at hj
    rw [Lib.cell_of_heap hg]; exact hj
  · obtain ⟨cs, c5, h1, h2, _⟩ := hall j hj
    refine ⟨cs, c5, fun i hi => ?_, h2⟩
    rw [hget _ (by omega), ← h1 i hi]; congr 1; omega
def RetClD (S : Nat → Prop) (ds : List Dt) (w : World) (e : Ending) (w' : World) : Prop := ∃ v, e = .returned v ∧ OwnDI S w.heap.size w' v ds ∧ Below w.heap.size w w'
def RetClI (ms : List Int) (w : World) (e : Ending) (w' : World) : Prop := ∃ v, e = .returned v ∧ Nums w.heap.size w' v ms ∧ Below w.heap.size w w'
set_option maxHeartbeats 8000000 in
set_option maxRecDepth 100000 in
theorem cloneD_any {S : Nat → Prop} (ds : List Dt) (v : Value) (w : World) (hv : LAt S w v ds) (hl : ds.length ≤ 10000000) : Calls Try.prog 93 #[v] w (RetClD S ds w) := by
  rcases hv with ⟨rfl, rfl⟩ | ⟨g, o, cap, arr, fz, rfl, hS, hg, hd, _⟩
  · have HQ := nil_nil25
    go_enter Try.func93, Try.ntmps93
    go_wp2_with fail
    go_ret
    exact ⟨_, rfl, ⟨[], World.ownsRow_nil _ _ _ _, fun j h => by simp at h⟩, Below.refl _ _⟩
  · obtain ⟨xs, hxl, hx1, hxc, hxd⟩ := cells_of_rowD hg hd
    have hgl : g < w.heap.size := (Array.getElem?_eq_some_iff.1 hg).1
    obtain ⟨i, hi, hz, hs, hb⟩ := info_parts infoD
    have HQ := fun w => eq_nil25 ⟨g, o, none⟩ ds.length cap w
    have hb0 : Below w.heap.size w (w.alloc (.cells #[] 29)) := (Below.refl _ _).alloc (Nat.le_refl _) _
    have hown0 : (w.alloc (.cells #[] 29)).ownsRow w.heap.size 29 5 (.slice (some ⟨w.heap.size, 0, none⟩) 0 0) 0 [] := ⟨rfl, .inr ⟨w.heap.size, 0, #[], rfl, Nat.le_refl _, alloc_at w _, Nat.le_refl _, by decide, rfl, rfl⟩⟩
    have hcell : ∀ j u, xs[j]? = some u → (w.alloc (.cells #[] 29)).cell? ((⟨g, o, none⟩ : Addr).add j) = some u := fun j u hu => by
      rw [add_at]
      exact (hb0.cell (p := ⟨g, o + j, none⟩) hgl).trans (hxc j u hu)
    have HXD := Lib.hid hxd
    have HB0 := Lib.hid hb0
    have hbs1 : 0 + ds.length ≤ maxLen := Nat.le_trans (by omega : 0 + ds.length ≤ 10000000) (by decide)
    have hbs2 : (0 + ds.length) * 80 ≤ 140737488355328 := by omega
    have hbs3 : w.heap.size ≤ (w.alloc (.cells #[] 29)).heap.size := by simp
    have HS := Lib.hid hd
    clear hxd hb0 hd hg hxc
    go_enter Try.func93, Try.ntmps93
    go_wp2_with (at_builtin; refine wpList_append_own_at _ rfl _ _ 25 rfl w.heap.size 29 i (.agg Z5) 5 80 Try.underlying25 hi hz hs hb rfl (by decide) _ _ _ rfl hown0 ⟨g, o, none⟩ ds.length cap xs rfl hxl hcell hx1 hbs1 hbs2 hbs3 ?_; intro v' w1 hown' hgrow hnil hloc)
    go_ret
    have hbw : Below w.heap.size w w1 := HB0.out.grown hgrow hbs3 (fun k e => by cases e; exact Nat.le_refl _)
    refine ⟨_, rfl, ⟨xs, by simpa using hown', fun j hj => ?_⟩, hbw⟩
    obtain ⟨cs, c5, h1, h2⟩ := HXD.out j hj
    exact ⟨cs, c5, h1, Dt.At.keeps (Keeps.of_below hbw) _ _ h2⟩
set_option maxHeartbeats 8000000 in
set_option maxRecDepth 100000 in
theorem cloneI_any {S : Nat → Prop} (ms : List Int) (v : Value) (w : World) (hv : MAt S w v ms) (hl : ms.length ≤ 1000000000) : Calls Try.prog 92 #[v] w (RetClI ms w) := by
  rcases hv with ⟨rfl, rfl⟩ | ⟨g, o, cap, arr, fz, rfl, hS, hg, hd, _⟩
  · have HQ := nil_nil27
    go_enter Try.func92, Try.ntmps92
    go_wp2_with fail
    go_ret
    exact ⟨_, rfl, World.ownsRow_nil _ _ _ _, Below.refl _ _⟩
  · have hgl : g < w.heap.size := (Array.getElem?_eq_some_iff.1 hg).1
    obtain ⟨i, hi, hz, hs, hb⟩ := info_parts infoI
    have HQ := fun w => eq_nil27 ⟨g, o, none⟩ ms.length cap w
    have hb0 : Below w.heap.size w (w.alloc (.cells #[] 3)) := (Below.refl _ _).alloc (Nat.le_refl _) _
    have hown0 : (w.alloc (.cells #[] 3)).ownsRow w.heap.size 3 1 (.slice (some ⟨w.heap.size, 0, none⟩) 0 0) 0 [] := ⟨rfl, .inr ⟨w.heap.size, 0, #[], rfl, Nat.le_refl _, alloc_at w _, Nat.le_refl _, by decide, rfl, rfl⟩⟩
    have hcell : ∀ j u, (ms.map (Value.int .i64))[j]? = some u → (w.alloc (.cells #[] 3)).cell? ((⟨g, o, none⟩ : Addr).add j) = some u := fun j u hu => by
      rw [add_at]
      have hj : j < ms.length := by have := (List.getElem?_eq_some_iff.1 hu).1; simpa using this
      rw [List.getElem?_map, List.getElem?_eq_getElem hj] at hu
      refine (hb0.cell (p := ⟨g, o + j, none⟩) hgl).trans ?_
      rw [Lib.cell_of_heap hg]
      exact (hd j hj).trans hu
    have hx1 : ∀ u ∈ ms.map (Value.int .i64), u.oneCell' = true := fun u hu => by obtain ⟨x, _, rfl⟩ := List.mem_map.1 hu; rfl
    have hxl : (ms.map (Value.int .i64)).length = ms.length * 1 := by simp
    have HB0 := Lib.hid hb0
    have hbs1 : 0 + ms.length ≤ maxLen := Nat.le_trans (by omega : 0 + ms.length ≤ 1000000000) (by decide)
    have hbs2 : (0 + ms.length) * 8 ≤ 140737488355328 := by omega
    have hbs3 : w.heap.size ≤ (w.alloc (.cells #[] 3)).heap.size := by simp
    clear hb0 hd hg
    go_enter Try.func92, Try.ntmps92
    go_wp2_with (at_builtin; refine wpList_append_own_at _ rfl _ _ 27 rfl w.heap.size 3 i (.int .i64 0) 1 8 Try.underlying27 hi hz hs hb rfl (by decide) _ _ _ rfl hown0 ⟨g, o, none⟩ ms.length cap _ rfl hxl hcell hx1 hbs1 hbs2 hbs3 ?_; intro v' w1 hown' hgrow hnil hloc)
    go_ret
    have hbw : Below w.heap.size w w1 := HB0.out.grown hgrow hbs3 (fun k e => by cases e; exact Nat.le_refl _)
    exact ⟨_, rfl, by unfold Nums; simpa using hown', hbw⟩
end Go.Proofs.Ythhaegncnoekbaa
