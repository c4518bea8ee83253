/- Rules: what is bound is not too large. -/
import Derived.Test.YtecljchifebljaaOX
import Derived.Test.YtecljchifebljaaYAA
import Derived.Test.YtecljchifebljaaYAW
import Derived.Test.YtecljchifebljaaYAB
set_option linter.unusedVariables false
set_option linter.unusedSimpArgs false
namespace Go.Proofs.Ytecljchifebljaa
open Go Go.RowKit
mutual
theorem vars_sz (V : Dt → Bool) : ∀ (d : Dt) (n : Int), ∀ x ∈ d.vars V n, x.1.size ≤ d.size
 | .mk k t ms l p, n, x, hx => by
  rw [vars_mk] at hx
  split at hx
  ·rw [List.mem_singleton] at hx; subst hx; exact Nat.le_refl _
  ·have := varss_sz V l n x hx; simp only [Dt.size]; omega
theorem varss_sz (V : Dt → Bool) : ∀ (l : List Dt) (n : Int), ∀ x ∈ varss V l n, x.1.size ≤ Dt.sizes l
 | [], n, x, hx => by rw [varss] at hx; cases hx
 | d :: r, n, x, hx => by
  rw [varss_cons] at hx
  rcases List.mem_append.1 hx with h | h
  ·have := vars_sz V d _ x h; simp only [Dt.sizes]; omega
  ·have := varss_sz V r n x h; simp only [Dt.sizes]; omega
end
theorem dZ_size : dZ.size = 1 := rfl
theorem bZ_ok : BdOk bZ := by
 unfold bZ
 rw [BdOk_mk]
 exact ⟨by rw [dZ_size]; decide, by rw [dZ_size]; decide, by simp, fun b hb => by cases hb⟩
theorem mE_ok {f : Dt → Dt → Option (List Bd)} : ∀ (ps ds : List Dt) (r : List Bd), (∀ p ∈ ps, ∀ d ∈ ds, ∀ r, f p d = some r → ∀ b ∈ r, BdOk b) → mE f ps ds = some r → ∀ b ∈ r, BdOk b
 | [], [], r, _, h => by rw [mE] at h; injection h with h; subst h; intro b hb; cases hb
 | p :: ps, d :: ds, r, hf, h => by
  rw [mE_cons] at h
  cases h1 : f p d with
  | none => rw [h1] at h; cases h
  | some r1 =>
   rw [h1] at h
   cases h2 : mE f ps ds with
   | none => rw [h2] at h; cases h
   | some r2 =>
    rw [h2] at h; injection h with h; subst h
    intro b hb
    rcases List.mem_append.1 hb with h | h
    ·exact hf p List.mem_cons_self d List.mem_cons_self r1 h1 b h
    ·exact mE_ok ps ds r2 (fun p hp d hd => hf p (List.mem_cons_of_mem _ hp) d (List.mem_cons_of_mem _ hd)) h2 b h
 | [], d :: ds, r, _, h => by rw [mE_len f [] (d :: ds) (by simp)] at h; cases h
 | p :: ps, [], r, _, h => by rw [mE_len f (p :: ps) [] (by simp)] at h; cases h
theorem allR_ok {f : Dt → Option (List Bd)} : ∀ (ds : List Dt) (all : List (List Bd)), (∀ d ∈ ds, ∀ r, f d = some r → ∀ b ∈ r, BdOk b) → allR f ds = some all → ∀ r ∈ all, ∀ b ∈ r, BdOk b
 | [], all, _, h => by rw [allR] at h; injection h with h; subst h; intro r hr; cases hr
 | d :: ds, all, hf, h => by
  rw [allR] at h
  cases h1 : f d with
  | none => rw [h1] at h; cases h
  | some x =>
   rw [h1] at h
   cases h2 : allR f ds with
   | none => rw [h2] at h; cases h
   | some y =>
    rw [h2] at h; injection h with h; subst h
    intro r hr
    rcases List.mem_cons.1 hr with rfl | hr
    ·exact hf d List.mem_cons_self _ h1
    ·exact allR_ok ds y (fun d hd => hf d (List.mem_cons_of_mem _ hd)) h2 r hr
theorem mkRows_ok {ns : List (Dt × Int)} {all : List (List Bd)} (hn : ∀ x ∈ ns, x.1.size ≤ 1000000) (hl : all.length ≤ 1000000) (ha : ∀ r ∈ all, ∀ b ∈ r, BdOk b) : ∀ b ∈ mkRows ns all, BdOk b := by
 intro b hb
 obtain ⟨i, hi, rfl⟩ := List.getElem_of_mem hb
 have hi' : i < ns.length := by rw [mkRows_length] at hi; exact hi
 rw [mkRows_get ns all i hi', BdOk_mk]
 refine ⟨hn _ (List.getElem_mem hi'), by rw [dZ_size]; decide, by rw [List.length_map]; exact hl, fun c hc => ?_⟩
 obtain ⟨r, hr, rfl⟩ := List.mem_map.1 hc
 cases hq : r[i]? with
 | none => exact bZ_ok
 | some x => exact ha r hr x (List.mem_of_getElem? hq)
theorem mem_sizes {l : List Dt} {d : Dt} (h : d ∈ l) : d.size ≤ Dt.sizes l := by
 obtain ⟨i, hi, rfl⟩ := List.getElem_of_mem h
 exact size_get l i hi
theorem mRf_ok (ls : List ByteArray) : ∀ (n : Nat) (p d : Dt) (r : List Bd), p.size ≤ 1000000 → d.size ≤ 1000000 → mRf ls n p d = some r → ∀ b ∈ r, BdOk b
 | 0, p, d, r, _, _, h => by rw [mRf] at h; cases h
 | n + 1, p, d, r, hp, hd, h => by
  rw [mRf] at h
  split at h
  ·split at h
   ·injection h with h; subst h; intro b hb; cases hb
   ·cases h
  ·split at h
   ·injection h with h; subst h; intro b hb; cases hb
   ·split at h
    ·injection h with h; subst h
     intro b hb
     rw [List.mem_singleton] at hb
     subst hb
     rw [BdOk_mk]
     exact ⟨hp, hd, by simp, fun b hb => by cases hb⟩
    ·split at h
     ·cases h
     ·split at h
      ·split at h
       ·injection h with h; subst h; intro b hb; cases hb
       ·cases h
      ·split at h
       ·obtain ⟨k, t, ms, l, pl⟩ := p
        obtain ⟨k2, t2, ms2, l2, pl2⟩ := d
        rw [show (Dt.mk k t ms l pl).dl9 = l from rfl, show (Dt.mk k2 t2 ms2 l2 pl2).dl9 = l2 from rfl] at h
        simp only [Dt.size] at hp hd
        have hF : ∀ p ∈ l, ∀ d ∈ l2, ∀ r, mRf ls n p d = some r → ∀ b ∈ r, BdOk b := fun p hp' d hd' r hr => mRf_ok ls n p d r (by have := mem_sizes hp'; omega) (by have := mem_sizes hd'; omega) hr
        have hll := length_sizes l2
        unfold mL at h
        split at h
        ·exact mE_ok _ _ _ hF h
        ·rename_i hix
         split at h
         ·cases h
         ·cases h1 : mE (mRf ls n) (l.take ((ixD l).toNat - 1)) (l2.take ((ixD l).toNat - 1)) with
          | none => rw [h1] at h; cases h
          | some r1 =>
           rw [h1] at h
           simp only at h
           cases h2 : allR (mRf ls n ((l[(ixD l).toNat - 1]?).getD dZ)) ((l2.take (l2.length - (l.length - ((ixD l).toNat + 1)))).drop ((ixD l).toNat - 1)) with
           | none => rw [h2] at h; cases h
           | some all =>
            rw [h2] at h
            simp only at h
            cases h3 : mE (mRf ls n) (l.drop ((ixD l).toNat + 1)) (l2.drop (l2.length - (l.length - ((ixD l).toNat + 1)))) with
            | none => rw [h3] at h; cases h
            | some r3 =>
             rw [h3] at h
             injection h with h; subst h
             have hj : (ixD l).toNat - 1 < l.length := by
              rcases ixD_spec l with ⟨e, _⟩ | ⟨j, hj, e, _⟩
              ·omega
              ·omega
             rw [List.getElem?_eq_getElem hj, Option.getD_some] at h2 ⊢
             have hpm := List.getElem_mem hj
             intro b hb
             rcases List.mem_append.1 hb with hb | hb
             ·rcases List.mem_append.1 hb with hb | hb
              ·exact mE_ok _ _ _ (fun p hp' d hd' => hF p (List.mem_of_mem_take hp') d (List.mem_of_mem_take hd')) h1 b hb
              ·refine mkRows_ok (fun x hx => Nat.le_trans (vars_sz _ _ _ x hx) (by have := mem_sizes hpm; omega)) ?_ (allR_ok _ _ (fun d hd' => hF _ hpm d (List.mem_of_mem_take (List.mem_of_mem_drop hd'))) h2) b hb
               rw [allR_length _ _ _ h2, List.length_drop, List.length_take]; omega
             ·exact mE_ok _ _ _ (fun p hp' d hd' => hF p (List.mem_of_mem_drop hp') d (List.mem_of_mem_drop hd')) h3 b hb
       ·cases h
end Go.Proofs.Ytecljchifebljaa
namespace Go.Proofs.Ytecljchifebljaa
open Go Go.RowKit
attribute [local go_sem] Oper.semAt_some
/-- What Match leaves: what is bound, all in new memory. -/
def RetMu (res : Option (List Bd)) (w : World) (e : Ending) (w' : World) : Prop := ∃ v, e = .returned (.tuple #[v, .bool res.isSome]) ∧ (∀ r, res = some r → RowN (fun x => w.heap.size ≤ x) (fun x => w.heap.size ≤ x) w' v r) ∧ (res = none → v = .slice none 0 0) ∧ Below w.heap.size w w'
set_option maxHeartbeats 16000000 in
set_option maxRecDepth 100000 in
theorem matchU_any (ls : List ByteArray) (lv : Value) (pp dd : Dt) (pcs dcs : Array Value) (w : World) (hls : LitsAt w lv ls) (hll : ls.length ≤ 1000000) (hlz : ∀ s ∈ ls, s.size ≤ 1000000) (hp : Dt.At (fun g => g < w.heap.size) w pp pcs) (hd : Dt.At (fun g => g < w.heap.size) w dd dcs) (hwf : pp.wf) (hnod : pp.pat = true)
  (hps : pp.size ≤ 8000) (hds : dd.size ≤ 1000000) : Calls Try.prog 24 #[lv, .agg pcs, .agg dcs] w (RetMu (mRf ls 8000 pp dd) w) := by
 have HLS := Lib.hid hls
 have HLZ := Lib.hid hlz
 have HP := Lib.hid hp
 have HD := Lib.hid hd
 have HWF := Lib.hid hwf
 have HNOD := Lib.hid hnod
 obtain ⟨ao, ac, rfl⟩ := hls.form
 obtain ⟨k, t, mo, mn, mc, lo, ln, lc, p, rfl⟩ := At_slices hp
 obtain ⟨k2, t2, mo2, mn2, mc2, lo2, ln2, lc2, p2, rfl⟩ := At_slices hd
 have hb0 : Below w.heap.size w ((w.alloc (.cells #[.int .i64 k, .string t, .slice mo mn mc, .slice lo ln lc, .int .i64 p] 29)).alloc (.cells #[.int .i64 k2, .string t2, .slice mo2 mn2 mc2, .slice lo2 ln2 lc2, .int .i64 p2] 29)) := ((Below.refl _ _).alloc (Nat.le_refl _) _).alloc (by simp) _
 have hx0 : ((w.alloc (.cells #[.int .i64 k, .string t, .slice mo mn mc, .slice lo ln lc, .int .i64 p] 29)).alloc (.cells #[.int .i64 k2, .string t2, .slice mo2 mn2 mc2, .slice lo2 ln2 lc2, .int .i64 p2] 29)).heap[w.heap.size]? = some (Obj.cells #[.int .i64 k, .string t, .slice mo mn mc, .slice lo ln lc, .int .i64 p] 29 (0, 0)) := (Lib.alloc_old _ _ _ (by simp)).trans (alloc_at _ _)
 have hx1 : ((w.alloc (.cells #[.int .i64 k, .string t, .slice mo mn mc, .slice lo ln lc, .int .i64 p] 29)).alloc (.cells #[.int .i64 k2, .string t2, .slice mo2 mn2 mc2, .slice lo2 ln2 lc2, .int .i64 p2] 29)).heap[w.heap.size + 1]? = some (Obj.cells #[.int .i64 k2, .string t2, .slice mo2 mn2 mc2, .slice lo2 ln2 lc2, .int .i64 p2] 29 (0, 0)) := second2 _ _ _
 have hs9 : ((w.alloc (.cells #[.int .i64 k, .string t, .slice mo mn mc, .slice lo ln lc, .int .i64 p] 29)).alloc (.cells #[.int .i64 k2, .string t2, .slice mo2 mn2 mc2, .slice lo2 ln2 lc2, .int .i64 p2] 29)).heap.size = w.heap.size + 1 + 1 := by simp
 clear hls hlz hp hd hwf hnod
 go_enter Try.func24, Try.ntmps24
 go_upto_region 1 with fail
 obtain ⟨X, hX⟩ : ∃ X, X = ((w.alloc (.cells #[.int .i64 k, .string t, .slice mo mn mc, .slice lo ln lc, .int .i64 p] 29)).alloc (.cells #[.int .i64 k2, .string t2, .slice mo2 mn2 mc2, .slice lo2 ln2 lc2, .int .i64 p2] 29)) := ⟨_, rfl⟩
 rw [← hX] at hb0 hx0 hx1 hs9
 rw [← hX]
 clear hX
 have HC : Hid (∀ w' : World, (fun W => W.heap[w.heap.size]? = some (Obj.cells #[.int .i64 k, .string t, .slice mo mn mc, .slice lo ln lc, .int .i64 p] 29 (0, 0)) ∧ W.heap[w.heap.size + 1]? = some (Obj.cells #[.int .i64 k2, .string t2, .slice mo2 mn2 mc2, .slice lo2 ln2 lc2, .int .i64 p2] 29 (0, 0))) w' → (w'.cell? ⟨w.heap.size, 0, none⟩ = some (.int .i64 k) ∧ w'.cell? ⟨w.heap.size, 1, none⟩ = some (.string t) ∧ w'.cell? ⟨w.heap.size, 2, none⟩ = some (.slice mo mn mc) ∧ w'.cell? ⟨w.heap.size, 3, none⟩ = some (.slice lo ln lc) ∧ w'.cell? ⟨w.heap.size, 4, none⟩ = some (.int .i64 p)) ∧
   (w'.cell? ⟨w.heap.size + 1, 0, none⟩ = some (.int .i64 k2) ∧ w'.cell? ⟨w.heap.size + 1, 1, none⟩ = some (.string t2) ∧ w'.cell? ⟨w.heap.size + 1, 2, none⟩ = some (.slice mo2 mn2 mc2) ∧ w'.cell? ⟨w.heap.size + 1, 3, none⟩ = some (.slice lo2 ln2 lc2) ∧ w'.cell? ⟨w.heap.size + 1, 4, none⟩ = some (.int .i64 p2))) := by
  rintro w' ⟨h, h'⟩
  exact ⟨⟨by rw [Lib.cell_of_heap h]; rfl, by rw [Lib.cell_of_heap h]; rfl, by rw [Lib.cell_of_heap h]; rfl, by rw [Lib.cell_of_heap h]; rfl, by rw [Lib.cell_of_heap h]; rfl⟩, by rw [Lib.cell_of_heap h']; rfl, by rw [Lib.cell_of_heap h']; rfl, by rw [Lib.cell_of_heap h']; rfl, by rw [Lib.cell_of_heap h']; rfl, by rw [Lib.cell_of_heap h']; rfl⟩
 have hS0 : (fun W => W.heap[w.heap.size]? = some (Obj.cells #[.int .i64 k, .string t, .slice mo mn mc, .slice lo ln lc, .int .i64 p] 29 (0, 0)) ∧ W.heap[w.heap.size + 1]? = some (Obj.cells #[.int .i64 k2, .string t2, .slice mo2 mn2 mc2, .slice lo2 ln2 lc2, .int .i64 p2] 29 (0, 0))) X.drew := ⟨hx0, hx1⟩
 refine wp_region_noPanic ?_
 refine wp_region_held_drew (S := (fun W => W.heap[w.heap.size]? = some (Obj.cells #[.int .i64 k, .string t, .slice mo mn mc, .slice lo ln lc, .int .i64 p] 29 (0, 0)) ∧ W.heap[w.heap.size + 1]? = some (Obj.cells #[.int .i64 k2, .string t2, .slice mo2 mn2 mc2, .slice lo2 ln2 lc2, .int .i64 p2] 29 (0, 0)))) (by kernel_rfl) hS0 (fun hHeld => ?_)
 have hb : Below w.heap.size w X.drew := hb0.drew
 generalize X.drew = V at hHeld hb ⊢
 clear hb0 hx0 hx1 hs9 hS0
 have HB := Lib.hid hb
 have hsv := hb.size
 have hsx := (Array.getElem?_eq_some_iff.1 hHeld.2).1
 clear hb
 refine qts [0, 3, 4] hHeld ?_
 iterate 3 (refine qtc (v := ?_) rfl rfl (fun w' hw' => ?_) ?_; rotate_left; (focus ((obtain ⟨⟨e0, e1, e2, e3, e4⟩, e20, e21, e22, e23, e24⟩ := HC.out w' hw'; go_simp); try with_reducible rfl)); simp only [zt,zs,zz,Act.put,zi,zy,zx])
 refine qtn ?_
 simp only [zt,zs,zz,Act.put,zi,zy,zx,qzl,qzn,qza,Nat.reduceAdd,Nat.reduceSub]
 refine wpAnyH_ready (rs := [1]) (by kernel_rfl) (by simp) ?_
 refine (AllReadyH.cons rfl (fun K hK => ?_) AllReadyH.nil)
 go_simp
 refine (wordsOf_any ls _ V (HLS.out.below HB.out) hll HLZ.out).mono ?_
 rintro e w3 ⟨bw, rfl, _, hWd, hb3⟩
 have hs3 := hb3.size
 have hHeld := (⟨(hb3.block _ (by omega)).trans hHeld.1, (hb3.block _ hsx).trans hHeld.2⟩ : (fun W => W.heap[w.heap.size]? = some (Obj.cells #[.int .i64 k, .string t, .slice mo mn mc, .slice lo ln lc, .int .i64 p] 29 (0, 0)) ∧ W.heap[w.heap.size + 1]? = some (Obj.cells #[.int .i64 k2, .string t2, .slice mo2 mn2 mc2, .slice lo2 ln2 lc2, .int .i64 p2] 29 (0, 0))) w3)
 have HB3 := Lib.hid (HB.out.trans (hb3.mono hsv))
 have HWD := Lib.hid hWd
 clear hWd hb3
 refine hK.out _ _ hHeld (fun hHeld => ?_)
 clear hK K
 try simp only [zt,zs,zz,Act.put,zi,zy,zx]
 refine qtk (i := 2) (v := ?v3) rfl rfl (fun w' hw' => ?h3) hHeld ?r3
 case h3 => go_simp; try with_reducible rfl
 simp only [zt,zs,zz,Act.put,zi,zy,zx]
 refine wpAnyH_ready (rs := [5]) (by kernel_rfl) (by simp) ?_
 refine (AllReadyH.cons rfl (fun K hK => ?_) AllReadyH.nil)
 go_simp
 refine (matchR_any 8000 (Nat.le_refl _) pp dd hps HNOD.out HWF.out w3.heap.size w3.heap.size bw ls (.slice none 0 0) _ _ [] w3 (Nat.le_refl _) (Nat.le_refl _) ((Dt.At.keeps (Keeps.of_below HB3.out) _ _ HP.out).mono (fun g h => by have : g < w.heap.size := h; show g < w3.heap.size; omega)) ((Dt.At.keeps (Keeps.of_below HB3.out) _ _ HD.out).mono (fun g h => by have : g < w.heap.size := h; show g < w3.heap.size; omega)) HWD.out HWD.out.lt (OwnR.nil _ _ _) (by simp; omega) hds).mono ?_
 rintro e w4 ⟨v4, bs4, rfl, ho4, hg4, hr4, hl4⟩
 have hb4 : Below w3.heap.size w3 w4 := Below.of_grown_none hg4.1
 have hs4 := hb4.size
 have hHeld := (⟨(hb4.block _ (by omega)).trans hHeld.1, (hb4.block _ (by omega)).trans hHeld.2⟩ : (fun W => W.heap[w.heap.size]? = some (Obj.cells #[.int .i64 k, .string t, .slice mo mn mc, .slice lo ln lc, .int .i64 p] 29 (0, 0)) ∧ W.heap[w.heap.size + 1]? = some (Obj.cells #[.int .i64 k2, .string t2, .slice mo2 mn2 mc2, .slice lo2 ln2 lc2, .int .i64 p2] 29 (0, 0))) w4)
 have HB4 := Lib.hid (HB3.out.trans (hb4.mono (by omega)))
 have HO4 := Lib.hid ho4
 have HR4 := Lib.hid hr4
 obtain ⟨vo, vc, hvf⟩ := ho4.form
 have HVF := Lib.hid hvf
 clear ho4 hg4 hr4 hb4 hvf
 refine hK.out _ _ hHeld (fun hHeld => ?_)
 clear hK K
 try simp only [zt,zs,zz,Act.put,zi,zy,zx]
 refine qts [6, 7, 8, 9, 10] hHeld ?_
 iterate 5 (refine qtc (v := ?_) rfl rfl (fun w' hw' => ?_) ?_; rotate_left; (focus (go_simp; try with_reducible rfl)); simp only [zt,zs,zz,Act.put,zi,zy,zx])
 refine qtn ?_
 simp only [zt,zs,zz,Act.put,zi,zy,zx,qzl,qzn,qza,Nat.reduceAdd,Nat.reduceSub]
 refine wpAnyH_done (by kernel_rfl) ?_ _
 refine NoPanic.normal ?_
 clear hHeld
 clear hHeld
 obtain ⟨res, hres⟩ : ∃ r, r = mRf ls 8000 pp dd := ⟨_, rfl⟩
 rw [← hres] at HR4 ⊢
 have HRES := Lib.hid hres
 clear hres
 cases res with
 | none =>
  rw [show (none : Option (List Bd)).isSome = false from rfl]
  go_wp2_with fail
  refine bodyPost_ret (results_tmp2 rfl _ _ _) rfl ?_
  rw [← HRES.out]
  exact ⟨.slice none 0 0, rfl, fun r h => (by cases h), fun _ => rfl, HB4.out⟩
 | some r =>
  rw [show (some r).isSome = true from rfl]
  have hbr : bs4 = r := by have := HR4.out r rfl; simpa using this
  subst hbr
  have hok := mRf_ok ls 8000 pp dd bs4 (by omega) hds HRES.out.symm
  have hlen : bs4.length ≤ 1000000 := by simp at hl4; omega
  have HV := HVF.out
  subst HV
  have hq1 := ownR_any (Bd.sizes bs4) bs4 (Nat.le_refl _) hok hlen w3.heap.size (fun x => w3.heap.size ≤ x ∧ x < w4.heap.size) (.slice vo bs4.length vc) w4 hs4 (fun _ h => h) (RowN.bound HO4.out)
  have hq2 : ∀ e w', RetOwnR (fun x => w3.heap.size ≤ x ∧ x < w4.heap.size) (.slice vo bs4.length vc) bs4 w4 e w' → e = .returned (.tuple #[]) ∧ RowN (fun x => w.heap.size ≤ x) (fun x => w.heap.size ≤ x) w' (.slice vo bs4.length vc) bs4 ∧ Below w.heap.size w w' := by
   rintro e w' ⟨h1, h2, h3, h4, h5, h6, h7⟩
   exact ⟨h1, h2.mono (fun x (h : w4.heap.size ≤ x) => by show w.heap.size ≤ x; omega) (fun x h => by show w.heap.size ≤ x; have := h.1; omega), HB4.out.trans ⟨h4, h5, h6, h7, fun k hk => h3 k (by omega) (fun h => by have := h.1; omega)⟩⟩
  have HQ1 := Lib.hid hq1
  have HQ2 := Lib.hid hq2
  clear hok
  clear hq1 hq2 HO4 HVF
  go_wp2_with fail
  refine HQ1.out.mono ?_
  intro e w5 h5
  obtain ⟨rfl, hrow, hb5⟩ := HQ2.out e w5 h5
  have HROW := Lib.hid hrow
  have HB5 := Lib.hid hb5
  clear h5 hrow hb5 HQ1 HQ2
  go_wp2_with fail
  refine bodyPost_ret (results_tmp2 rfl _ _ _) rfl ?_
  rw [← HRES.out]
  exact ⟨.slice vo bs4.length vc, rfl, fun r h => (by injection h with h; subst h; exact HROW.out), fun h => (by cases h), HB5.out⟩
end Go.Proofs.Ytecljchifebljaa
namespace Go.Proofs.Ytecljchifebljaa
open Go Go.RowKit
mutual
theorem vars_tx (V : Dt → Bool) : ∀ (d : Dt), d.wf → ∀ (n : Int), ∀ x ∈ d.vars V n, x.1.text.size ≤ 1000000
 | .mk k t ms l p, hw, n, x, hx => by
  rw [vars_mk] at hx
  split at hx
  ·rw [List.mem_singleton] at hx; subst hx; exact hw.short
  ·exact varss_tx V l hw.parts n x hx
theorem varss_tx (V : Dt → Bool) : ∀ (l : List Dt), wfs l → ∀ (n : Int), ∀ x ∈ varss V l n, x.1.text.size ≤ 1000000
 | [], hw, n, x, hx => by rw [varss] at hx; cases hx
 | d :: r, hw, n, x, hx => by
  rw [varss_cons] at hx
  rcases List.mem_append.1 hx with h | h
  ·exact vars_tx V d hw.1 _ x h
  ·exact varss_tx V r hw.2 n x h
end
theorem mkRows_tx {ns : List (Dt × Int)} {all : List (List Bd)} (hn : ∀ x ∈ ns, x.1.text.size ≤ 1000000) : ∀ b ∈ mkRows ns all, b.name.text.size ≤ 1000000 := by
 intro b hb
 obtain ⟨i, hi, rfl⟩ := List.getElem_of_mem hb
 have hi' : i < ns.length := by rw [mkRows_length] at hi; exact hi
 rw [mkRows_get ns all i hi']
 exact hn _ (List.getElem_mem hi')
theorem mE_tx {f : Dt → Dt → Option (List Bd)} : ∀ (ps ds : List Dt) (r : List Bd), (∀ p ∈ ps, ∀ d ∈ ds, ∀ r, f p d = some r → ∀ b ∈ r, b.name.text.size ≤ 1000000) → mE f ps ds = some r → ∀ b ∈ r, b.name.text.size ≤ 1000000
 | [], [], r, _, h => by rw [mE] at h; injection h with h; subst h; intro b hb; cases hb
 | p :: ps, d :: ds, r, hf, h => by
  rw [mE_cons] at h
  cases h1 : f p d with
  | none => rw [h1] at h; cases h
  | some r1 =>
   rw [h1] at h
   cases h2 : mE f ps ds with
   | none => rw [h2] at h; cases h
   | some r2 =>
    rw [h2] at h; injection h with h; subst h
    intro b hb
    rcases List.mem_append.1 hb with h | h
    ·exact hf p List.mem_cons_self d List.mem_cons_self r1 h1 b h
    ·exact mE_tx ps ds r2 (fun p hp d hd => hf p (List.mem_cons_of_mem _ hp) d (List.mem_cons_of_mem _ hd)) h2 b h
 | [], d :: ds, r, _, h => by rw [mE_len f [] (d :: ds) (by simp)] at h; cases h
 | p :: ps, [], r, _, h => by rw [mE_len f (p :: ps) [] (by simp)] at h; cases h
theorem mRf_tx (ls : List ByteArray) : ∀ (n : Nat) (p d : Dt) (r : List Bd), p.wf → mRf ls n p d = some r → ∀ b ∈ r, b.name.text.size ≤ 1000000
 | 0, p, d, r, _, h => by rw [mRf] at h; cases h
 | n + 1, p, d, r, hp, h => by
  rw [mRf] at h
  split at h
  ·split at h
   ·injection h with h; subst h; intro b hb; cases hb
   ·cases h
  ·split at h
   ·injection h with h; subst h; intro b hb; cases hb
   ·split at h
    ·injection h with h; subst h
     intro b hb
     rw [List.mem_singleton] at hb
     subst hb
     exact hp.short
    ·split at h
     ·cases h
     ·split at h
      ·split at h
       ·injection h with h; subst h; intro b hb; cases hb
       ·cases h
      ·split at h
       ·obtain ⟨k, t, ms, l, pl⟩ := p
        obtain ⟨k2, t2, ms2, l2, pl2⟩ := d
        rw [show (Dt.mk k t ms l pl).dl9 = l from rfl, show (Dt.mk k2 t2 ms2 l2 pl2).dl9 = l2 from rfl] at h
        have hw : wfs l := hp.parts
        have hF : ∀ p ∈ l, ∀ d ∈ l2, ∀ r, mRf ls n p d = some r → ∀ b ∈ r, b.name.text.size ≤ 1000000 := fun p hp' d hd' r hr => mRf_tx ls n p d r (wfs_mem hw p hp') hr
        have hll := length_sizes l2
        unfold mL at h
        split at h
        ·exact mE_tx _ _ _ hF h
        ·rename_i hix
         split at h
         ·cases h
         ·cases h1 : mE (mRf ls n) (l.take ((ixD l).toNat - 1)) (l2.take ((ixD l).toNat - 1)) with
          | none => rw [h1] at h; cases h
          | some r1 =>
           rw [h1] at h
           simp only at h
           cases h2 : allR (mRf ls n ((l[(ixD l).toNat - 1]?).getD dZ)) ((l2.take (l2.length - (l.length - ((ixD l).toNat + 1)))).drop ((ixD l).toNat - 1)) with
           | none => rw [h2] at h; cases h
           | some all =>
            rw [h2] at h
            simp only at h
            cases h3 : mE (mRf ls n) (l.drop ((ixD l).toNat + 1)) (l2.drop (l2.length - (l.length - ((ixD l).toNat + 1)))) with
            | none => rw [h3] at h; cases h
            | some r3 =>
             rw [h3] at h
             injection h with h; subst h
             have hj : (ixD l).toNat - 1 < l.length := by
              rcases ixD_spec l with ⟨e, _⟩ | ⟨j, hj, e, _⟩
              ·omega
              ·omega
             rw [List.getElem?_eq_getElem hj, Option.getD_some] at h2 ⊢
             have hpm := List.getElem_mem hj
             intro b hb
             rcases List.mem_append.1 hb with hb | hb
             ·rcases List.mem_append.1 hb with hb | hb
              ·exact mE_tx _ _ _ (fun p hp' d hd' => hF p (List.mem_of_mem_take hp') d (List.mem_of_mem_take hd')) h1 b hb
              ·exact mkRows_tx (fun x hx => vars_tx _ _ (wfs_mem hw _ hpm) _ x hx) b hb
             ·exact mE_tx _ _ _ (fun p hp' d hd' => hF p (List.mem_of_mem_drop hp') d (List.mem_of_mem_drop hd')) h3 b hb
       ·cases h
end Go.Proofs.Ytecljchifebljaa
namespace Go.Proofs.Ytecljchifebljaa
open Go Go.RowKit
attribute [local go_sem] Oper.semAt_some
def Dt.dl : Dt → List Dt | .mk _ _ _ l _ => l
mutual
/-- No dots anywhere inside. -/
def Dt.nod : Dt → Bool
 | .mk _ _ _ l _ => nods l
def nods : List Dt → Bool
 | [] => true
 | d :: r => !d.dots && d.nod && nods r
end
theorem nod_mk (k : Int) (t : ByteArray) (ms : List Int) (l : List Dt) (p : Int) : (Dt.mk k t ms l p).nod = nods l := by rw [Dt.nod]
theorem nods_cons (d : Dt) (r : List Dt) : nods (d :: r) = (!d.dots && d.nod && nods r) := by rw [nods]
theorem nods_index : ∀ (l : List Dt), nods l = true → ∀ i (h : i < l.length), l[i].dots = false ∧ l[i].nod = true
 | [], _, i, h => absurd h (by simp)
 | d :: r, hn, 0, _ => by
  rw [nods_cons] at hn
  simp only [Bool.and_eq_true, Bool.not_eq_true'] at hn
  exact ⟨hn.1.1, hn.1.2⟩
 | d :: r, hn, i + 1, h => by
  rw [nods_cons] at hn
  simp only [Bool.and_eq_true, Bool.not_eq_true'] at hn
  exact nods_index r hn.2 i (by simpa using h)
theorem ixD_nods (l : List Dt) (h : nods l = true) : ixD l = -1 := by
 unfold ixD
 rw [List.findIdx?_eq_none_iff.2 (fun x hx => by obtain ⟨i, hi, rfl⟩ := List.getElem_of_mem hx; exact (nods_index l h i hi).1)]
mutual
/-- What a pattern's variables are bound to, in their order; none: it does not match. -/
def Dt.mB (ls : List ByteArray) : Dt → Dt → Option (List Bd)
 | .mk k t ms l p, d => if roleOf ls (.mk k t ms l p) = 2 then (if d.isS t = true then some [] else none) else if roleOf ls (.mk k t ms l p) = 3 then some [] else if roleOf ls (.mk k t ms l p) = 4 then some [.mk (.mk k t ms l p) 0 d []]
  else if k ≠ d.kind then none else if k = 1 ∨ k = 2 then (if (t.toList == d.text.toList) = true then some [] else none) else if k = 4 then mBs ls l d.dl else none
def mBs (ls : List ByteArray) : List Dt → List Dt → Option (List Bd)
 | [], [] => some []
 | p :: ps, d :: ds => match p.mB ls d with
  | none => none
  | some r => match mBs ls ps ds with
   | none => none
   | some r2 => some (r ++ r2)
 | _, _ => none
end
theorem mB_mk (ls : List ByteArray) (k : Int) (t : ByteArray) (ms : List Int) (l : List Dt) (p : Int) (d : Dt) : (Dt.mk k t ms l p).mB ls d = if roleOf ls (.mk k t ms l p) = 2 then (if d.isS t = true then some [] else none) else if roleOf ls (.mk k t ms l p) = 3 then some [] else if roleOf ls (.mk k t ms l p) = 4 then some [.mk (.mk k t ms l p) 0 d []]
  else if k ≠ d.kind then none else if k = 1 ∨ k = 2 then (if (t.toList == d.text.toList) = true then some [] else none) else if k = 4 then mBs ls l d.dl else none := by rw [Dt.mB]
/-- What a call of match leaves: a row that holds more; all that is bound, if it matches. -/
def RetM (B : Nat) (w : World) (v : Value) (bs : List Bd) (sz : Nat) (res : Option (List Bd)) (e : Ending) (w' : World) : Prop :=
 ∃ v' bs', e = .returned (.tuple #[v', .bool res.isSome]) ∧ OwnPI (fun g => g < B) B w' v' bs' ∧ Grw w w' v v' ∧ (∀ r, res = some r → bs' = bs ++ r) ∧ bs'.length ≤ bs.length + sz
def ListC (n : Nat) : Prop := ∀ (ps ds : List Dt), Dt.sizes ps ≤ n → nods ps = true → wfs ps → ∀ (B bw : Nat) (ls : List ByteArray) (v pv dv : Value) (bs : List Bd) (w : World), B ≤ w.heap.size → LAt (fun g => g < B) w pv ps → LAt (fun g => g < B) w dv ds → WordsAt w bw ls → bw < B → OwnPI (fun g => g < B) B w v bs → bs.length + Dt.sizes ps ≤ 3000000 → (∀ d ∈ ds, d.size ≤ 1000000) → ds.length ≤ 1000000 →
 Calls Try.prog 78 #[.agg #[.map (some bw)], v, pv, dv] w (RetM B w v bs (Dt.sizes ps) (mBs ls ps ds))
def MatchC (n : Nat) : Prop := ∀ (p d : Dt), p.size ≤ n → p.nod = true → p.wf → ∀ (B bw : Nat) (ls : List ByteArray) (v : Value) (pcs dcs : Array Value) (bs : List Bd) (w : World), B ≤ w.heap.size → Dt.At (fun g => g < B) w p pcs → Dt.At (fun g => g < B) w d dcs → WordsAt w bw ls → bw < B → OwnPI (fun g => g < B) B w v bs → bs.length + p.size ≤ 3000000 → d.size ≤ 1000000 →
 Calls Try.prog 53 #[.agg #[.map (some bw)], v, .agg pcs, .agg dcs] w (RetM B w v bs p.size (p.mB ls d))
set_option maxHeartbeats 16000000 in
set_option maxRecDepth 100000 in
theorem match_of (n : Nat) (hn : n ≤ 1000000) (HLC : ListC n) : MatchC (n + 1) := by
 intro d0 e0 hd hnod hwf B bw ls v pcs dcs bs w hBw hat hdat hwds hbw hown hlen hez
 have HLC := Lib.hid HLC
 obtain ⟨dd, hdd⟩ : ∃ x, x = d0 := ⟨_, rfl⟩
 obtain ⟨ee, hee⟩ : ∃ x, x = e0 := ⟨_, rfl⟩
 have hat0 := hat
 have hdat0 := hdat
 have hwf0 := hwf
 rw [← hdd] at hat0 hwf0 hlen ⊢
 rw [← hee] at hdat0 ⊢
 obtain ⟨k, t, ms, l, p⟩ := d0
 obtain ⟨k2, t2, ms2, l2, p2⟩ := e0
 have HMB := Lib.hid (mB_mk ls k t ms l p ee)
 rw [← hdd] at HMB
 have hwl : wfs l := ((wf_mk ..).1 hwf).2.2.1
 have htz : t.size ≤ 1000000 := ((wf_mk ..).1 hwf).2.1
 have hddt : dd.text = t ∧ dd.size = 1 + Dt.sizes l := by rw [hdd]; exact ⟨rfl, by simp only [Dt.size]⟩
 have heek : ee.kind = k2 ∧ ee.text = t2 ∧ ee.dl = l2 := by rw [hee]; exact ⟨rfl, rfl, rfl⟩
 have heel : l2.length ≤ 1000000 := by have := length_sizes l2; simp only [Dt.size] at hez; omega
 have hdsz : ∀ d ∈ l2, d.size ≤ 1000000 := fun d hd => by
  obtain ⟨i, hi, rfl⟩ := List.getElem_of_mem hd
  have := size_get l2 i hi; simp only [Dt.size] at hez; omega
 have HDSZ := Lib.hid hdsz
 clear hdsz
 have hszl : Dt.sizes l ≤ n := by simp only [Dt.size] at hd; omega
 rw [nod_mk] at hnod
 rw [At_mk] at hat hdat
 obtain ⟨mv, lv, rfl, hm, hl⟩ := hat
 obtain ⟨mv2, lv2, rfl, hm2, hl2⟩ := hdat
 obtain ⟨mo, mc, rfl⟩ := MAt.form2 hm
 obtain ⟨lo, lc, rfl⟩ := hl.form
 obtain ⟨mo2, mc2, rfl⟩ := MAt.form2 hm2
 obtain ⟨lo2, lc2, rfl⟩ := hl2.form
 obtain ⟨mn, hmn⟩ : ∃ n, n = ms.length := ⟨_, rfl⟩
 obtain ⟨mn2, hmn2⟩ : ∃ n, n = ms2.length := ⟨_, rfl⟩
 rw [← hmn] at hat0 ⊢
 rw [← hmn2] at hdat0 ⊢
 obtain ⟨vo, vc, rfl⟩ := hown.form
 obtain ⟨nb, hnb⟩ : ∃ n, n = bs.length := ⟨_, rfl⟩
 rw [← hnb] at hown ⊢
 have hb0 : Below w.heap.size w (((w.alloc (.cells #[.map (some bw)] 96)).alloc (.cells #[.int .i64 k, .string t, .slice mo mn mc, .slice lo l.length lc, .int .i64 p] 29)).alloc (.cells #[.int .i64 k2, .string t2, .slice mo2 mn2 mc2, .slice lo2 l2.length lc2, .int .i64 p2] 29)) := (((Below.refl _ _).alloc (Nat.le_refl _) _).alloc (by simp) _).alloc (by simp <;> omega) _
 have hx0 : (((w.alloc (.cells #[.map (some bw)] 96)).alloc (.cells #[.int .i64 k, .string t, .slice mo mn mc, .slice lo l.length lc, .int .i64 p] 29)).alloc (.cells #[.int .i64 k2, .string t2, .slice mo2 mn2 mc2, .slice lo2 l2.length lc2, .int .i64 p2] 29)).heap[w.heap.size]? = some (Obj.cells #[.map (some bw)] 96 (0, 0)) := (Lib.alloc_old _ _ _ (by simp <;> omega)).trans ((Lib.alloc_old _ _ _ (by simp)).trans (alloc_at _ _))
 have hx1 : (((w.alloc (.cells #[.map (some bw)] 96)).alloc (.cells #[.int .i64 k, .string t, .slice mo mn mc, .slice lo l.length lc, .int .i64 p] 29)).alloc (.cells #[.int .i64 k2, .string t2, .slice mo2 mn2 mc2, .slice lo2 l2.length lc2, .int .i64 p2] 29)).heap[w.heap.size + 1]? = some (Obj.cells #[.int .i64 k, .string t, .slice mo mn mc, .slice lo l.length lc, .int .i64 p] 29 (0, 0)) := (Lib.alloc_old _ _ _ (by simp <;> omega)).trans (second2 _ _ _)
 have hx2 : (((w.alloc (.cells #[.map (some bw)] 96)).alloc (.cells #[.int .i64 k, .string t, .slice mo mn mc, .slice lo l.length lc, .int .i64 p] 29)).alloc (.cells #[.int .i64 k2, .string t2, .slice mo2 mn2 mc2, .slice lo2 l2.length lc2, .int .i64 p2] 29)).heap[w.heap.size + 1 + 1]? = some (Obj.cells #[.int .i64 k2, .string t2, .slice mo2 mn2 mc2, .slice lo2 l2.length lc2, .int .i64 p2] 29 (0, 0)) := by
  have s2 : ((w.alloc (.cells #[.map (some bw)] 96)).alloc (.cells #[.int .i64 k, .string t, .slice mo mn mc, .slice lo l.length lc, .int .i64 p] 29)).heap.size = w.heap.size + 1 + 1 := by simp
  have h := alloc_at ((w.alloc (.cells #[.map (some bw)] 96)).alloc (.cells #[.int .i64 k, .string t, .slice mo mn mc, .slice lo l.length lc, .int .i64 p] 29)) (.cells #[.int .i64 k2, .string t2, .slice mo2 mn2 mc2, .slice lo2 l2.length lc2, .int .i64 p2] 29)
  rw [s2] at h; exact h
 have hs9 : (((w.alloc (.cells #[.map (some bw)] 96)).alloc (.cells #[.int .i64 k, .string t, .slice mo mn mc, .slice lo l.length lc, .int .i64 p] 29)).alloc (.cells #[.int .i64 k2, .string t2, .slice mo2 mn2 mc2, .slice lo2 l2.length lc2, .int .i64 p2] 29)).heap.size = w.heap.size + 3 := by simp
 have HAT := Lib.hid hat0
 have HDAT := Lib.hid hdat0
 have HL := Lib.hid hl
 have HL2 := Lib.hid hl2
 have HOWN := Lib.hid hown
 have HW := Lib.hid hwds
 have HWL := Lib.hid hwl
 have HNOD := Lib.hid hnod
 have HNB := Lib.hid hnb
 have HDD := Lib.hid hddt
 have HEE := Lib.hid heek
 have HEI : Hid (ee.isS t = ((k2 == 3) && (t2.toList == t.toList))) := by show _ = _; rw [hee]; rfl
 clear hat0 hdat0 hwf0 hwf hm hl hm2 hl2 hown hwds hwl hnod hmn hmn2 hnb hddt heek hdd hee hd
 go_enter Try.func53, Try.ntmps53
 go_upto_region 1 with fail
 obtain ⟨X, hX⟩ : ∃ X, X = (((w.alloc (.cells #[.map (some bw)] 96)).alloc (.cells #[.int .i64 k, .string t, .slice mo mn mc, .slice lo l.length lc, .int .i64 p] 29)).alloc (.cells #[.int .i64 k2, .string t2, .slice mo2 mn2 mc2, .slice lo2 l2.length lc2, .int .i64 p2] 29)) := ⟨_, rfl⟩
 rw [← hX] at hb0 hx0 hx1 hx2 hs9
 rw [← hX]
 clear hX
 have HB0 := Lib.hid hb0
 have HX0 := Lib.hid hx0
 have HX1 := Lib.hid hx1
 have HX2 := Lib.hid hx2
 clear hb0 hx0 hx1 hx2
 have y0 : X.cell? ⟨w.heap.size, 0, none⟩ = some (.map (some bw)) := by rw [Lib.cell_of_heap HX0.out]; rfl
 have y10 : X.cell? ⟨w.heap.size + 1, 0, none⟩ = some (.int .i64 k) := by rw [Lib.cell_of_heap HX1.out]; rfl
 have y11 : X.cell? ⟨w.heap.size + 1, 1, none⟩ = some (.string t) := by rw [Lib.cell_of_heap HX1.out]; rfl
 have y12 : X.cell? ⟨w.heap.size + 1, 2, none⟩ = some (.slice mo mn mc) := by rw [Lib.cell_of_heap HX1.out]; rfl
 have y13 : X.cell? ⟨w.heap.size + 1, 3, none⟩ = some (.slice lo l.length lc) := by rw [Lib.cell_of_heap HX1.out]; rfl
 have y14 : X.cell? ⟨w.heap.size + 1, 4, none⟩ = some (.int .i64 p) := by rw [Lib.cell_of_heap HX1.out]; rfl
 go_wp2_with fail
 refine (role_any (Dt.At.keeps (Keeps.of_below HB0.out) _ _ HAT.out) (by rw [HDD.out.1]; exact htz) bw ls (HW.out.below HB0.out HW.out.lt)).mono ?_
 rintro e w3 ⟨rfl, hb3⟩
 clear y0 y10 y11 y12 y13 y14
 have hs3 := hb3.size
 have HX3 := Lib.hid ((hb3.block _ (by omega)).trans HX0.out)
 have HP3 := Lib.hid ((hb3.block _ (by omega)).trans HX1.out)
 have HD3 := Lib.hid ((hb3.block _ (by omega)).trans HX2.out)
 have HB3 := Lib.hid (HB0.out.trans (hb3.mono (by omega)))
 have HO3 := Lib.hid (HOWN.out.below HB3.out)
 have HG3 := Lib.hid (Grw.of_below HB3.out (.slice vo nb vc))
 have hB3 : B ≤ w3.heap.size := by omega
 clear hb3 HX0 HX1 HX2
 obtain ⟨ro, hro⟩ : ∃ r, r = roleOf ls dd := ⟨_, rfl⟩
 rw [← hro] at HMB ⊢
 have HRO := Lib.hid hro
 clear hro
 have y0 : w3.cell? ⟨w.heap.size, 0, none⟩ = some (.map (some bw)) := by rw [Lib.cell_of_heap HX3.out]; rfl
 have y10 : w3.cell? ⟨w.heap.size + 1, 0, none⟩ = some (.int .i64 k) := by rw [Lib.cell_of_heap HP3.out]; rfl
 have y11 : w3.cell? ⟨w.heap.size + 1, 1, none⟩ = some (.string t) := by rw [Lib.cell_of_heap HP3.out]; rfl
 have y12 : w3.cell? ⟨w.heap.size + 1, 2, none⟩ = some (.slice mo mn mc) := by rw [Lib.cell_of_heap HP3.out]; rfl
 have y13 : w3.cell? ⟨w.heap.size + 1, 3, none⟩ = some (.slice lo l.length lc) := by rw [Lib.cell_of_heap HP3.out]; rfl
 have y14 : w3.cell? ⟨w.heap.size + 1, 4, none⟩ = some (.int .i64 p) := by rw [Lib.cell_of_heap HP3.out]; rfl
 have y20 : w3.cell? ⟨w.heap.size + 1 + 1, 0, none⟩ = some (.int .i64 k2) := by rw [Lib.cell_of_heap HD3.out]; rfl
 have y21 : w3.cell? ⟨w.heap.size + 1 + 1, 1, none⟩ = some (.string t2) := by rw [Lib.cell_of_heap HD3.out]; rfl
 have y22 : w3.cell? ⟨w.heap.size + 1 + 1, 2, none⟩ = some (.slice mo2 mn2 mc2) := by rw [Lib.cell_of_heap HD3.out]; rfl
 have y23 : w3.cell? ⟨w.heap.size + 1 + 1, 3, none⟩ = some (.slice lo2 l2.length lc2) := by rw [Lib.cell_of_heap HD3.out]; rfl
 have y24 : w3.cell? ⟨w.heap.size + 1 + 1, 4, none⟩ = some (.int .i64 p2) := by rw [Lib.cell_of_heap HD3.out]; rfl
 have SAME : Hid (∀ res : Option (List Bd), (∀ r, res = some r → r = []) → ∀ W, Below w3.heap.size w3 W → RetM B w (.slice vo nb vc) bs dd.size res (.returned (.tuple #[.slice vo nb vc, .bool res.isSome])) W) := by
  intro res hres W hW
  exact ⟨_, bs, rfl, HO3.out.below hW, HG3.out.trans (Grw.of_below hW _), fun r h => by rw [hres r h, List.append_nil], Nat.le_add_right _ _⟩
 by_cases h2 : ro = 2
 ·have q2 : (ro == 2) = true := beq_iff_eq.2 h2
  have HR : Hid (dd.mB ls ee = if ((k2 == 3) && (t2.toList == t.toList)) = true then some [] else none) := by show _ = _; rw [HMB.out, if_pos h2, HEI.out]
  clear h2
  go_wp2_with fail
  refine (is_any k2 t2 t _ _ p2 _ _ rfl rfl rfl rfl w3).mono ?_
  rintro e w4 ⟨rfl, hb4⟩
  clear y0 y10 y11 y12 y13 y14 y20 y21 y22 y23 y24
  go_wp2_with fail
  refine bodyPost_ret (results_tmp2 rfl _ _ _) rfl ?_
  have h := SAME.out (dd.mB ls ee) (fun r h => by rw [HR.out] at h; split at h <;> simp_all) w4 hb4
  rw [show ((k2 == 3) && (t2.toList == t.toList)) = (dd.mB ls ee).isSome by rw [HR.out]; cases ((k2 == 3) && (t2.toList == t.toList)) <;> rfl]
  exact h
 ·have q2 : (ro == 2) = false := beq_eq_false_iff_ne.2 h2
  by_cases h3 : ro = 3
  ·have q3 : (ro == 3) = true := beq_iff_eq.2 h3
   have HR : Hid (dd.mB ls ee = some []) := by show _ = _; rw [HMB.out, if_neg h2, if_pos h3]
   clear h2 h3
   go_wp2_with fail
   refine bodyPost_ret (results_tmp2 rfl _ _ _) rfl ?_
   rw [HR.out]
   exact SAME.out _ (fun r h => by injection h with h; exact h.symm) w3 (Below.refl _ _)
  ·have q3 : (ro == 3) = false := beq_eq_false_iff_ne.2 h3
   by_cases h4 : ro = 4
   ·have q4 : (ro == 4) = true := beq_iff_eq.2 h4
    have HR : Hid (dd.mB ls ee = some [.mk dd 0 ee []]) := by show _ = _; rw [HMB.out, if_neg h2, if_neg h3, if_pos h4]
    clear h2 h3 h4
    have hb9 : Below w3.heap.size w3 (w3.alloc (.cells #[.int .i64 k, .string t, .slice mo mn mc, .slice lo l.length lc, .int .i64 p, .int .i64 0, .int .i64 k2, .string t2, .slice mo2 mn2 mc2, .slice lo2 l2.length lc2, .int .i64 p2, .slice none 0 0] 60)) := (Below.refl _ _).alloc (Nat.le_refl _) _
    have hs9 := hb9.size
    have hpd : Bd.PAt (fun g => g < B) (w3.alloc (.cells #[.int .i64 k, .string t, .slice mo mn mc, .slice lo l.length lc, .int .i64 p, .int .i64 0, .int .i64 k2, .string t2, .slice mo2 mn2 mc2, .slice lo2 l2.length lc2, .int .i64 p2, .slice none 0 0] 60)) (.mk dd 0 ee []) #[.int .i64 k, .string t, .slice mo mn mc, .slice lo l.length lc, .int .i64 p, .int .i64 0, .int .i64 k2, .string t2, .slice mo2 mn2 mc2, .slice lo2 l2.length lc2, .int .i64 p2, .slice none 0 0] := by
     rw [BdPAt_mk]
     have hk9 : Keeps (fun g => g < B) w (w3.alloc (.cells #[.int .i64 k, .string t, .slice mo mn mc, .slice lo l.length lc, .int .i64 p, .int .i64 0, .int .i64 k2, .string t2, .slice mo2 mn2 mc2, .slice lo2 l2.length lc2, .int .i64 p2, .slice none 0 0] 60)) := keeps_low ((HB3.out.mono hBw).trans (hb9.mono (by omega)))
     have ha := Dt.At.keeps hk9 _ _ HAT.out
     have hc := Dt.At.keeps hk9 _ _ HDAT.out
     have hfk := five_is ha
     have hfd := five_is hc
     refine ⟨.slice mo mn mc, .slice lo l.length lc, .slice mo2 mn2 mc2, .slice lo2 l2.length lc2, .slice none 0 0, ?_, ?_, ?_, .inl ⟨rfl, rfl⟩⟩
     ·have h9 := congrArg Array.toList hfk
      have h8 := congrArg Array.toList hfd
      simp only [List.toList_toArray] at h9 h8
      show _ = (dd.five _ _ ++ [Value.int .i64 0] ++ ee.five _ _ ++ [_]).toArray
      rw [← h9, ← h8]; rfl
     ·rw [← hfk]; exact ha
     ·rw [← hfd]; exact hc
    obtain ⟨xs, hxo, hsn⟩ := OwnPI.snoc (HO3.out.below hb9) rfl hpd (fun x hx h => by have := (HO3.out.low x hx).1; have : x < B := h; omega)
    have HSN := Lib.hid hsn
    have HXO := Lib.hid hxo
    have hB9 : B ≤ (w3.alloc (.cells #[.int .i64 k, .string t, .slice mo mn mc, .slice lo l.length lc, .int .i64 p, .int .i64 0, .int .i64 k2, .string t2, .slice mo2 mn2 mc2, .slice lo2 l2.length lc2, .int .i64 p2, .slice none 0 0] 60)).heap.size := by omega
    have HG9 := Lib.hid (HG3.out.trans (Grw.of_below hb9 _))
    have hnl1 : bs.length + 1 ≤ 1000000000 := by omega
    have hAT := alloc_at w3 (.cells #[.int .i64 k, .string t, .slice mo mn mc, .slice lo l.length lc, .int .i64 p, .int .i64 0, .int .i64 k2, .string t2, .slice mo2 mn2 mc2, .slice lo2 l2.length lc2, .int .i64 p2, .slice none 0 0] 60)
    have HNEW : Hid (∀ i u, [.int .i64 k, .string t, .slice mo mn mc, .slice lo l.length lc, .int .i64 p, .int .i64 0, .int .i64 k2, .string t2, .slice mo2 mn2 mc2, .slice lo2 l2.length lc2, .int .i64 p2, .slice none 0 0][i]? = some u → (w3.alloc (.cells #[.int .i64 k, .string t, .slice mo mn mc, .slice lo l.length lc, .int .i64 p, .int .i64 0, .int .i64 k2, .string t2, .slice mo2 mn2 mc2, .slice lo2 l2.length lc2, .int .i64 p2, .slice none 0 0] 60)).cell? ⟨w3.heap.size, i, none⟩ = some u) := fun i u hu => by rw [Lib.cell_of_heap hAT]; simpa using hu
    clear hsn hxo hb9 hs9 hpd hAT
    go_wp2_with (refine wpList_appP rfl (Operand.tmp 26) (Operand.tmp 30) rfl B (.slice vo nb vc) bs.length xs rfl HXO.out w3.heap.size 1 rfl [.int .i64 k, .string t, .slice mo mn mc, .slice lo l.length lc, .int .i64 p, .int .i64 0, .int .i64 k2, .string t2, .slice mo2 mn2 mc2, .slice lo2 l2.length lc2, .int .i64 p2, .slice none 0 0] rfl HNEW.out (by simp [Value.oneCell']) hnl1 hB9 ?_; intro v' w9 h9 hg hv; have H9 := Lib.hid h9; have HGR := Lib.hid hg; have HVV := Lib.hid hv; clear h9 hg hv)
    refine bodyPost_ret (results_tmp2 rfl _ _ _) rfl ?_
    refine ⟨v', bs ++ [.mk dd 0 ee []], by rw [HR.out]; rfl, HSN.out v' w9 H9.out HGR.out, HG9.out.trans ⟨HGR.out, ?_⟩, fun r h => by rw [HR.out] at h; injection h with h; rw [← h], by rw [List.length_append]; have := HDD.out.2; simp; omega⟩
    rcases HVV.out with e | e
    ·exact .inl e
    ·exact .inr ⟨_, e, Nat.le_refl _, (H9.out.lt _ e).2⟩
   ·have q4 : (ro == 4) = false := beq_eq_false_iff_ne.2 h4
    have HR : Hid (dd.mB ls ee = if k ≠ k2 then none else if k = 1 ∨ k = 2 then (if (t.toList == t2.toList) = true then some [] else none) else if k = 4 then mBs ls l l2 else none) := by show _ = _; rw [HMB.out, if_neg h2, if_neg h3, if_neg h4, HEE.out.1, HEE.out.2.1, HEE.out.2.2]
    clear h2 h3 h4
    by_cases hkk : k = k2
    ·have qn : (k != k2) = false := by rw [bne_eq_false_iff_eq]; exact hkk
     have HR2 : Hid (dd.mB ls ee = if k = 1 ∨ k = 2 then (if (t.toList == t2.toList) = true then some [] else none) else if k = 4 then mBs ls l l2 else none) := by show _ = _; rw [HR.out, if_neg (fun h => h hkk)]
     clear hkk
     by_cases k1 : k = 1
     ·have q1 : (k == 1) = true := beq_iff_eq.2 k1
      have HR3 : Hid (dd.mB ls ee = if (t.toList == t2.toList) = true then some [] else none) := by show _ = _; rw [HR2.out, if_pos (.inl k1)]
      clear k1
      go_upto_region 11 with fail
      clear y0 y10 y12 y13 y14 y20 y22 y23 y24
      have hS0 : w3.drew.heap[w.heap.size + 1]? = some (Obj.cells #[.int .i64 k, .string t, .slice mo mn mc, .slice lo l.length lc, .int .i64 p] 29 (0, 0)) ∧ w3.drew.heap[w.heap.size + 1 + 1]? = some (Obj.cells #[.int .i64 k2, .string t2, .slice mo2 mn2 mc2, .slice lo2 l2.length lc2, .int .i64 p2] 29 (0, 0)) := ⟨HP3.out, HD3.out⟩
      refine wp_region_noPanic ?_
      refine wp_region_held_drew (S := fun W => W.heap[w.heap.size + 1]? = some (Obj.cells #[.int .i64 k, .string t, .slice mo mn mc, .slice lo l.length lc, .int .i64 p] 29 (0, 0)) ∧ W.heap[w.heap.size + 1 + 1]? = some (Obj.cells #[.int .i64 k2, .string t2, .slice mo2 mn2 mc2, .slice lo2 l2.length lc2, .int .i64 p2] 29 (0, 0))) (by kernel_rfl) hS0 (fun hHeld => ?_)
      clear y11 y21
      have hbd : Below w3.heap.size w3 w3.drew := (Below.refl _ _).drew
      generalize w3.drew = V at hHeld hbd ⊢
      clear hS0
      refine qts [0, 1, 2, 3, 4, 5, 6, 7] hHeld ?_
      iterate 2 (refine qtc (v := ?_) rfl rfl (fun w' hw' => ?_) ?_; rotate_left; (focus (go_simp; try with_reducible rfl)); simp only [zt,zs,zz,Act.put,zi,zy,zx])
      (refine qtc (v := ?_) rfl rfl (fun w' hw' => ?_) ?_; rotate_left; (focus ((have e1 := Lib.cell_of_heap hw'.1 1; have e2 := Lib.cell_of_heap hw'.2 1; simp only [List.getElem?_toArray, List.getElem?_cons_succ, List.getElem?_cons_zero] at e1 e2; go_simp); try with_reducible rfl)); simp only [zt,zs,zz,Act.put,zi,zy,zx])
      (refine qtc (v := ?_) rfl rfl (fun w' hw' => ?_) ?_; rotate_left; (focus (go_simp; try with_reducible rfl)); simp only [zt,zs,zz,Act.put,zi,zy,zx])
      (refine qtc (v := ?_) rfl rfl (fun w' hw' => ?_) ?_; rotate_left; (focus ((have e1 := Lib.cell_of_heap hw'.1 1; have e2 := Lib.cell_of_heap hw'.2 1; simp only [List.getElem?_toArray, List.getElem?_cons_succ, List.getElem?_cons_zero] at e1 e2; go_simp); try with_reducible rfl)); simp only [zt,zs,zz,Act.put,zi,zy,zx])
      iterate 3 (refine qtc (v := ?_) rfl rfl (fun w' hw' => ?_) ?_; rotate_left; (focus (go_simp; try with_reducible rfl)); simp only [zt,zs,zz,Act.put,zi,zy,zx])
      refine qtn ?_
      simp only [zt,zs,zz,Act.put,zi,zy,zx,qzl,qzn,qza,Nat.reduceAdd,Nat.reduceSub]
      refine wpAnyH_done (by kernel_rfl) ?_ _
      refine NoPanic.normal ?_
      clear hHeld
      go_wp2_with fail
      refine bodyPost_ret (results_tmp2 rfl _ _ _) rfl ?_
      have h := SAME.out (dd.mB ls ee) (fun r h => by rw [HR3.out] at h; split at h <;> simp_all) V hbd
      rw [show (t.toList == t2.toList) = (dd.mB ls ee).isSome by rw [HR3.out]; cases (t.toList == t2.toList) <;> rfl]
      exact h
     ·have q1 : (k == 1) = false := beq_eq_false_iff_ne.2 k1
      by_cases k22 : k = 2
      ·have q22 : (k == 2) = true := beq_iff_eq.2 k22
       have HR3 : Hid (dd.mB ls ee = if (t.toList == t2.toList) = true then some [] else none) := by show _ = _; rw [HR2.out, if_pos (.inr k22)]
       clear k1 k22
       go_upto_region 11 with fail
       clear y0 y10 y12 y13 y14 y20 y22 y23 y24
       have hS0 : w3.drew.heap[w.heap.size + 1]? = some (Obj.cells #[.int .i64 k, .string t, .slice mo mn mc, .slice lo l.length lc, .int .i64 p] 29 (0, 0)) ∧ w3.drew.heap[w.heap.size + 1 + 1]? = some (Obj.cells #[.int .i64 k2, .string t2, .slice mo2 mn2 mc2, .slice lo2 l2.length lc2, .int .i64 p2] 29 (0, 0)) := ⟨HP3.out, HD3.out⟩
       refine wp_region_noPanic ?_
       refine wp_region_held_drew (S := fun W => W.heap[w.heap.size + 1]? = some (Obj.cells #[.int .i64 k, .string t, .slice mo mn mc, .slice lo l.length lc, .int .i64 p] 29 (0, 0)) ∧ W.heap[w.heap.size + 1 + 1]? = some (Obj.cells #[.int .i64 k2, .string t2, .slice mo2 mn2 mc2, .slice lo2 l2.length lc2, .int .i64 p2] 29 (0, 0))) (by kernel_rfl) hS0 (fun hHeld => ?_)
       clear y11 y21
       have hbd : Below w3.heap.size w3 w3.drew := (Below.refl _ _).drew
       generalize w3.drew = V at hHeld hbd ⊢
       clear hS0
       refine qts [0, 1, 2, 3, 4, 5, 6, 7] hHeld ?_
       iterate 2 (refine qtc (v := ?_) rfl rfl (fun w' hw' => ?_) ?_; rotate_left; (focus (go_simp; try with_reducible rfl)); simp only [zt,zs,zz,Act.put,zi,zy,zx])
       (refine qtc (v := ?_) rfl rfl (fun w' hw' => ?_) ?_; rotate_left; (focus ((have e1 := Lib.cell_of_heap hw'.1 1; have e2 := Lib.cell_of_heap hw'.2 1; simp only [List.getElem?_toArray, List.getElem?_cons_succ, List.getElem?_cons_zero] at e1 e2; go_simp); try with_reducible rfl)); simp only [zt,zs,zz,Act.put,zi,zy,zx])
       (refine qtc (v := ?_) rfl rfl (fun w' hw' => ?_) ?_; rotate_left; (focus (go_simp; try with_reducible rfl)); simp only [zt,zs,zz,Act.put,zi,zy,zx])
       (refine qtc (v := ?_) rfl rfl (fun w' hw' => ?_) ?_; rotate_left; (focus ((have e1 := Lib.cell_of_heap hw'.1 1; have e2 := Lib.cell_of_heap hw'.2 1; simp only [List.getElem?_toArray, List.getElem?_cons_succ, List.getElem?_cons_zero] at e1 e2; go_simp); try with_reducible rfl)); simp only [zt,zs,zz,Act.put,zi,zy,zx])
       iterate 3 (refine qtc (v := ?_) rfl rfl (fun w' hw' => ?_) ?_; rotate_left; (focus (go_simp; try with_reducible rfl)); simp only [zt,zs,zz,Act.put,zi,zy,zx])
       refine qtn ?_
       simp only [zt,zs,zz,Act.put,zi,zy,zx,qzl,qzn,qza,Nat.reduceAdd,Nat.reduceSub]
       refine wpAnyH_done (by kernel_rfl) ?_ _
       refine NoPanic.normal ?_
       clear hHeld
       go_wp2_with fail
       refine bodyPost_ret (results_tmp2 rfl _ _ _) rfl ?_
       have h := SAME.out (dd.mB ls ee) (fun r h => by rw [HR3.out] at h; split at h <;> simp_all) V hbd
       rw [show (t.toList == t2.toList) = (dd.mB ls ee).isSome by rw [HR3.out]; cases (t.toList == t2.toList) <;> rfl]
       exact h
      ·have q22 : (k == 2) = false := beq_eq_false_iff_ne.2 k22
       by_cases k4 : k = 4
       ·have q44 : (k == 4) = true := beq_iff_eq.2 k4
        have HR3 : Hid (dd.mB ls ee = mBs ls l l2) := by show _ = _; rw [HR2.out, if_neg (fun h => h.elim k1 k22), if_pos k4]
        clear k1 k22 k4
        go_wp2_with fail
        refine (HLC.out l l2 hszl HNOD.out HWL.out B bw ls _ _ _ bs w3 hB3 (HL.out.keeps (keeps_low (HB3.out.mono hBw))) (HL2.out.keeps (keeps_low (HB3.out.mono hBw))) (HW.out.below HB3.out HW.out.lt) hbw HO3.out (by have := HDD.out.2; omega) HDSZ.out heel).mono ?_
        rintro e w4 ⟨v', bs', rfl, ho4, hg4, hr4, hl4⟩
        clear y0 y10 y11 y12 y13 y14 y20 y21 y22 y23 y24
        have HO4 := Lib.hid ho4
        have HG4 := Lib.hid hg4
        have HR4 := Lib.hid hr4
        clear ho4 hg4 hr4
        go_wp2_with fail
        refine bodyPost_ret (results_tmp2 rfl _ _ _) rfl ?_
        rw [HR3.out]
        exact ⟨v', bs', rfl, HO4.out, HG3.out.trans HG4.out, HR4.out, by have := HDD.out.2; omega⟩
       ·have q44 : (k == 4) = false := beq_eq_false_iff_ne.2 k4
        have HR3 : Hid (dd.mB ls ee = none) := by show _ = _; rw [HR2.out, if_neg (fun h => h.elim k1 k22), if_neg k4]
        clear k1 k22 k4
        go_wp2_with fail
        refine bodyPost_ret (results_tmp2 rfl _ _ _) rfl ?_
        rw [HR3.out]
        exact SAME.out none (fun r h => by cases h) w3 (Below.refl _ _)
    ·have qn : (k != k2) = true := by rw [bne_iff_ne]; exact hkk
     have HR2 : Hid (dd.mB ls ee = none) := by show _ = _; rw [HR.out, if_pos hkk]
     clear hkk
     go_wp2_with fail
     refine bodyPost_ret (results_tmp2 rfl _ _ _) rfl ?_
     rw [HR2.out]
     exact SAME.out none (fun r h => by cases h) w3 (Below.refl _ _)
end Go.Proofs.Ytecljchifebljaa
