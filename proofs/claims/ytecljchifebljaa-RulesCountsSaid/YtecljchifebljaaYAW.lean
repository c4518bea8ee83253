/- Rules: what is bound is not too large. -/
import Derived.Test.YtecljchifebljaaOX
import Derived.Test.YtecljchifebljaaYAA
import Derived.Test.YtecljchifebljaaYAC
import Derived.Test.YtecljchifebljaaYAS
import Derived.Deep.Slices
import Derived.Deep.Fields
import Derived.ChangeSame
import Derived.Below
import Derived.Deep.Cut
import Derived.Deep.RegionHeld3
import Derived.Test.YtecljchifebljaaCK1
import Derived.Test.YtecljchifebljaaYAL
import Derived.Test.YtecljchifebljaaYAE
import Derived.Lib.TrimByte
import Derived.Test.YtecljchifebljaaYAN
import Derived.Laws.Strings
set_option linter.unusedVariables false
set_option linter.unusedSimpArgs false
namespace Go.Proofs.Ytecljchifebljaa
open Go Go.RowKit
mutual
theorem vars_sz (V : Dt → Bool) : ∀ (d : Dt) (n : Int), ∀ x ∈ d.vars V n, x.1.size ≤ d.size
 | .mk k t ms l p, n, x, hx => by
  rw [vars_mk] at hx
  split at hx
  ·rw [List.mem_singleton] at hx; subst hx; exact Nat.le_refl _
  ·have := varss_sz V l n x hx; simp only [Dt.size]; omega
theorem varss_sz (V : Dt → Bool) : ∀ (l : List Dt) (n : Int), ∀ x ∈ varss V l n, x.1.size ≤ Dt.sizes l
 | [], n, x, hx => by rw [varss] at hx; cases hx
 | d :: r, n, x, hx => by
  rw [varss_cons] at hx
  rcases List.mem_append.1 hx with h | h
  ·have := vars_sz V d _ x h; simp only [Dt.sizes]; omega
  ·have := varss_sz V r n x h; simp only [Dt.sizes]; omega
end
theorem dZ_size : dZ.size = 1 := rfl
theorem bZ_ok : BdOk bZ := by
 unfold bZ
 rw [BdOk_mk]
 exact ⟨by rw [dZ_size]; decide, by rw [dZ_size]; decide, by simp, fun b hb => by cases hb⟩
theorem mE_ok {f : Dt → Dt → Option (List Bd)} : ∀ (ps ds : List Dt) (r : List Bd), (∀ p ∈ ps, ∀ d ∈ ds, ∀ r, f p d = some r → ∀ b ∈ r, BdOk b) → mE f ps ds = some r → ∀ b ∈ r, BdOk b
 | [], [], r, _, h => by rw [mE] at h; injection h with h; subst h; intro b hb; cases hb
 | p :: ps, d :: ds, r, hf, h => by
  rw [mE_cons] at h
  cases h1 : f p d with
  | none => rw [h1] at h; cases h
  | some r1 =>
   rw [h1] at h
   cases h2 : mE f ps ds with
   | none => rw [h2] at h; cases h
   | some r2 =>
    rw [h2] at h; injection h with h; subst h
    intro b hb
    rcases List.mem_append.1 hb with h | h
    ·exact hf p List.mem_cons_self d List.mem_cons_self r1 h1 b h
    ·exact mE_ok ps ds r2 (fun p hp d hd => hf p (List.mem_cons_of_mem _ hp) d (List.mem_cons_of_mem _ hd)) h2 b h
 | [], d :: ds, r, _, h => by rw [mE_len f [] (d :: ds) (by simp)] at h; cases h
 | p :: ps, [], r, _, h => by rw [mE_len f (p :: ps) [] (by simp)] at h; cases h
theorem allR_ok {f : Dt → Option (List Bd)} : ∀ (ds : List Dt) (all : List (List Bd)), (∀ d ∈ ds, ∀ r, f d = some r → ∀ b ∈ r, BdOk b) → allR f ds = some all → ∀ r ∈ all, ∀ b ∈ r, BdOk b
 | [], all, _, h => by rw [allR] at h; injection h with h; subst h; intro r hr; cases hr
 | d :: ds, all, hf, h => by
  rw [allR] at h
  cases h1 : f d with
  | none => rw [h1] at h; cases h
  | some x =>
   rw [h1] at h
   cases h2 : allR f ds with
   | none => rw [h2] at h; cases h
   | some y =>
    rw [h2] at h; injection h with h; subst h
    intro r hr
    rcases List.mem_cons.1 hr with rfl | hr
    ·exact hf d List.mem_cons_self _ h1
    ·exact allR_ok ds y (fun d hd => hf d (List.mem_cons_of_mem _ hd)) h2 r hr
theorem mkRows_ok {ns : List (Dt × Int)} {all : List (List Bd)} (hn : ∀ x ∈ ns, x.1.size ≤ 1000000) (hl : all.length ≤ 1000000) (ha : ∀ r ∈ all, ∀ b ∈ r, BdOk b) : ∀ b ∈ mkRows ns all, BdOk b := by
 intro b hb
 obtain ⟨i, hi, rfl⟩ := List.getElem_of_mem hb
 have hi' : i < ns.length := by rw [mkRows_length] at hi; exact hi
 rw [mkRows_get ns all i hi', BdOk_mk]
 refine ⟨hn _ (List.getElem_mem hi'), by rw [dZ_size]; decide, by rw [List.length_map]; exact hl, fun c hc => ?_⟩
 obtain ⟨r, hr, rfl⟩ := List.mem_map.1 hc
 cases hq : r[i]? with
 | none => exact bZ_ok
 | some x => exact ha r hr x (List.mem_of_getElem? hq)
theorem mem_sizes {l : List Dt} {d : Dt} (h : d ∈ l) : d.size ≤ Dt.sizes l := by
 obtain ⟨i, hi, rfl⟩ := List.getElem_of_mem h
 exact size_get l i hi
theorem mRf_ok (ls : List ByteArray) : ∀ (n : Nat) (p d : Dt) (r : List Bd), p.size ≤ 1000000 → d.size ≤ 1000000 → mRf ls n p d = some r → ∀ b ∈ r, BdOk b
 | 0, p, d, r, _, _, h => by rw [mRf] at h; cases h
 | n + 1, p, d, r, hp, hd, h => by
  rw [mRf] at h
  split at h
  ·split at h
   ·injection h with h; subst h; intro b hb; cases hb
   ·cases h
  ·split at h
   ·injection h with h; subst h; intro b hb; cases hb
   ·split at h
    ·injection h with h; subst h
     intro b hb
     rw [List.mem_singleton] at hb
     subst hb
     rw [BdOk_mk]
     exact ⟨hp, hd, by simp, fun b hb => by cases hb⟩
    ·split at h
     ·cases h
     ·split at h
      ·split at h
       ·injection h with h; subst h; intro b hb; cases hb
       ·cases h
      ·split at h
       ·obtain ⟨k, t, ms, l, pl⟩ := p
        obtain ⟨k2, t2, ms2, l2, pl2⟩ := d
        rw [show (Dt.mk k t ms l pl).dl9 = l from rfl, show (Dt.mk k2 t2 ms2 l2 pl2).dl9 = l2 from rfl] at h
        simp only [Dt.size] at hp hd
        have hF : ∀ p ∈ l, ∀ d ∈ l2, ∀ r, mRf ls n p d = some r → ∀ b ∈ r, BdOk b := fun p hp' d hd' r hr => mRf_ok ls n p d r (by have := mem_sizes hp'; omega) (by have := mem_sizes hd'; omega) hr
        have hll := length_sizes l2
        unfold mL at h
        split at h
        ·exact mE_ok _ _ _ hF h
        ·rename_i hix
         split at h
         ·cases h
         ·cases h1 : mE (mRf ls n) (l.take ((ixD l).toNat - 1)) (l2.take ((ixD l).toNat - 1)) with
          | none => rw [h1] at h; cases h
          | some r1 =>
           rw [h1] at h
           simp only at h
           cases h2 : allR (mRf ls n ((l[(ixD l).toNat - 1]?).getD dZ)) ((l2.take (l2.length - (l.length - ((ixD l).toNat + 1)))).drop ((ixD l).toNat - 1)) with
           | none => rw [h2] at h; cases h
           | some all =>
            rw [h2] at h
            simp only at h
            cases h3 : mE (mRf ls n) (l.drop ((ixD l).toNat + 1)) (l2.drop (l2.length - (l.length - ((ixD l).toNat + 1)))) with
            | none => rw [h3] at h; cases h
            | some r3 =>
             rw [h3] at h
             injection h with h; subst h
             have hj : (ixD l).toNat - 1 < l.length := by
              rcases ixD_spec l with ⟨e, _⟩ | ⟨j, hj, e, _⟩
              ·omega
              ·omega
             rw [List.getElem?_eq_getElem hj, Option.getD_some] at h2 ⊢
             have hpm := List.getElem_mem hj
             intro b hb
             rcases List.mem_append.1 hb with hb | hb
             ·rcases List.mem_append.1 hb with hb | hb
              ·exact mE_ok _ _ _ (fun p hp' d hd' => hF p (List.mem_of_mem_take hp') d (List.mem_of_mem_take hd')) h1 b hb
              ·refine mkRows_ok (fun x hx => Nat.le_trans (vars_sz _ _ _ x hx) (by have := mem_sizes hpm; omega)) ?_ (allR_ok _ _ (fun d hd' => hF _ hpm d (List.mem_of_mem_take (List.mem_of_mem_drop hd'))) h2) b hb
               rw [allR_length _ _ _ h2, List.length_drop, List.length_take]; omega
             ·exact mE_ok _ _ _ (fun p hp' d hd' => hF p (List.mem_of_mem_drop hp') d (List.mem_of_mem_drop hd')) h3 b hb
       ·cases h
end Go.Proofs.Ytecljchifebljaa
namespace Go.Proofs.Ytecljchifebljaa
open Go Go.RowKit
attribute [local go_sem] Oper.semAt_some
/-- What Match leaves: what is bound, all in new memory. -/
def RetMu (res : Option (List Bd)) (w : World) (e : Ending) (w' : World) : Prop := ∃ v, e = .returned (.tuple #[v, .bool res.isSome]) ∧ (∀ r, res = some r → RowN (fun x => w.heap.size ≤ x) (fun x => w.heap.size ≤ x) w' v r) ∧ (res = none → v = .slice none 0 0) ∧ Below w.heap.size w w'
set_option maxHeartbeats 16000000 in
set_option maxRecDepth 100000 in
theorem matchU_any (ls : List ByteArray) (lv : Value) (pp dd : Dt) (pcs dcs : Array Value) (w : World) (hls : LitsAt w lv ls) (hll : ls.length ≤ 1000000) (hlz : ∀ s ∈ ls, s.size ≤ 1000000) (hp : Dt.At (fun g => g < w.heap.size) w pp pcs) (hd : Dt.At (fun g => g < w.heap.size) w dd dcs) (hwf : pp.wf) (hnod : pp.pat = true)
  (hps : pp.size ≤ 8000) (hds : dd.size ≤ 1000000) : Calls Try.prog 24 #[lv, .agg pcs, .agg dcs] w (RetMu (mRf ls 8000 pp dd) w) := by
 have HLS := Lib.hid hls
 have HLZ := Lib.hid hlz
 have HP := Lib.hid hp
 have HD := Lib.hid hd
 have HWF := Lib.hid hwf
 have HNOD := Lib.hid hnod
 obtain ⟨ao, ac, rfl⟩ := hls.form
 obtain ⟨k, t, mo, mn, mc, lo, ln, lc, p, rfl⟩ := At_slices hp
 obtain ⟨k2, t2, mo2, mn2, mc2, lo2, ln2, lc2, p2, rfl⟩ := At_slices hd
 have hb0 : Below w.heap.size w ((w.alloc (.cells #[.int .i64 k, .string t, .slice mo mn mc, .slice lo ln lc, .int .i64 p] 29)).alloc (.cells #[.int .i64 k2, .string t2, .slice mo2 mn2 mc2, .slice lo2 ln2 lc2, .int .i64 p2] 29)) := ((Below.refl _ _).alloc (Nat.le_refl _) _).alloc (by simp) _
 have hx0 : ((w.alloc (.cells #[.int .i64 k, .string t, .slice mo mn mc, .slice lo ln lc, .int .i64 p] 29)).alloc (.cells #[.int .i64 k2, .string t2, .slice mo2 mn2 mc2, .slice lo2 ln2 lc2, .int .i64 p2] 29)).heap[w.heap.size]? = some (Obj.cells #[.int .i64 k, .string t, .slice mo mn mc, .slice lo ln lc, .int .i64 p] 29 (0, 0)) := (Lib.alloc_old _ _ _ (by simp)).trans (alloc_at _ _)
 have hx1 : ((w.alloc (.cells #[.int .i64 k, .string t, .slice mo mn mc, .slice lo ln lc, .int .i64 p] 29)).alloc (.cells #[.int .i64 k2, .string t2, .slice mo2 mn2 mc2, .slice lo2 ln2 lc2, .int .i64 p2] 29)).heap[w.heap.size + 1]? = some (Obj.cells #[.int .i64 k2, .string t2, .slice mo2 mn2 mc2, .slice lo2 ln2 lc2, .int .i64 p2] 29 (0, 0)) := second2 _ _ _
 have hs9 : ((w.alloc (.cells #[.int .i64 k, .string t, .slice mo mn mc, .slice lo ln lc, .int .i64 p] 29)).alloc (.cells #[.int .i64 k2, .string t2, .slice mo2 mn2 mc2, .slice lo2 ln2 lc2, .int .i64 p2] 29)).heap.size = w.heap.size + 1 + 1 := by simp
 clear hls hlz hp hd hwf hnod
 go_enter Try.func24, Try.ntmps24
 go_upto_region 1 with fail
 obtain ⟨X, hX⟩ : ∃ X, X = ((w.alloc (.cells #[.int .i64 k, .string t, .slice mo mn mc, .slice lo ln lc, .int .i64 p] 29)).alloc (.cells #[.int .i64 k2, .string t2, .slice mo2 mn2 mc2, .slice lo2 ln2 lc2, .int .i64 p2] 29)) := ⟨_, rfl⟩
 rw [← hX] at hb0 hx0 hx1 hs9
 rw [← hX]
 clear hX
 have HC : Hid (∀ w' : World, (fun W => W.heap[w.heap.size]? = some (Obj.cells #[.int .i64 k, .string t, .slice mo mn mc, .slice lo ln lc, .int .i64 p] 29 (0, 0)) ∧ W.heap[w.heap.size + 1]? = some (Obj.cells #[.int .i64 k2, .string t2, .slice mo2 mn2 mc2, .slice lo2 ln2 lc2, .int .i64 p2] 29 (0, 0))) w' → (w'.cell? ⟨w.heap.size, 0, none⟩ = some (.int .i64 k) ∧ w'.cell? ⟨w.heap.size, 1, none⟩ = some (.string t) ∧ w'.cell? ⟨w.heap.size, 2, none⟩ = some (.slice mo mn mc) ∧ w'.cell? ⟨w.heap.size, 3, none⟩ = some (.slice lo ln lc) ∧ w'.cell? ⟨w.heap.size, 4, none⟩ = some (.int .i64 p)) ∧
   (w'.cell? ⟨w.heap.size + 1, 0, none⟩ = some (.int .i64 k2) ∧ w'.cell? ⟨w.heap.size + 1, 1, none⟩ = some (.string t2) ∧ w'.cell? ⟨w.heap.size + 1, 2, none⟩ = some (.slice mo2 mn2 mc2) ∧ w'.cell? ⟨w.heap.size + 1, 3, none⟩ = some (.slice lo2 ln2 lc2) ∧ w'.cell? ⟨w.heap.size + 1, 4, none⟩ = some (.int .i64 p2))) := by
  rintro w' ⟨h, h'⟩
  exact ⟨⟨by rw [Lib.cell_of_heap h]; rfl, by rw [Lib.cell_of_heap h]; rfl, by rw [Lib.cell_of_heap h]; rfl, by rw [Lib.cell_of_heap h]; rfl, by rw [Lib.cell_of_heap h]; rfl⟩, by rw [Lib.cell_of_heap h']; rfl, by rw [Lib.cell_of_heap h']; rfl, by rw [Lib.cell_of_heap h']; rfl, by rw [Lib.cell_of_heap h']; rfl, by rw [Lib.cell_of_heap h']; rfl⟩
 have hS0 : (fun W => W.heap[w.heap.size]? = some (Obj.cells #[.int .i64 k, .string t, .slice mo mn mc, .slice lo ln lc, .int .i64 p] 29 (0, 0)) ∧ W.heap[w.heap.size + 1]? = some (Obj.cells #[.int .i64 k2, .string t2, .slice mo2 mn2 mc2, .slice lo2 ln2 lc2, .int .i64 p2] 29 (0, 0))) X.drew := ⟨hx0, hx1⟩
 refine wp_region_noPanic ?_
 refine wp_region_held_drew (S := (fun W => W.heap[w.heap.size]? = some (Obj.cells #[.int .i64 k, .string t, .slice mo mn mc, .slice lo ln lc, .int .i64 p] 29 (0, 0)) ∧ W.heap[w.heap.size + 1]? = some (Obj.cells #[.int .i64 k2, .string t2, .slice mo2 mn2 mc2, .slice lo2 ln2 lc2, .int .i64 p2] 29 (0, 0)))) (by kernel_rfl) hS0 (fun hHeld => ?_)
 have hb : Below w.heap.size w X.drew := hb0.drew
 generalize X.drew = V at hHeld hb ⊢
 clear hb0 hx0 hx1 hs9 hS0
 have HB := Lib.hid hb
 have hsv := hb.size
 have hsx := (Array.getElem?_eq_some_iff.1 hHeld.2).1
 clear hb
 refine qts [0, 3, 4] hHeld ?_
 iterate 3 (refine qtc (v := ?_) rfl rfl (fun w' hw' => ?_) ?_; rotate_left; (focus ((obtain ⟨⟨e0, e1, e2, e3, e4⟩, e20, e21, e22, e23, e24⟩ := HC.out w' hw'; go_simp); try with_reducible rfl)); simp only [zt,zs,zz,Act.put,zi,zy,zx])
 refine qtn ?_
 simp only [zt,zs,zz,Act.put,zi,zy,zx,qzl,qzn,qza,Nat.reduceAdd,Nat.reduceSub]
 refine wpAnyH_ready (rs := [1]) (by kernel_rfl) (by simp) ?_
 refine (AllReadyH.cons rfl (fun K hK => ?_) AllReadyH.nil)
 go_simp
 refine (wordsOf_any ls _ V (HLS.out.below HB.out) hll HLZ.out).mono ?_
 rintro e w3 ⟨bw, rfl, _, hWd, hb3⟩
 have hs3 := hb3.size
 have hHeld := (⟨(hb3.block _ (by omega)).trans hHeld.1, (hb3.block _ hsx).trans hHeld.2⟩ : (fun W => W.heap[w.heap.size]? = some (Obj.cells #[.int .i64 k, .string t, .slice mo mn mc, .slice lo ln lc, .int .i64 p] 29 (0, 0)) ∧ W.heap[w.heap.size + 1]? = some (Obj.cells #[.int .i64 k2, .string t2, .slice mo2 mn2 mc2, .slice lo2 ln2 lc2, .int .i64 p2] 29 (0, 0))) w3)
 have HB3 := Lib.hid (HB.out.trans (hb3.mono hsv))
 have HWD := Lib.hid hWd
 clear hWd hb3
 refine hK.out _ _ hHeld (fun hHeld => ?_)
 clear hK K
 try simp only [zt,zs,zz,Act.put,zi,zy,zx]
 refine qtk (i := 2) (v := ?v3) rfl rfl (fun w' hw' => ?h3) hHeld ?r3
 case h3 => go_simp; try with_reducible rfl
 simp only [zt,zs,zz,Act.put,zi,zy,zx]
 refine wpAnyH_ready (rs := [5]) (by kernel_rfl) (by simp) ?_
 refine (AllReadyH.cons rfl (fun K hK => ?_) AllReadyH.nil)
 go_simp
 refine (matchR_any 8000 (Nat.le_refl _) pp dd hps HNOD.out HWF.out w3.heap.size w3.heap.size bw ls (.slice none 0 0) _ _ [] w3 (Nat.le_refl _) (Nat.le_refl _) ((Dt.At.keeps (Keeps.of_below HB3.out) _ _ HP.out).mono (fun g h => by have : g < w.heap.size := h; show g < w3.heap.size; omega)) ((Dt.At.keeps (Keeps.of_below HB3.out) _ _ HD.out).mono (fun g h => by have : g < w.heap.size := h; show g < w3.heap.size; omega)) HWD.out HWD.out.lt (OwnR.nil _ _ _) (by simp; omega) hds).mono ?_
 rintro e w4 ⟨v4, bs4, rfl, ho4, hg4, hr4, hl4⟩
 have hb4 : Below w3.heap.size w3 w4 := Below.of_grown_none hg4.1
 have hs4 := hb4.size
 have hHeld := (⟨(hb4.block _ (by omega)).trans hHeld.1, (hb4.block _ (by omega)).trans hHeld.2⟩ : (fun W => W.heap[w.heap.size]? = some (Obj.cells #[.int .i64 k, .string t, .slice mo mn mc, .slice lo ln lc, .int .i64 p] 29 (0, 0)) ∧ W.heap[w.heap.size + 1]? = some (Obj.cells #[.int .i64 k2, .string t2, .slice mo2 mn2 mc2, .slice lo2 ln2 lc2, .int .i64 p2] 29 (0, 0))) w4)
 have HB4 := Lib.hid (HB3.out.trans (hb4.mono (by omega)))
 have HO4 := Lib.hid ho4
 have HR4 := Lib.hid hr4
 obtain ⟨vo, vc, hvf⟩ := ho4.form
 have HVF := Lib.hid hvf
 clear ho4 hg4 hr4 hb4 hvf
 refine hK.out _ _ hHeld (fun hHeld => ?_)
 clear hK K
 try simp only [zt,zs,zz,Act.put,zi,zy,zx]
 refine qts [6, 7, 8, 9, 10] hHeld ?_
 iterate 5 (refine qtc (v := ?_) rfl rfl (fun w' hw' => ?_) ?_; rotate_left; (focus (go_simp; try with_reducible rfl)); simp only [zt,zs,zz,Act.put,zi,zy,zx])
 refine qtn ?_
 simp only [zt,zs,zz,Act.put,zi,zy,zx,qzl,qzn,qza,Nat.reduceAdd,Nat.reduceSub]
 refine wpAnyH_done (by kernel_rfl) ?_ _
 refine NoPanic.normal ?_
 clear hHeld
 clear hHeld
 obtain ⟨res, hres⟩ : ∃ r, r = mRf ls 8000 pp dd := ⟨_, rfl⟩
 rw [← hres] at HR4 ⊢
 have HRES := Lib.hid hres
 clear hres
 cases res with
 | none =>
  rw [show (none : Option (List Bd)).isSome = false from rfl]
  go_wp2_with fail
  refine bodyPost_ret (results_tmp2 rfl _ _ _) rfl ?_
  rw [← HRES.out]
  exact ⟨.slice none 0 0, rfl, fun r h => (by cases h), fun _ => rfl, HB4.out⟩
 | some r =>
  rw [show (some r).isSome = true from rfl]
  have hbr : bs4 = r := by have := HR4.out r rfl; simpa using this
  subst hbr
  have hok := mRf_ok ls 8000 pp dd bs4 (by omega) hds HRES.out.symm
  have hlen : bs4.length ≤ 1000000 := by simp at hl4; omega
  have HV := HVF.out
  subst HV
  have hq1 := ownR_any (Bd.sizes bs4) bs4 (Nat.le_refl _) hok hlen w3.heap.size (fun x => w3.heap.size ≤ x ∧ x < w4.heap.size) (.slice vo bs4.length vc) w4 hs4 (fun _ h => h) (RowN.bound HO4.out)
  have hq2 : ∀ e w', RetOwnR (fun x => w3.heap.size ≤ x ∧ x < w4.heap.size) (.slice vo bs4.length vc) bs4 w4 e w' → e = .returned (.tuple #[]) ∧ RowN (fun x => w.heap.size ≤ x) (fun x => w.heap.size ≤ x) w' (.slice vo bs4.length vc) bs4 ∧ Below w.heap.size w w' := by
   rintro e w' ⟨h1, h2, h3, h4, h5, h6, h7⟩
   exact ⟨h1, h2.mono (fun x (h : w4.heap.size ≤ x) => by show w.heap.size ≤ x; omega) (fun x h => by show w.heap.size ≤ x; have := h.1; omega), HB4.out.trans ⟨h4, h5, h6, h7, fun k hk => h3 k (by omega) (fun h => by have := h.1; omega)⟩⟩
  have HQ1 := Lib.hid hq1
  have HQ2 := Lib.hid hq2
  clear hok
  clear hq1 hq2 HO4 HVF
  go_wp2_with fail
  refine HQ1.out.mono ?_
  intro e w5 h5
  obtain ⟨rfl, hrow, hb5⟩ := HQ2.out e w5 h5
  have HROW := Lib.hid hrow
  have HB5 := Lib.hid hb5
  clear h5 hrow hb5 HQ1 HQ2
  go_wp2_with fail
  refine bodyPost_ret (results_tmp2 rfl _ _ _) rfl ?_
  rw [← HRES.out]
  exact ⟨.slice vo bs4.length vc, rfl, fun r h => (by injection h with h; subst h; exact HROW.out), fun h => (by cases h), HB5.out⟩
end Go.Proofs.Ytecljchifebljaa
namespace Go.Proofs.Ytecljchifebljaa
open Go.RowKit

def I64 (a : Int) : Prop := -9223372036854775808 ≤ a ∧ a ≤ 9223372036854775807
theorem wf_I64 (a : Int) (h : (Lit.int .i64 a).wf = true) : I64 a := by
 simpa [Lit.wf, IntKind.min, IntKind.max, IntKind.signed, IntKind.bits, I64] using h
end Go.Proofs.Ytecljchifebljaa
namespace Go.Proofs.Ytecljchifebljaa
open Go Go.RowKit
theorem mod_nat (a : Int) (n : Nat) (hn : 0 < n) : ∃ k : Nat, (k : Int) = a % n ∧ k < n := by
 have h0 := Int.emod_nonneg a (show (n : Int) ≠ 0 by omega)
 have h1 := Int.emod_lt_of_pos a (show (0 : Int) < n by omega)
 exact ⟨(a % n).toNat, by omega, by omega⟩
end Go.Proofs.Ytecljchifebljaa
namespace Go.Proofs.Ytecljchifebljaa
open Go.RowKit Go.ChangeShapes Go.WideShapes Go.Deep

/-- A raw datum: two numbers, and parts. -/
inductive Rw where
 | mk (k n : Int) (l : List Rw) : Rw
namespace Rw
end Rw

end Go.Proofs.Ytecljchifebljaa
namespace Go.Proofs.Ytecljchifebljaa
open Go.RowKit

theorem wpList_wanted {P : Program} {ops : Array Oper} {Q : Exit → Act → World → Prop} {a : Act} {w : World} {rest : List Oper} {o : Oper} (hw : Region.wanted o (yielded ops a.tmps) = true) (h : ∀ K : Act → World → Prop, (∀ a w, wpList P ops Q rest a w → K a w) → o.wp P a w K Q) : wpList P ops Q (o :: rest) a w :=
 wpList_step fun K hK => by rw [if_pos hw]; exact h K hK
end Go.Proofs.Ytecljchifebljaa
namespace Go.Proofs.Ytecljchifebljaa
open Go Go.RowKit
theorem list_at {S : Nat → Prop} {w : World} {lv : Value} {l : List Dt} (h : LAt S w lv l) : Dt.At S w (.mk 4 ⟨#[]⟩ [] l 0) #[.int .i64 4, .string ⟨#[]⟩, .slice none 0 0, lv, .int .i64 0] := by
 rw [At_mk]; exact ⟨_, _, rfl, .inl ⟨rfl, rfl⟩, h⟩
end Go.Proofs.Ytecljchifebljaa
namespace Go.Proofs.Ytecljchifebljaa
open Go Go.RowKit
attribute [local go_sem] Oper.semAt_some
theorem RetMu.rows {res : Option (List Bd)} {w : World} {e : Ending} {w' : World} (h : RetMu res w e w') : ∃ v, e = .returned (.tuple #[v, .bool res.isSome]) ∧ RowN (fun x => w.heap.size ≤ x) (fun x => w.heap.size ≤ x) w' v (res.getD []) ∧ Below w.heap.size w w' := by
 obtain ⟨v, h1, h2, h3, h4⟩ := h
 refine ⟨v, h1, ?_, h4⟩
 cases res with
 | none => rw [h3 rfl]; exact RowN.nil _ _ _
 | some r => exact h2 r rfl
def NmI (W : World) (n : Nat) (iv : Value) (wr : World) : Prop := ∃ i : Nat, i ≤ n ∧ iv = .int .i64 (i : Int) ∧ Below W.heap.size W wr
end Go.Proofs.Ytecljchifebljaa
