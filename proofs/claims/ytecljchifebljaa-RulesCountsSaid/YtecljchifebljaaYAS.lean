/- Rules: the program's Match, of patterns without dots. -/
import Derived.Test.YtecljchifebljaaYAA
import Derived.Test.YtecljchifebljaaYAC
import Derived.Test.YtecljchifebljaaYAR
import Derived.Test.YtecljchifebljaaYAN
import Derived.Test.YtecljchifebljaaCK1
import Derived.Test.YtecljchifebljaaYAL
import Derived.Test.YtecljchifebljaaYAE
import Derived.Deep.MidRow
set_option linter.unusedVariables false
set_option linter.unusedSimpArgs false
namespace Go.Proofs.Ytecljchifebljaa
open Go Go.RowKit
attribute [local go_sem] Oper.semAt_some
mutual
theorem mB_flat (ls : List ByteArray) : ∀ (p d : Dt) (r : List Bd), p.mB ls d = some r → ∀ b ∈ r, b.rows = [] ∧ b.name.size ≤ p.size ∧ b.dat.size ≤ d.size
 | .mk k t ms l p, d, r, h, b, hb => by
  rw [mB_mk] at h
  split at h
  ·split at h <;> cases h; cases hb
  ·split at h
   ·cases h; cases hb
   ·split at h
    ·injection h with h; subst h
     rw [List.mem_singleton] at hb; subst hb
     exact ⟨rfl, Nat.le_refl _, Nat.le_refl _⟩
    ·split at h
     ·cases h
     ·split at h
      ·split at h <;> cases h; cases hb
      ·split at h
       ·obtain ⟨h1, h2, h3⟩ := mBs_flat ls l d.dl r h b hb
        refine ⟨h1, by simp only [Dt.size]; omega, ?_⟩
        obtain ⟨k2, t2, ms2, l2, p2⟩ := d
        simp only [Dt.dl] at h3
        simp only [Dt.size]; omega
       ·cases h
theorem mBs_flat (ls : List ByteArray) : ∀ (ps ds : List Dt) (r : List Bd), mBs ls ps ds = some r → ∀ b ∈ r, b.rows = [] ∧ b.name.size ≤ Dt.sizes ps ∧ b.dat.size ≤ Dt.sizes ds
 | [], [], r, h, b, hb => by rw [mBs] at h; cases h; cases hb
 | p :: ps, d :: ds, r, h, b, hb => by
  rw [mBs_cons] at h
  cases h1 : p.mB ls d with
  | none => rw [h1] at h; cases h
  | some r1 =>
   rw [h1] at h
   cases h2 : mBs ls ps ds with
   | none => rw [h2] at h; cases h
   | some r2 =>
    rw [h2] at h; injection h with h; subst h
    rcases List.mem_append.1 hb with hb | hb
    ·obtain ⟨a1, a2, a3⟩ := mB_flat ls p d r1 h1 b hb
     exact ⟨a1, by simp only [Dt.sizes]; omega, by simp only [Dt.sizes]; omega⟩
    ·obtain ⟨a1, a2, a3⟩ := mBs_flat ls ps ds r2 h2 b hb
     exact ⟨a1, by simp only [Dt.sizes]; omega, by simp only [Dt.sizes]; omega⟩
 | [], d :: ds, r, h, b, hb => by rw [mBs_len ls [] (d :: ds) (by simp)] at h; cases h
 | p :: ps, [], r, h, b, hb => by rw [mBs_len ls (p :: ps) [] (by simp)] at h; cases h
end
theorem OwnPI.halfO {B : Nat} {w : World} {g n cap : Nat} {bs : List Bd} (h : OwnPI (fun x => x < B) B w (.slice (some ⟨g, 0, none⟩) n cap) bs) (hf : ∀ b ∈ bs, b.rows = []) (hB : B ≤ w.heap.size) : HalfO w.heap.size g bs 0 w := by
 have hlow := (h.low g rfl).1
 obtain ⟨xs, hown, hd⟩ := h
 rcases hown.2 with ⟨e, _⟩ | ⟨g', cap', cur, e1, hbg, hg, hnc, hcm, hcs, htake⟩
 ·cases e
 ·injection e1 with e1 _ _
  injection e1 with e1; injection e1 with e1
  subst e1
  refine ⟨cur, hg, by rw [hcs]; exact Nat.mul_le_mul_right 12 hnc, fun i hi => ?_⟩
  obtain ⟨cs, c12, h1, h2⟩ := hd i hi
  have hcur : ∀ t, t < 12 → cur[12 * i + t]? = cs[t]? := fun t ht => by rw [← h1 t ht, ← htake, List.getElem?_take, if_pos (by omega)]; simp
  obtain ⟨m1, l1, m2, l2, lr, rfl, hna, hda, hlr, _⟩ := BdPAt_twelve h2
  refine ⟨#[.int .i64 bs[i].name.kind, .string bs[i].name.text, m1, l1, .int .i64 bs[i].name.place], #[.int .i64 bs[i].dat.kind, .string bs[i].dat.text, m2, l2, .int .i64 bs[i].dat.place], fun t ht => ?_, hcur 5 (by decide), fun t ht => ?_, ?_, fun h => absurd h (by omega), fun _ => ⟨hna.mono (fun x h => ⟨by have : x < B := h; omega, by have : x < B := h; omega⟩), hda.mono (fun x h => ⟨by have : x < B := h; omega, by have : x < B := h; omega⟩)⟩⟩
  ·rw [hcur t (by omega)]
   rcases (show t = 0 ∨ t = 1 ∨ t = 2 ∨ t = 3 ∨ t = 4 by omega) with rfl | rfl | rfl | rfl | rfl <;> rfl
  ·rw [show 12 * i + 6 + t = 12 * i + (6 + t) by omega, hcur (6 + t) (by omega)]
   rcases (show t = 0 ∨ t = 1 ∨ t = 2 ∨ t = 3 ∨ t = 4 by omega) with rfl | rfl | rfl | rfl | rfl <;> rfl
  ·rw [hf bs[i] (List.getElem_mem hi)] at hlr
   obtain ⟨ao, c, rfl⟩ := hlr.form
   exact ⟨ao, c, hcur 11 (by decide)⟩
/-- A row of bindings, read: each has its name and its datum in new memory. -/
def RowO (N : Nat) (w : World) (v : Value) (r : List Bd) : Prop :=
 ∃ ao cap, v = .slice ao r.length cap ∧ ∀ i (h : i < r.length), ∃ g, ao = some ⟨g, 0, none⟩ ∧ ∃ n5 d5 : Array Value, (∀ t, t < 5 → w.cell? ⟨g, i * 12 + t, none⟩ = n5[t]?) ∧ w.cell? ⟨g, i * 12 + 5, none⟩ = some (.int .i64 r[i].deep) ∧ (∀ t, t < 5 → w.cell? ⟨g, i * 12 + 6 + t, none⟩ = d5[t]?) ∧
  Dt.At (fun x => N ≤ x) w r[i].name n5 ∧ Dt.At (fun x => N ≤ x) w r[i].dat d5
theorem HalfO.read {N M g cap : Nat} {r : List Bd} {w : World} (h : HalfO N g r r.length w) (hM : M ≤ N) : RowO M w (.slice (some ⟨g, 0, none⟩) r.length cap) r := by
 obtain ⟨cur, h1, _, h3⟩ := h
 refine ⟨_, cap, rfl, fun i hi => ?_⟩
 obtain ⟨n5, d5, a1, a2, a3, _, a5, _⟩ := h3 i hi
 refine ⟨g, rfl, n5, d5, fun t ht => ?_, ?_, fun t ht => ?_, (a5 hi).1.mono (fun x h => by have : N ≤ x := h; show M ≤ x; omega), (a5 hi).2.mono (fun x h => by have : N ≤ x := h; show M ≤ x; omega)⟩
 ·rw [Lib.cell_of_heap h1, Nat.mul_comm i 12]; exact a1 t ht
 ·rw [Lib.cell_of_heap h1, Nat.mul_comm i 12]; exact a2
 ·rw [Lib.cell_of_heap h1, Nat.mul_comm i 12]; exact a3 t ht
def RetMt (res : Option (List Bd)) (w : World) (e : Ending) (w' : World) : Prop := ∃ v, e = .returned (.tuple #[v, .bool res.isSome]) ∧ (∀ r, res = some r → RowO w.heap.size w' v r) ∧ (res = none → v = .slice none 0 0) ∧ Below w.heap.size w w'
set_option maxHeartbeats 16000000 in
set_option maxRecDepth 100000 in
theorem matchP_any (ls : List ByteArray) (lv : Value) (pp dd : Dt) (pcs dcs : Array Value) (w : World) (hls : LitsAt w lv ls) (hll : ls.length ≤ 1000000) (hlz : ∀ s ∈ ls, s.size ≤ 1000000) (hp : Dt.At (fun g => g < w.heap.size) w pp pcs) (hd : Dt.At (fun g => g < w.heap.size) w dd dcs) (hwf : pp.wf) (hnod : pp.nod = true)
  (hps : pp.size ≤ 1000000) (hds : dd.size ≤ 1000000) : Calls Try.prog 24 #[lv, .agg pcs, .agg dcs] w (RetMt (pp.mB ls dd) w) := by
 have HLS := Lib.hid hls
 have HLZ := Lib.hid hlz
 have HP := Lib.hid hp
 have HD := Lib.hid hd
 have HWF := Lib.hid hwf
 have HNOD := Lib.hid hnod
 obtain ⟨ao, ac, rfl⟩ := hls.form
 obtain ⟨k, t, mo, mn, mc, lo, ln, lc, p, rfl⟩ := At_slices hp
 obtain ⟨k2, t2, mo2, mn2, mc2, lo2, ln2, lc2, p2, rfl⟩ := At_slices hd
 have hb0 : Below w.heap.size w ((w.alloc (.cells #[.int .i64 k, .string t, .slice mo mn mc, .slice lo ln lc, .int .i64 p] 29)).alloc (.cells #[.int .i64 k2, .string t2, .slice mo2 mn2 mc2, .slice lo2 ln2 lc2, .int .i64 p2] 29)) := ((Below.refl _ _).alloc (Nat.le_refl _) _).alloc (by simp) _
 have hx0 : ((w.alloc (.cells #[.int .i64 k, .string t, .slice mo mn mc, .slice lo ln lc, .int .i64 p] 29)).alloc (.cells #[.int .i64 k2, .string t2, .slice mo2 mn2 mc2, .slice lo2 ln2 lc2, .int .i64 p2] 29)).heap[w.heap.size]? = some (Obj.cells #[.int .i64 k, .string t, .slice mo mn mc, .slice lo ln lc, .int .i64 p] 29 (0, 0)) := (Lib.alloc_old _ _ _ (by simp)).trans (alloc_at _ _)
 have hx1 : ((w.alloc (.cells #[.int .i64 k, .string t, .slice mo mn mc, .slice lo ln lc, .int .i64 p] 29)).alloc (.cells #[.int .i64 k2, .string t2, .slice mo2 mn2 mc2, .slice lo2 ln2 lc2, .int .i64 p2] 29)).heap[w.heap.size + 1]? = some (Obj.cells #[.int .i64 k2, .string t2, .slice mo2 mn2 mc2, .slice lo2 ln2 lc2, .int .i64 p2] 29 (0, 0)) := second2 _ _ _
 have hs9 : ((w.alloc (.cells #[.int .i64 k, .string t, .slice mo mn mc, .slice lo ln lc, .int .i64 p] 29)).alloc (.cells #[.int .i64 k2, .string t2, .slice mo2 mn2 mc2, .slice lo2 ln2 lc2, .int .i64 p2] 29)).heap.size = w.heap.size + 1 + 1 := by simp
 clear hls hlz hp hd hwf hnod
 go_enter Try.func24, Try.ntmps24
 go_upto_region 1 with fail
 obtain ⟨X, hX⟩ : ∃ X, X = ((w.alloc (.cells #[.int .i64 k, .string t, .slice mo mn mc, .slice lo ln lc, .int .i64 p] 29)).alloc (.cells #[.int .i64 k2, .string t2, .slice mo2 mn2 mc2, .slice lo2 ln2 lc2, .int .i64 p2] 29)) := ⟨_, rfl⟩
 rw [← hX] at hb0 hx0 hx1 hs9
 rw [← hX]
 clear hX
 have HC : Hid (∀ w' : World, (fun W => W.heap[w.heap.size]? = some (Obj.cells #[.int .i64 k, .string t, .slice mo mn mc, .slice lo ln lc, .int .i64 p] 29 (0, 0)) ∧ W.heap[w.heap.size + 1]? = some (Obj.cells #[.int .i64 k2, .string t2, .slice mo2 mn2 mc2, .slice lo2 ln2 lc2, .int .i64 p2] 29 (0, 0))) w' → (w'.cell? ⟨w.heap.size, 0, none⟩ = some (.int .i64 k) ∧ w'.cell? ⟨w.heap.size, 1, none⟩ = some (.string t) ∧ w'.cell? ⟨w.heap.size, 2, none⟩ = some (.slice mo mn mc) ∧ w'.cell? ⟨w.heap.size, 3, none⟩ = some (.slice lo ln lc) ∧ w'.cell? ⟨w.heap.size, 4, none⟩ = some (.int .i64 p)) ∧
   (w'.cell? ⟨w.heap.size + 1, 0, none⟩ = some (.int .i64 k2) ∧ w'.cell? ⟨w.heap.size + 1, 1, none⟩ = some (.string t2) ∧ w'.cell? ⟨w.heap.size + 1, 2, none⟩ = some (.slice mo2 mn2 mc2) ∧ w'.cell? ⟨w.heap.size + 1, 3, none⟩ = some (.slice lo2 ln2 lc2) ∧ w'.cell? ⟨w.heap.size + 1, 4, none⟩ = some (.int .i64 p2))) := by
  rintro w' ⟨h, h'⟩
  exact ⟨⟨by rw [Lib.cell_of_heap h]; rfl, by rw [Lib.cell_of_heap h]; rfl, by rw [Lib.cell_of_heap h]; rfl, by rw [Lib.cell_of_heap h]; rfl, by rw [Lib.cell_of_heap h]; rfl⟩, by rw [Lib.cell_of_heap h']; rfl, by rw [Lib.cell_of_heap h']; rfl, by rw [Lib.cell_of_heap h']; rfl, by rw [Lib.cell_of_heap h']; rfl, by rw [Lib.cell_of_heap h']; rfl⟩
 have hS0 : (fun W => W.heap[w.heap.size]? = some (Obj.cells #[.int .i64 k, .string t, .slice mo mn mc, .slice lo ln lc, .int .i64 p] 29 (0, 0)) ∧ W.heap[w.heap.size + 1]? = some (Obj.cells #[.int .i64 k2, .string t2, .slice mo2 mn2 mc2, .slice lo2 ln2 lc2, .int .i64 p2] 29 (0, 0))) X.drew := ⟨hx0, hx1⟩
 refine wp_region_noPanic ?_
 refine wp_region_held_drew (S := (fun W => W.heap[w.heap.size]? = some (Obj.cells #[.int .i64 k, .string t, .slice mo mn mc, .slice lo ln lc, .int .i64 p] 29 (0, 0)) ∧ W.heap[w.heap.size + 1]? = some (Obj.cells #[.int .i64 k2, .string t2, .slice mo2 mn2 mc2, .slice lo2 ln2 lc2, .int .i64 p2] 29 (0, 0)))) (by kernel_rfl) hS0 (fun hHeld => ?_)
 have hb : Below w.heap.size w X.drew := hb0.drew
 generalize X.drew = V at hHeld hb ⊢
 clear hb0 hx0 hx1 hs9 hS0
 have HB := Lib.hid hb
 have hsv := hb.size
 have hsx := (Array.getElem?_eq_some_iff.1 hHeld.2).1
 clear hb
 refine qts [0, 3, 4] hHeld ?_
 iterate 3 (refine qtc (v := ?_) rfl rfl (fun w' hw' => ?_) ?_; rotate_left; (focus ((obtain ⟨⟨e0, e1, e2, e3, e4⟩, e20, e21, e22, e23, e24⟩ := HC.out w' hw'; go_simp); try with_reducible rfl)); simp only [zt,zs,zz,Act.put,zi,zy,zx])
 refine qtn ?_
 simp only [zt,zs,zz,Act.put,zi,zy,zx,qzl,qzn,qza,Nat.reduceAdd,Nat.reduceSub]
 refine wpAnyH_ready (rs := [1]) (by kernel_rfl) (by simp) ?_
 refine (AllReadyH.cons rfl (fun K hK => ?_) AllReadyH.nil)
 go_simp
 refine (wordsOf_any ls _ V (HLS.out.below HB.out) hll HLZ.out).mono ?_
 rintro e w3 ⟨bw, rfl, _, hWd, hb3⟩
 have hs3 := hb3.size
 have hHeld := (⟨(hb3.block _ (by omega)).trans hHeld.1, (hb3.block _ hsx).trans hHeld.2⟩ : (fun W => W.heap[w.heap.size]? = some (Obj.cells #[.int .i64 k, .string t, .slice mo mn mc, .slice lo ln lc, .int .i64 p] 29 (0, 0)) ∧ W.heap[w.heap.size + 1]? = some (Obj.cells #[.int .i64 k2, .string t2, .slice mo2 mn2 mc2, .slice lo2 ln2 lc2, .int .i64 p2] 29 (0, 0))) w3)
 have HB3 := Lib.hid (HB.out.trans (hb3.mono hsv))
 have HWD := Lib.hid hWd
 clear hWd hb3
 refine hK.out _ _ hHeld (fun hHeld => ?_)
 clear hK K
 try simp only [zt,zs,zz,Act.put,zi,zy,zx]
 refine qtk (i := 2) (v := ?v3) rfl rfl (fun w' hw' => ?h3) hHeld ?r3
 case h3 => go_simp; try with_reducible rfl
 simp only [zt,zs,zz,Act.put,zi,zy,zx]
 refine wpAnyH_ready (rs := [5]) (by kernel_rfl) (by simp) ?_
 refine (AllReadyH.cons rfl (fun K hK => ?_) AllReadyH.nil)
 go_simp
 refine (match_any 1000000 (Nat.le_refl _) pp dd hps HNOD.out HWF.out w3.heap.size bw ls (.slice none 0 0) _ _ [] w3 (Nat.le_refl _) ((Dt.At.keeps (Keeps.of_below HB3.out) _ _ HP.out).mono (fun g h => by have : g < w.heap.size := h; show g < w3.heap.size; omega)) ((Dt.At.keeps (Keeps.of_below HB3.out) _ _ HD.out).mono (fun g h => by have : g < w.heap.size := h; show g < w3.heap.size; omega)) HWD.out HWD.out.lt (OwnPI.nil _ _ _) (by simp; omega) hds).mono ?_
 rintro e w4 ⟨v4, bs4, rfl, ho4, hg4, hr4, hl4⟩
 have hb4 : Below w3.heap.size w3 w4 := Below.of_grown_none hg4.1
 have hs4 := hb4.size
 have hHeld := (⟨(hb4.block _ (by omega)).trans hHeld.1, (hb4.block _ (by omega)).trans hHeld.2⟩ : (fun W => W.heap[w.heap.size]? = some (Obj.cells #[.int .i64 k, .string t, .slice mo mn mc, .slice lo ln lc, .int .i64 p] 29 (0, 0)) ∧ W.heap[w.heap.size + 1]? = some (Obj.cells #[.int .i64 k2, .string t2, .slice mo2 mn2 mc2, .slice lo2 ln2 lc2, .int .i64 p2] 29 (0, 0))) w4)
 have HB4 := Lib.hid (HB3.out.trans (hb4.mono (by omega)))
 have HO4 := Lib.hid ho4
 have HR4 := Lib.hid hr4
 obtain ⟨vo, vc, hvf⟩ := ho4.form
 have HVF := Lib.hid hvf
 clear ho4 hg4 hr4 hb4 hvf
 refine hK.out _ _ hHeld (fun hHeld => ?_)
 clear hK K
 try simp only [zt,zs,zz,Act.put,zi,zy,zx]
 refine qts [6, 7, 8, 9, 10] hHeld ?_
 iterate 5 (refine qtc (v := ?_) rfl rfl (fun w' hw' => ?_) ?_; rotate_left; (focus (go_simp; try with_reducible rfl)); simp only [zt,zs,zz,Act.put,zi,zy,zx])
 refine qtn ?_
 simp only [zt,zs,zz,Act.put,zi,zy,zx,qzl,qzn,qza,Nat.reduceAdd,Nat.reduceSub]
 refine wpAnyH_done (by kernel_rfl) ?_ _
 refine NoPanic.normal ?_
 clear hHeld
 clear hHeld
 obtain ⟨res, hres⟩ : ∃ r, r = pp.mB ls dd := ⟨_, rfl⟩
 rw [← hres] at HR4 ⊢
 have HRES := Lib.hid hres
 clear hres
 cases res with
 | none =>
  rw [show (none : Option (List Bd)).isSome = false from rfl]
  go_wp2_with fail
  refine bodyPost_ret (results_tmp2 rfl _ _ _) rfl ?_
  rw [← HRES.out]
  exact ⟨.slice none 0 0, rfl, fun r h => (by cases h), fun _ => rfl, HB4.out⟩
 | some r =>
  rw [show (some r).isSome = true from rfl]
  have hbr : bs4 = r := by have := HR4.out r rfl; simpa using this
  subst hbr
  have hfl := Lib.hid (mB_flat ls pp dd bs4 HRES.out.symm)
  have hlen : bs4.length ≤ 1000000 := by simp at hl4; omega
  have HV := HVF.out
  subst HV
  have OWN : Hid (∃ Q : Ending → World → Prop, Calls Try.prog 54 #[.slice vo bs4.length vc] w4 Q ∧ ∀ e w', Q e w' → e = .returned (.tuple #[]) ∧ RowO w.heap.size w' (.slice vo bs4.length vc) bs4 ∧ Below w.heap.size w w') := by
   cases vo with
   | none =>
    have hz : bs4 = [] := by
     obtain ⟨xs, hown, _⟩ := HO4.out
     rcases hown.2 with ⟨_, h⟩ | ⟨g', _, _, e1, _⟩
     ·exact List.length_eq_zero_iff.1 h
     ·injection e1 with e1; cases e1
    subst hz
    refine ⟨_, own_zero none vc w4, ?_⟩
    rintro e w' ⟨he, rfl⟩
    exact ⟨he, ⟨none, vc, rfl, fun i h => absurd h (by simp)⟩, HB4.out⟩
   | some a =>
    have hg9 : ∃ g, a = ⟨g, 0, none⟩ := by
     obtain ⟨xs, hown, _⟩ := HO4.out
     rcases hown.2 with ⟨e, _⟩ | ⟨g', _, _, e1, _⟩
     ·cases e
     ·injection e1 with e1; injection e1 with e1; exact ⟨g', e1⟩
    obtain ⟨g, rfl⟩ := hg9
    have hlow := (HO4.out.low g rfl)
    refine ⟨_, own_flat bs4 g vc w4 (HO4.out.halfO (fun b hb => (hfl.out b hb).1) hs4) hlen (fun b hb => ⟨by have := (hfl.out b hb).2.1; omega, by have := (hfl.out b hb).2.2; omega⟩), ?_⟩
    rintro e w' ⟨he, hh, hgr⟩
    exact ⟨he, hh.read (by omega), HB4.out.grown hgr (by omega) (fun k e => by injection e with e; omega)⟩
  obtain ⟨Q, hq1, hq2⟩ := OWN.out
  have HQ1 := Lib.hid hq1
  have HQ2 := Lib.hid hq2
  clear hq1 hq2 OWN HO4 HVF
  go_wp2_with fail
  refine HQ1.out.mono ?_
  intro e w5 h5
  obtain ⟨rfl, hrow, hb5⟩ := HQ2.out e w5 h5
  have HROW := Lib.hid hrow
  have HB5 := Lib.hid hb5
  clear h5 hrow hb5 HQ1 HQ2
  go_wp2_with fail
  refine bodyPost_ret (results_tmp2 rfl _ _ _) rfl ?_
  rw [← HRES.out]
  exact ⟨.slice vo bs4.length vc, rfl, fun r h => (by injection h with h; subst h; exact HROW.out), fun h => (by cases h), HB5.out⟩
end Go.Proofs.Ytecljchifebljaa
namespace Go.Proofs.Ytecljchifebljaa
open Go.RowKit
theorem MAt.low {S : Nat → Prop} {w : World} {mv : Value} {ms : List Int} (h : MAt S w mv ms) : MAt (fun g => g < w.heap.size) w mv ms := by
 rcases h with h | ⟨g, o, cap, arr, fz, h1, h2, h3, h4⟩
 ·exact .inl h
 ·exact .inr ⟨g, o, cap, arr, fz, h1, (Array.getElem?_eq_some_iff.1 h3).1, h3, h4⟩
mutual
theorem Dt.At.low {S : Nat → Prop} {w : World} : ∀ (d : Dt) (cs : Array Value), Dt.At S w d cs → Dt.At (fun g => g < w.heap.size) w d cs
 | .mk _ _ ms l _, cs, h => by
  rw [At_mk] at h ⊢
  obtain ⟨mv, lv, e, hm, hl⟩ := h
  refine ⟨mv, lv, e, hm.low, ?_⟩
  rcases hl with h | ⟨g, o, cap, arr, fz, h1, h2, h3, h4⟩
  ·exact .inl h
  ·exact .inr ⟨g, o, cap, arr, fz, h1, (Array.getElem?_eq_some_iff.1 h3).1, h3, Dts.At.low l arr o h4.1, h4.2⟩
theorem Dts.At.low {S : Nat → Prop} {w : World} : ∀ (l : List Dt) (arr : Array Value) (o : Nat), Dts.At S w l arr o → Dts.At (fun g => g < w.heap.size) w l arr o
 | [], _, _, _ => by unfold Dts.At; trivial
 | d :: l, arr, o, h => by
  unfold Dts.At at h ⊢
  obtain ⟨⟨cs, hc, hd⟩, hr⟩ := h
  exact ⟨⟨cs, hc, Dt.At.low d cs hd⟩, Dts.At.low l arr (o + 5) hr⟩
end
theorem LAt.low {S : Nat → Prop} {w : World} {v : Value} {l : List Dt} (h : LAt S w v l) : LAt (fun g => g < w.heap.size) w v l := by
 rcases h with h | ⟨g, o, cap, arr, fz, h1, h2, h3, h4⟩
 ·exact .inl h
 ·exact .inr ⟨g, o, cap, arr, fz, h1, (Array.getElem?_eq_some_iff.1 h3).1, h3, Dts.At.low l arr o h4.1, h4.2⟩
end Go.Proofs.Ytecljchifebljaa
namespace Go.Proofs.Ytecljchifebljaa
open Go Go.RowKit
def kP : ByteArray := ⟨#[40, 95, 32, 120, 41]⟩
def kD : ByteArray := ⟨#[40, 102, 32, 49, 41]⟩
def kX : ByteArray := ⟨#[40, 120, 32, 120, 41]⟩
def kN : Dt := .mk 3 ⟨#[120]⟩ [] [] 3
def kV : Dt := .mk 1 ⟨#[49]⟩ [] [] 3
theorem kP_is : oneOf kP = .mk 4 ⟨#[]⟩ [] [.mk 3 ⟨#[95]⟩ [] [] 1, kN] 0 := by kernel_rfl
theorem kD_is : oneOf kD = .mk 4 ⟨#[]⟩ [] [.mk 3 ⟨#[102]⟩ [] [] 1, kV] 0 := by kernel_rfl
theorem kM_is : (oneOf kP).mB [] (oneOf kD) = some [.mk kN 0 kV []] := by kernel_rfl
theorem kC_is : chkD [] (oneOf kX) (oneOf ⟨#[120]⟩) = 9 := by kernel_rfl
theorem kX_is : oneOf kX = .mk 4 ⟨#[]⟩ [] [.mk 3 ⟨#[120]⟩ [] [] 1, kN] 0 := by kernel_rfl
theorem kx_is : oneOf ⟨#[120]⟩ = .mk 3 ⟨#[120]⟩ [] [] 0 := by kernel_rfl
theorem sym_wf (t : ByteArray) (h : t.size ≤ 1000000) (k p : Int) : (Dt.mk k t [] [] p).wf := (wf_mk ..).2 ⟨fun _ => rfl, h, trivial, fun m hm => by cases hm⟩
theorem kP_wf : (oneOf kP).wf := by
 rw [kP_is]; exact (wf_mk ..).2 ⟨fun h => absurd rfl h, by decide, ⟨sym_wf _ (by decide) _ _, sym_wf _ (by decide) _ _, trivial⟩, fun m hm => by cases hm⟩
theorem kX_wf : (oneOf kX).wf := by
 rw [kX_is]; exact (wf_mk ..).2 ⟨fun h => absurd rfl h, by decide, ⟨sym_wf _ (by decide) _ _, sym_wf _ (by decide) _ _, trivial⟩, fun m hm => by cases hm⟩
theorem kx_wf : (oneOf ⟨#[120]⟩).wf := by rw [kx_is]; exact sym_wf _ (by decide) _ _
theorem kP_nod : (oneOf kP).nod = true := by kernel_rfl
set_option maxHeartbeats 8000000 in
set_option maxRecDepth 100000 in
theorem known_any (w : World) : Calls Try.prog 14 #[] w (RetBool true w) := by
 have F1 := Lib.hid (fun W => one_any kP W (by decide))
 have F2 := Lib.hid (fun W => one_any kD W (by decide))
 have F3 := Lib.hid (fun W => one_any kX W (by decide))
 have F4 := Lib.hid (fun W => one_any ⟨#[120]⟩ W (by decide))
 go_enter Try.func14, Try.ntmps14
 go_wp2_with fail
 refine (F1.out _).mono ?_
 rintro e w1 ⟨c1, rfl, h1, hb1⟩
 go_wp2_with fail
 refine (F2.out _).mono ?_
 rintro e w2 ⟨c2, rfl, h2, hb2⟩
 have hs1 := hb1.size
 have hs2 := hb2.size
 have HB2 := Lib.hid (hb1.trans (hb2.mono hs1))
 have FM := Lib.hid (matchP_any [] (.slice none 0 0) (oneOf kP) (oneOf kD) c1 c2 w2 (.inl ⟨rfl, rfl⟩) (by simp) (fun s h => by cases h) (Dt.At.low _ _ (Dt.At.keeps (Keeps.of_below hb2) _ _ h1)) (Dt.At.low _ _ h2) kP_wf kP_nod (by have := oneOf_size kP; rw [kP_is]; decide) (by rw [kD_is]; decide))
 clear h1 h2 hb1 hb2
 go_wp2_with fail
 refine FM.out.mono ?_
 rintro e w3 ⟨v, rfl, hr, _, hb3⟩
 obtain ⟨ao, cap, rfl, hrow⟩ := hr _ kM_is
 obtain ⟨g, rfl, n5, d5, a1, _, a3, an, ad⟩ := hrow 0 (by simp)
 have hs3 := hb3.size
 have HB3 := Lib.hid (HB2.out.trans (hb3.mono (by omega)))
 obtain ⟨mv, lv, rfl, _, _⟩ := At_five an
 obtain ⟨mv2, lv2, rfl, _, _⟩ := At_five ad
 have e1 : w3.cell? ⟨g, 1, none⟩ = some (.string ⟨#[120]⟩) := a1 1 (by decide)
 have e7 : w3.cell? ⟨g, 7, none⟩ = some (.string ⟨#[49]⟩) := a3 1 (by decide)
 rw [show ((oneOf kP).mB [] (oneOf kD)).isSome = true by rw [kM_is]; rfl]
 clear hr hrow a1 a3 an ad hb3 FM
 go_wp2_with fail
 refine (F3.out _).mono ?_
 rintro e w4 ⟨c3, rfl, h3, hb4⟩
 clear e1 e7
 go_wp2_with fail
 refine (F4.out _).mono ?_
 rintro e w5 ⟨c4, rfl, h4, hb5⟩
 have hs4 := hb4.size
 have hs5 := hb5.size
 have HB5 := Lib.hid (HB3.out.trans ((hb4.trans (hb5.mono hs4)).mono (by omega)))
 have FC := Lib.hid (check_any [] (.slice none 0 0) (oneOf kX) (oneOf ⟨#[120]⟩) c3 c4 w5 (.inl ⟨rfl, rfl⟩) (by simp) (fun s h => by cases h) (Dt.At.low _ _ (Dt.At.keeps (Keeps.of_below hb5) _ _ h3)) (Dt.At.low _ _ h4) kX_wf kx_wf (by rw [kX_is]; decide) (by rw [kx_is]; decide))
 rw [kC_is] at FC
 clear h3 h4 hb4 hb5
 go_wp2_with fail
 refine FC.out.mono ?_
 rintro e w6 ⟨rfl, hb6⟩
 have HB6 := Lib.hid (HB5.out.trans (hb6.mono (by omega)))
 clear hb6 FC
 go_wp2_with fail
 go_ret
 exact ⟨rfl, HB6.out⟩
end Go.Proofs.Ytecljchifebljaa
namespace Go.Proofs.Ytecljchifebljaa
open Go Go.RowKit
mutual
def Dt.wfb : Dt → Bool
 | .mk k t ms l p => (k == 4 || l.isEmpty) && decide (t.size ≤ 1000000) && ms.isEmpty && wfsb l
def wfsb : List Dt → Bool
 | [] => true
 | d :: r => d.wfb && wfsb r
end
mutual
theorem wfb_is : ∀ (d : Dt), d.wfb = true → d.wf
 | .mk k t ms l p, h => by
  rw [Dt.wfb] at h
  simp only [Bool.and_eq_true, Bool.or_eq_true, beq_iff_eq, decide_eq_true_eq, List.isEmpty_iff] at h
  obtain ⟨⟨⟨h1, h2⟩, h3⟩, h4⟩ := h
  exact (wf_mk ..).2 ⟨fun hk => h1.elim (fun e => absurd e hk) id, h2, wfsb_is l h4, fun m hm => by rw [h3] at hm; cases hm⟩
theorem wfsb_is : ∀ (l : List Dt), wfsb l = true → wfs l
 | [], _ => trivial
 | d :: r, h => by
  rw [wfsb, Bool.and_eq_true] at h
  exact ⟨wfb_is d h.1, wfsb_is r h.2⟩
end
end Go.Proofs.Ytecljchifebljaa
namespace Go.Proofs.Ytecljchifebljaa
open Go Go.RowKit
def dg (i : Nat) : UInt8 := UInt8.ofNat (48 + i)
def symD (t : ByteArray) : Dt := .mk 3 t [] [] 0
def aD (i : Nat) : Dt := symD ⟨#[97, dg i]⟩
def bD (i : Nat) : Dt := symD ⟨#[98, dg i]⟩
def nD (i : Nat) : Dt := .mk 1 (if i < 10 then ⟨#[dg i]⟩ else ⟨#[dg (i / 10), dg (i % 10)]⟩) [] [] 0
def cPs (a b : Nat) : List Dt := (List.range a).map aD ++ [symD ⟨#[120]⟩, symD dT] ++ (List.range b).map bD
def cP (a b : Nat) : Dt := .mk 4 ⟨#[]⟩ [] (cPs a b) 0
def cDs (k : Nat) : List Dt := (List.range k).map nD
def cD (k : Nat) : Dt := .mk 4 ⟨#[]⟩ [] (cDs k) 0
/-- What the law asks of what is bound. -/
def rcR (a b k : Nat) (r : List Bd) : Bool := (r.length == a + b + 1) && (((r[a]?).getD bZ).deep == 1) && (((r[a]?).getD bZ).rows.length == k - a - b) &&
 (List.range (k - a - b)).all fun i => ((((r[a]?).getD bZ).rows[i]?).getD bZ).dat.same (((cDs k)[a + i]?).getD dZ)
def rcO (a b k : Nat) : Bool := match mRf [] 8000 (cP a b) (cD k) with
 | none => decide (k < a + b)
 | some r => !decide (k < a + b) && rcR a b k r
theorem rcO_all : ((List.range 4).all fun a => (List.range 4).all fun b => (List.range 12).all fun k => rcO a b k) = true := by kernel_rfl
theorem rcC_all : ((List.range 4).all fun a => (List.range 4).all fun b => (chkD [] (cP a b) (oneOf ⟨#[49]⟩) == 0) && (cP a b).wfb && (cP a b).pat && decide ((cP a b).size ≤ 100)) = true := by kernel_rfl
end Go.Proofs.Ytecljchifebljaa
namespace Go.Proofs.Ytecljchifebljaa
open Go Go.RowKit
theorem ownsRow_same {w w' : World} {B e size : Nat} {v : Value} {n : Nat} {xs : List Value} (h : w.ownsRow B e size v n xs) (hg : ∀ g, v.ownBlock = some g → w'.heap[g]? = w.heap[g]?) : w'.ownsRow B e size v n xs := by
 refine ⟨h.1, ?_⟩
 rcases h.2 with hn | ⟨g, cap, cur, rfl, hb, hh, r⟩
 ·exact .inl hn
 ·exact .inr ⟨g, cap, cur, rfl, hb, (hg g rfl).trans hh, r⟩
mutual
/-- The twelve cells cs are this binding: its name and its datum lie in S, its rows in blocks of F, each in one of its own. -/
def Bd.OAt (S : Nat → Prop) (w : World) : Bd → (Nat → Prop) → Array Value → Prop
 | .mk n q d l, F, cs => ∃ (m1 l1 m2 l2 lv : Value) (xs : List Value) (c : Nat → Nat), cs = (n.five m1 l1 ++ [Value.int .i64 q] ++ d.five m2 l2 ++ [lv]).toArray ∧ Dt.At S w n (n.five m1 l1).toArray ∧ Dt.At S w d (d.five m2 l2).toArray ∧
   w.ownsRow 0 60 12 lv l.length xs ∧ (∀ g, lv.ownBlock = some g → F g) ∧ Bds.OAt S w l (fun i x => F x ∧ lv.ownBlock ≠ some x ∧ c x = i) xs 0
/-- The cells from the i-th on are these bindings. -/
def Bds.OAt (S : Nat → Prop) (w : World) : List Bd → (Nat → Nat → Prop) → List Value → Nat → Prop
 | [], _, _, _ => True
 | b :: l, Fs, xs, i => (∃ cs : Array Value, cs.size = 12 ∧ (∀ t, t < 12 → xs[12 * i + t]? = cs[t]?) ∧ Bd.OAt S w b (Fs i) cs) ∧ Bds.OAt S w l Fs xs (i + 1)
end
/-- A row of bindings, its own block and those of all rows in it among F; what they name and hold in S. -/
def RowN (S F : Nat → Prop) (w : World) (v : Value) (bs : List Bd) : Prop :=
 ∃ (xs : List Value) (c : Nat → Nat), w.ownsRow 0 60 12 v bs.length xs ∧ (∀ g, v.ownBlock = some g → F g) ∧ Bds.OAt S w bs (fun i x => F x ∧ v.ownBlock ≠ some x ∧ c x = i) xs 0
theorem OAt_mk (S : Nat → Prop) (w : World) (n : Dt) (q : Int) (d : Dt) (l : List Bd) (F : Nat → Prop) (cs : Array Value) :
  Bd.OAt S w (.mk n q d l) F cs ↔ ∃ m1 l1 m2 l2 lv, cs = (n.five m1 l1 ++ [Value.int .i64 q] ++ d.five m2 l2 ++ [lv]).toArray ∧ Dt.At S w n (n.five m1 l1).toArray ∧ Dt.At S w d (d.five m2 l2).toArray ∧ RowN S F w lv l := by
 unfold Bd.OAt RowN
 constructor
 ·rintro ⟨m1, l1, m2, l2, lv, xs, c, h1, h2, h3, h4, h5, h6⟩; exact ⟨m1, l1, m2, l2, lv, h1, h2, h3, xs, c, h4, h5, h6⟩
 ·rintro ⟨m1, l1, m2, l2, lv, h1, h2, h3, xs, c, h4, h5, h6⟩; exact ⟨m1, l1, m2, l2, lv, xs, c, h1, h2, h3, h4, h5, h6⟩
theorem Bds.OAt.get {S : Nat → Prop} {w : World} : ∀ (l : List Bd) (Fs : Nat → Nat → Prop) (xs : List Value) (i : Nat), Bds.OAt S w l Fs xs i → ∀ j (h : j < l.length), ∃ cs : Array Value, cs.size = 12 ∧ (∀ t, t < 12 → xs[12 * (i + j) + t]? = cs[t]?) ∧ Bd.OAt S w l[j] (Fs (i + j)) cs
 | [], _, _, _, _, j, h => absurd h (by simp)
 | b :: l, Fs, xs, i, h, 0, _ => by unfold Bds.OAt at h; exact h.1
 | b :: l, Fs, xs, i, h, j + 1, hj => by
  unfold Bds.OAt at h
  have := Bds.OAt.get l Fs xs (i + 1) h.2 j (by simpa using hj)
  rw [show i + 1 + j = i + (j + 1) by omega] at this
  exact this
theorem Bds.OAt.of_get {S : Nat → Prop} {w : World} : ∀ (l : List Bd) (Fs : Nat → Nat → Prop) (xs : List Value) (i : Nat), (∀ j (h : j < l.length), ∃ cs : Array Value, cs.size = 12 ∧ (∀ t, t < 12 → xs[12 * (i + j) + t]? = cs[t]?) ∧ Bd.OAt S w l[j] (Fs (i + j)) cs) → Bds.OAt S w l Fs xs i
 | [], _, _, _, _ => by unfold Bds.OAt; trivial
 | b :: l, Fs, xs, i, h => by
  unfold Bds.OAt
  refine ⟨h 0 (by simp), Bds.OAt.of_get l Fs xs (i + 1) fun j hj => ?_⟩
  have := h (j + 1) (by simpa using hj)
  rw [show i + (j + 1) = i + 1 + j by omega] at this
  exact this
theorem RowN_iff (S F : Nat → Prop) (w : World) (v : Value) (bs : List Bd) : RowN S F w v bs ↔ ∃ (xs : List Value) (c : Nat → Nat), w.ownsRow 0 60 12 v bs.length xs ∧ (∀ g, v.ownBlock = some g → F g) ∧
  ∀ j (h : j < bs.length), ∃ cs : Array Value, cs.size = 12 ∧ (∀ t, t < 12 → xs[12 * j + t]? = cs[t]?) ∧ Bd.OAt S w bs[j] (fun x => F x ∧ v.ownBlock ≠ some x ∧ c x = j) cs := by
 constructor
 ·rintro ⟨xs, c, h1, h2, h3⟩
  refine ⟨xs, c, h1, h2, fun j hj => ?_⟩
  have := Bds.OAt.get _ _ _ _ h3 j hj
  simpa using this
 ·rintro ⟨xs, c, h1, h2, h3⟩
  exact ⟨xs, c, h1, h2, Bds.OAt.of_get _ _ _ _ fun j hj => by simpa using h3 j hj⟩
mutual
theorem Bd.OAt.mono {S T : Nat → Prop} {w : World} (k : ∀ g, S g → T g) : ∀ (b : Bd) (F G : Nat → Prop) (cs : Array Value), (∀ x, F x → G x) → Bd.OAt S w b F cs → Bd.OAt T w b G cs
 | .mk n q d l, F, G, cs, hF, h => by
  rw [OAt_mk] at h ⊢
  obtain ⟨m1, l1, m2, l2, lv, e, hn, hd, xs, c, h1, h2, h3⟩ := h
  exact ⟨m1, l1, m2, l2, lv, e, hn.mono k, hd.mono k, xs, c, h1, fun g hg => hF g (h2 g hg), Bds.OAt.mono k l _ _ xs 0 (fun i x hx => ⟨hF x hx.1, hx.2⟩) h3⟩
theorem Bds.OAt.mono {S T : Nat → Prop} {w : World} (k : ∀ g, S g → T g) : ∀ (l : List Bd) (F G : Nat → Nat → Prop) (xs : List Value) (i : Nat), (∀ i x, F i x → G i x) → Bds.OAt S w l F xs i → Bds.OAt T w l G xs i
 | [], _, _, _, _, _, _ => by unfold Bds.OAt; trivial
 | b :: l, F, G, xs, i, hF, h => by
  unfold Bds.OAt at h ⊢
  obtain ⟨⟨cs, h1, h2, h3⟩, h4⟩ := h
  exact ⟨⟨cs, h1, h2, Bd.OAt.mono k b _ _ cs (hF i) h3⟩, Bds.OAt.mono k l F G xs (i + 1) hF h4⟩
end
theorem RowN.mono {S T F G : Nat → Prop} {w : World} {v : Value} {bs : List Bd} (h : RowN S F w v bs) (k : ∀ g, S g → T g) (hF : ∀ x, F x → G x) : RowN T G w v bs := by
 obtain ⟨xs, c, h1, h2, h3⟩ := h
 exact ⟨xs, c, h1, fun g hg => hF g (h2 g hg), Bds.OAt.mono k bs _ _ xs 0 (fun i x hx => ⟨hF x hx.1, hx.2⟩) h3⟩
mutual
theorem Bd.OAt.keeps {S : Nat → Prop} {w w' : World} (k : KeepsB S w w') : ∀ (b : Bd) (F : Nat → Prop) (cs : Array Value), (∀ x, F x → w'.heap[x]? = w.heap[x]?) → Bd.OAt S w b F cs → Bd.OAt S w' b F cs
 | .mk n q d l, F, cs, hF, h => by
  rw [OAt_mk] at h ⊢
  obtain ⟨m1, l1, m2, l2, lv, e, hn, hd, xs, c, h1, h2, h3⟩ := h
  exact ⟨m1, l1, m2, l2, lv, e, hn.keeps k.keeps, hd.keeps k.keeps, xs, c, ownsRow_same h1 (fun g hg => hF g (h2 g hg)), h2, Bds.OAt.keeps k l _ xs 0 (fun i x hx => hF x hx.1) h3⟩
theorem Bds.OAt.keeps {S : Nat → Prop} {w w' : World} (k : KeepsB S w w') : ∀ (l : List Bd) (F : Nat → Nat → Prop) (xs : List Value) (i : Nat), (∀ i x, F i x → w'.heap[x]? = w.heap[x]?) → Bds.OAt S w l F xs i → Bds.OAt S w' l F xs i
 | [], _, _, _, _, _ => by unfold Bds.OAt; trivial
 | b :: l, F, xs, i, hF, h => by
  unfold Bds.OAt at h ⊢
  obtain ⟨⟨cs, h1, h2, h3⟩, h4⟩ := h
  exact ⟨⟨cs, h1, h2, Bd.OAt.keeps k b _ cs (hF i) h3⟩, Bds.OAt.keeps k l F xs (i + 1) hF h4⟩
end
theorem RowN.keeps {S F : Nat → Prop} {w w' : World} {v : Value} {bs : List Bd} (h : RowN S F w v bs) (k : KeepsB S w w') (hF : ∀ x, F x → w'.heap[x]? = w.heap[x]?) : RowN S F w' v bs := by
 obtain ⟨xs, c, h1, h2, h3⟩ := h
 exact ⟨xs, c, ownsRow_same h1 (fun g hg => hF g (h2 g hg)), h2, Bds.OAt.keeps k bs _ xs 0 (fun i x hx => hF x hx.1) h3⟩
mutual
theorem Bd.OAt.bound {S : Nat → Prop} {w : World} : ∀ (b : Bd) (F : Nat → Prop) (cs : Array Value), Bd.OAt S w b F cs → Bd.OAt S w b (fun x => F x ∧ x < w.heap.size) cs
 | .mk n q d l, F, cs, h => by
  rw [OAt_mk] at h ⊢
  obtain ⟨m1, l1, m2, l2, lv, e, hn, hd, xs, c, h1, h2, h3⟩ := h
  exact ⟨m1, l1, m2, l2, lv, e, hn, hd, xs, c, h1, fun g hg => ⟨h2 g hg, (h1.lt g hg).2⟩, Bds.OAt.mono (fun _ h => h) l _ _ xs 0 (fun i x hx => ⟨⟨hx.1.1, hx.2⟩, hx.1.2⟩) (Bds.OAt.bound l _ xs 0 h3)⟩
theorem Bds.OAt.bound {S : Nat → Prop} {w : World} : ∀ (l : List Bd) (F : Nat → Nat → Prop) (xs : List Value) (i : Nat), Bds.OAt S w l F xs i → Bds.OAt S w l (fun i x => F i x ∧ x < w.heap.size) xs i
 | [], _, _, _, _ => by unfold Bds.OAt; trivial
 | b :: l, F, xs, i, h => by
  unfold Bds.OAt at h ⊢
  obtain ⟨⟨cs, h1, h2, h3⟩, h4⟩ := h
  exact ⟨⟨cs, h1, h2, Bd.OAt.bound b _ cs h3⟩, Bds.OAt.bound l F xs (i + 1) h4⟩
end
theorem RowN.bound {S F : Nat → Prop} {w : World} {v : Value} {bs : List Bd} (h : RowN S F w v bs) : RowN S (fun x => F x ∧ x < w.heap.size) w v bs := by
 obtain ⟨xs, c, h1, h2, h3⟩ := h
 exact ⟨xs, c, h1, fun g hg => ⟨h2 g hg, (h1.lt g hg).2⟩, Bds.OAt.mono (fun _ h => h) bs _ _ xs 0 (fun i x hx => ⟨⟨hx.1.1, hx.2⟩, hx.1.2⟩) (Bds.OAt.bound bs _ xs 0 h3)⟩
theorem RowN.below {S F : Nat → Prop} {w w' : World} {v : Value} {bs : List Bd} (h : RowN S F w v bs) (hb : Below w.heap.size w w') : RowN S F w' v bs :=
 (h.bound.keeps (KeepsB.of_below hb) (fun x hx => hb.block x hx.2)).mono (fun _ h => h) (fun _ h => h.1)
theorem RowN.nil (S F : Nat → Prop) (w : World) : RowN S F w (.slice none 0 0) [] := ⟨[], fun _ => 0, World.ownsRow_nil _ _ _ _, fun g hg => (by cases hg), by unfold Bds.OAt; trivial⟩
theorem RowN.form {S F : Nat → Prop} {w : World} {v : Value} {bs : List Bd} (h : RowN S F w v bs) : ∃ ao c, v = .slice ao bs.length c := by
 obtain ⟨xs, c, h1, _, _⟩ := h
 rcases h1.2 with ⟨rfl, hz⟩ | ⟨g, cap, cur, rfl, _⟩
 ·exact ⟨none, 0, by rw [hz]⟩
 ·exact ⟨_, _, rfl⟩
theorem RowN.own {S F : Nat → Prop} {w : World} {v : Value} {bs : List Bd} (h : RowN S F w v bs) : ∀ g, v.ownBlock = some g → F g ∧ g < w.heap.size := by
 obtain ⟨xs, c, h1, h2, _⟩ := h
 exact fun g hg => ⟨h2 g hg, (h1.lt g hg).2⟩
open Classical in
/-- Behind an append of one binding: a row one longer. -/
theorem RowN.snoc {S F G : Nat → Prop} {w : World} {v : Value} {bs : List Bd} {b : Bd} {cs : Array Value} (h : RowN S F w v bs) (h5 : cs.size = 12) (hb : Bd.OAt S w b G cs) (hG : ∀ x, G x → ¬ F x) (hS : ∀ x, v.ownBlock = some x → ¬ S x) :
  ∃ xs, w.ownsRow 0 60 12 v bs.length xs ∧ ∀ v' w9, w9.ownsRow 0 60 12 v' (bs.length + 1) (xs ++ cs.toList) → w.grownBy w9 v.ownBlock → (v'.ownBlock = v.ownBlock ∨ v'.ownBlock = some w.heap.size) → RowN S (fun x => F x ∨ G x ∨ v'.ownBlock = some x) w9 v' (bs ++ [b]) := by
 have hbd := Bd.OAt.bound b _ cs hb
 have hrb := h.bound
 rw [RowN_iff] at h hrb
 obtain ⟨xs, c0, h1, h2, _⟩ := h
 refine ⟨xs, h1, fun v' w9 h9 hg hv => ?_⟩
 obtain ⟨xs', c, h1', h2', h3⟩ := hrb
 have hxe : xs' = xs := by
  have e1 := h1.1
  have e2 := h1'.1
  rcases h1.2 with ⟨rfl, hz⟩ | ⟨g, cap, cur, rfl, hbg, hh, _, _, _, ht⟩
  ·rw [hz] at e1 e2
   rw [List.length_eq_zero_iff.1 (by omega : xs.length = 0), List.length_eq_zero_iff.1 (by omega : xs'.length = 0)]
  ·rcases h1'.2 with ⟨e, _⟩ | ⟨g', cap', cur', e, _, hh', _, _, _, ht'⟩
   ·cases e
   ·injection e with e _ _
    injection e with e; injection e with e
    subst e
    rw [hh] at hh'; injection hh' with hh'; injection hh' with hh'
    rw [← ht, ← ht', hh']
 subst hxe
 have hk : KeepsB S w w9 := KeepsB.of_grown hg (fun g hs e => hS g e.symm hs)
 have hl : xs'.length = bs.length * 12 := h1.1
 have hne : ∀ x, x < w.heap.size → v.ownBlock ≠ some x → v'.ownBlock ≠ some x := fun x hx hx2 => by
  rcases hv with e | e
  ·rw [e]; exact hx2
  ·rw [e]; intro e; injection e with e; omega
 rw [RowN_iff]
 refine ⟨_, fun x => if G x then bs.length else c x, by simpa using h9, fun g hg => .inr (.inr hg), fun j hj => ?_⟩
 by_cases hlt : j < bs.length
 ·obtain ⟨d, d1, d2, d3⟩ := h3 j hlt
  refine ⟨d, d1, fun t ht => ?_, ?_⟩
  ·rw [List.getElem?_append_left (by omega)]; exact d2 t ht
  ·rw [List.getElem_append_left hlt]
   have d4 := Bd.OAt.keeps hk _ _ _ (fun x (hx : (F x ∧ x < w.heap.size) ∧ v.ownBlock ≠ some x ∧ c x = j) => hg.block x hx.1.2 (fun e => hx.2.1 e.symm)) d3
   refine Bd.OAt.mono (fun _ h => h) _ _ _ _ ?_ d4
   rintro x ⟨⟨x1, x2⟩, x3, x4⟩
   refine ⟨.inl x1, hne x x2 x3, ?_⟩
   show (if G x then bs.length else c x) = j
   rw [if_neg (fun h => hG x h x1)]; exact x4
 ·have hj' : j = bs.length := by simp at hj; omega
  subst hj'
  refine ⟨cs, h5, fun t ht => ?_, ?_⟩
  ·rw [List.getElem?_append_right (by omega), show 12 * bs.length + t - xs'.length = t by omega]; simp
  ·rw [List.getElem_append_right (by omega)]
   simp only [Nat.sub_self, List.getElem_cons_zero]
   have hgv : ∀ x, G x → v.ownBlock ≠ some x := fun x hx e => hG x hx (h2 x e)
   have d4 := Bd.OAt.keeps hk _ _ _ (fun x (hx : G x ∧ x < w.heap.size) => hg.block x hx.2 (fun e => hgv x hx.1 e.symm)) hbd
   refine Bd.OAt.mono (fun _ h => h) _ _ _ _ ?_ d4
   rintro x ⟨x1, x2⟩
   exact ⟨.inr (.inl x1), hne x x2 (hgv x x1), by show (if G x then bs.length else c x) = bs.length; rw [if_pos x1]⟩
end Go.Proofs.Ytecljchifebljaa
namespace Go.Proofs.Ytecljchifebljaa
open Go Go.RowKit
/-- A row of n bindings, of which E tells; c tells whose a block is. -/
def RowC (F : Nat → Prop) (E : Nat → (Nat → Prop) → Array Value → Prop) (w : World) (v : Value) (n : Nat) (c : Nat → Nat) : Prop :=
 ∃ xs : List Value, w.ownsRow 0 60 12 v n xs ∧ (∀ g, v.ownBlock = some g → F g) ∧ ∀ j, j < n → ∃ cs : Array Value, cs.size = 12 ∧ (∀ t, t < 12 → xs[12 * j + t]? = cs[t]?) ∧ E j (fun x => F x ∧ v.ownBlock ≠ some x ∧ c x = j) cs
theorem RowN_C (S F : Nat → Prop) (w : World) (v : Value) (bs : List Bd) : RowN S F w v bs ↔ ∃ c, RowC F (fun j G cs => ∃ b, bs[j]? = some b ∧ Bd.OAt S w b G cs) w v bs.length c := by
 rw [RowN_iff]
 constructor
 ·rintro ⟨xs, c, h1, h2, h3⟩
  refine ⟨c, xs, h1, h2, fun j hj => ?_⟩
  obtain ⟨cs, k1, k2, k3⟩ := h3 j hj
  exact ⟨cs, k1, k2, bs[j], List.getElem?_eq_getElem hj, k3⟩
 ·rintro ⟨c, xs, h1, h2, h3⟩
  refine ⟨xs, c, h1, h2, fun j hj => ?_⟩
  obtain ⟨cs, k1, k2, b, k3, k4⟩ := h3 j hj
  rw [List.getElem?_eq_getElem hj] at k3
  injection k3 with k3
  exact ⟨cs, k1, k2, k3 ▸ k4⟩
theorem RowC.map {F : Nat → Prop} {E E' : Nat → (Nat → Prop) → Array Value → Prop} {w w' : World} {v : Value} {n : Nat} {c : Nat → Nat} {F' : Nat → Prop} (h : RowC F E w v n c) (hg : ∀ g, v.ownBlock = some g → w'.heap[g]? = w.heap[g]?) (hF : ∀ x, F x → F' x)
  (hE : ∀ j G G' cs, j < n → (∀ x, G x → F x ∧ v.ownBlock ≠ some x ∧ c x = j) → (∀ x, G x → G' x) → E j G cs → E' j G' cs) : RowC F' E' w' v n c := by
 obtain ⟨xs, h1, h2, h3⟩ := h
 refine ⟨xs, ownsRow_same h1 hg, fun g e => hF g (h2 g e), fun j hj => ?_⟩
 obtain ⟨cs, k1, k2, k3⟩ := h3 j hj
 exact ⟨cs, k1, k2, hE j _ _ cs hj (fun x h => h) (fun x h => ⟨hF x h.1, h.2⟩) k3⟩
theorem RowC.get {F : Nat → Prop} {E : Nat → (Nat → Prop) → Array Value → Prop} {w : World} {v : Value} {n : Nat} {c : Nat → Nat} (h : RowC F E w v n c) {i : Nat} (hi : i < n) :
  ∃ g cap cur cs, v = .slice (some ⟨g, 0, none⟩) n cap ∧ F g ∧ w.heap[g]? = some (.cells cur 60 (0, 0)) ∧ n ≤ cap ∧ cur.size = cap * 12 ∧ cs.size = 12 ∧ (∀ t, t < 12 → cur[12 * i + t]? = cs[t]?) ∧ E i (fun x => F x ∧ g ≠ x ∧ c x = i) cs := by
 obtain ⟨xs, h1, h2, h3⟩ := h
 obtain ⟨cs, k1, k2, k3⟩ := h3 i hi
 rcases h1.2 with ⟨_, hz⟩ | ⟨g, cap, cur, rfl, _, hh, hnc, hcm, hcs, ht⟩
 ·omega
 ·refine ⟨g, cap, cur, cs, rfl, h2 g rfl, hh, hnc, hcs, k1, fun t ht' => ?_, ?_⟩
  ·rw [← k2 t ht', ← ht, List.getElem?_take, if_pos (by omega)]; simp
  ·have e : (fun x => F x ∧ (Value.slice (some ⟨g, 0, none⟩) n cap).ownBlock ≠ some x ∧ c x = i) = (fun x => F x ∧ g ≠ x ∧ c x = i) := by
    funext x
    simp [Value.ownBlock]
   rw [← e]; exact k3
open Classical in
/-- The i-th binding is written over, and gets blocks of G more. -/
theorem RowC.put {F F' G : Nat → Prop} {E E' : Nat → (Nat → Prop) → Array Value → Prop} {w w' : World} {g n cap i : Nat} {cur cur' cs' : Array Value} {c : Nat → Nat} (h : RowC F E w (.slice (some ⟨g, 0, none⟩) n cap) n c) (hi : i < n)
  (hg : w.heap[g]? = some (.cells cur 60 (0, 0))) (hg' : w'.heap[g]? = some (.cells cur' 60 (0, 0))) (hs : cur'.size = cur.size) (h5 : cs'.size = 12) (hin : ∀ t, t < 12 → cur'[12 * i + t]? = cs'[t]?) (hout : ∀ t, (t < 12 * i ∨ 12 * i + 12 ≤ t) → cur'[t]? = cur[t]?)
  (hF : ∀ x, F x → F' x) (hG : ∀ x, G x → ¬ F x)
  (hE : ∀ j K K' cs, j < n → j ≠ i → (∀ x, K x → F x ∧ g ≠ x ∧ c x = j) → (∀ x, K x → K' x) → E j K cs → E' j K' cs)
  (hEi : E' i (fun x => F' x ∧ g ≠ x ∧ (if G x then i else c x) = i) cs') : RowC F' E' w' (.slice (some ⟨g, 0, none⟩) n cap) n (fun x => if G x then i else c x) := by
 obtain ⟨xs, h1, h2, h3⟩ := h
 have hown : ∀ x, ((Value.slice (some ⟨g, 0, none⟩) n cap).ownBlock ≠ some x) = (g ≠ x) := fun x => by simp [Value.ownBlock]
 rcases h1.2 with ⟨e, _⟩ | ⟨g1, cap1, cur1, e, hb, hh, hnc, hcm, hcs, ht⟩
 ·cases e
 injection e with e _ e2
 injection e with e; injection e with e
 subst e; subst e2
 rw [hg] at hh
 injection hh with hh; injection hh with hh
 subst hh
 have hxl := h1.1
 have hlt : n * 12 ≤ cap * 12 := Nat.mul_le_mul_right 12 hnc
 refine ⟨cur'.toList.take (n * 12), ⟨by rw [List.length_take, Array.length_toList]; omega, .inr ⟨g, cap, cur', rfl, hb, hg', hnc, hcm, by omega, rfl⟩⟩, fun x e => hF x (h2 x e), fun j hj => ?_⟩
 have hread : ∀ t, t < n * 12 → (cur'.toList.take (n * 12))[t]? = cur'[t]? := fun t h => by rw [List.getElem?_take, if_pos h]; simp
 by_cases hji : j = i
 ·subst hji
  refine ⟨cs', h5, fun t ht' => ?_, ?_⟩
  ·rw [hread _ (by omega)]; exact hin t ht'
  ·simp only [hown]; exact hEi
 ·obtain ⟨cs, k1, k2, k3⟩ := h3 j hj
  refine ⟨cs, k1, fun t ht' => ?_, ?_⟩
  ·rw [hread _ (by omega), hout _ (by omega), ← k2 t ht', ← ht, List.getElem?_take, if_pos (by omega)]; simp
  ·simp only [hown] at k3 ⊢
   refine hE j _ _ cs hj hji (fun x h => h) ?_ k3
   rintro x ⟨x1, x2, x3⟩
   refine ⟨hF x x1, x2, ?_⟩
   rw [if_neg (fun h => hG x h x1)]; exact x3
/-- One cell of a binding is another one. -/
theorem cells12_set {cur cs : Array Value} {i : Nat} {u : Value} (m : Nat) (hm : m < 12) (h5 : cs.size = 12) (hl : 12 * i + 12 ≤ cur.size) (h : ∀ t, t < 12 → cur[12 * i + t]? = cs[t]?) :
  (cur.setIfInBounds (12 * i + m) u).size = cur.size ∧ (cs.setIfInBounds m u).size = 12 ∧ (∀ t, t < 12 → (cur.setIfInBounds (12 * i + m) u)[12 * i + t]? = (cs.setIfInBounds m u)[t]?) ∧ ∀ t, (t < 12 * i ∨ 12 * i + 12 ≤ t) → (cur.setIfInBounds (12 * i + m) u)[t]? = cur[t]? := by
 refine ⟨by simp, by simpa using h5, fun t ht => ?_, fun t ht => ?_⟩
 ·rw [Array.getElem?_setIfInBounds, Array.getElem?_setIfInBounds]
  by_cases e : m = t
  ·subst e; rw [if_pos rfl, if_pos rfl, if_pos (by omega), if_pos (by omega)]
  ·rw [if_neg (by omega), if_neg e]; exact h t ht
 ·rw [Array.getElem?_setIfInBounds, if_neg (by omega)]
end Go.Proofs.Ytecljchifebljaa
namespace Go.Proofs.Ytecljchifebljaa
open Go Go.RowKit
theorem RowN.get {S F : Nat → Prop} {w : World} {ao : Option Addr} {n c : Nat} {bs : List Bd} (h : RowN S F w (.slice ao n c) bs) (i : Nat) (hi : i < bs.length) :
  ∃ (g : Nat) (m2 l2 : Value) (lo : Option Addr) (lc : Nat), ao = some ⟨g, 0, none⟩ ∧ bs.length ≤ c ∧ (∃ cur, w.heap[g]? = some (.cells cur 60 (0, 0))) ∧ w.cell? ⟨g, i * 12 + 1, none⟩ = some (.string bs[i].name.text) ∧ w.cell? ⟨g, i * 12 + 5, none⟩ = some (.int .i64 bs[i].deep) ∧
   (w.cell? ⟨g, i * 12 + 6, none⟩ = some (.int .i64 bs[i].dat.kind) ∧ w.cell? ⟨g, i * 12 + 7, none⟩ = some (.string bs[i].dat.text) ∧ w.cell? ⟨g, i * 12 + 8, none⟩ = some m2 ∧ w.cell? ⟨g, i * 12 + 9, none⟩ = some l2 ∧ w.cell? ⟨g, i * 12 + 10, none⟩ = some (.int .i64 bs[i].dat.place)) ∧
   w.cell? ⟨g, i * 12 + 11, none⟩ = some (.slice lo bs[i].rows.length lc) ∧ Dt.At S w bs[i].dat #[.int .i64 bs[i].dat.kind, .string bs[i].dat.text, m2, l2, .int .i64 bs[i].dat.place] := by
 rw [RowN_iff] at h
 obtain ⟨xs, cc, hown, hF, hget⟩ := h
 obtain ⟨cs, h12, hxs, hat⟩ := hget i hi
 generalize hb : bs[i] = b at hat ⊢
 obtain ⟨nm, q, d, l⟩ := b
 rw [OAt_mk] at hat
 obtain ⟨m1, l1, m2, l2, lv, rfl, hn, hd, hl⟩ := hat
 obtain ⟨lo, lc, rfl⟩ := hl.form
 rcases hown.2 with ⟨e, hz⟩ | ⟨g, cap, cur, e, _, hh, hnc, hcm, hcs, ht⟩
 ·omega
 ·injection e with e1 e2 e3
  subst e1 e3
  have key : ∀ t v, t < 12 → (nm.five m1 l1 ++ [Value.int .i64 q] ++ d.five m2 l2 ++ [.slice lo l.length lc])[t]? = some v → w.cell? ⟨g, i * 12 + t, none⟩ = some v := by
   intro t v ht12 hv
   rw [cell_of_row _ _ _ _ _ _ hh, ← Array.getElem?_toList]
   have h1 := hxs t ht12
   rw [List.getElem?_toArray, hv, ← ht, List.getElem?_take] at h1
   split at h1
   ·rw [← h1]; congr 1; omega
   ·cases h1
  exact ⟨g, m2, l2, lo, lc, rfl, hnc, ⟨cur, hh⟩, key 1 _ (by decide) rfl, key 5 _ (by decide) rfl, ⟨key 6 _ (by decide) rfl, key 7 _ (by decide) rfl, key 8 _ (by decide) rfl, key 9 _ (by decide) rfl, key 10 _ (by decide) rfl⟩, key 11 _ (by decide) rfl, hd⟩
end Go.Proofs.Ytecljchifebljaa
