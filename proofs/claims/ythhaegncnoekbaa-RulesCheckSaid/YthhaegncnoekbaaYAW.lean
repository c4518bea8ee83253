/- Rules: the program's Match, of patterns without dots. -/
import Derived.Test.YthhaegncnoekbaaYAA
import Derived.Test.YthhaegncnoekbaaYAV
import Derived.Deep.Slices
import Derived.Deep.Fields
import Derived.ChangeSame
import Derived.Below
set_option linter.unusedVariables false
set_option linter.unusedSimpArgs false
namespace Go.Proofs.Ythhaegncnoekbaa
open Go Go.RowKit
attribute [local go_sem] Oper.semAt_some
mutual
theorem mB_flat (ls : List ByteArray) : ∀ (p d : Dt) (r : List Bd), p.mB ls d = some r → ∀ b ∈ r, b.rows = [] ∧ b.name.size ≤ p.size ∧ b.dat.size ≤ d.size
  | .mk k t ms l p, d, r, h, b, hb => by
    rw [mB_mk] at h
    split at h
    · split at h <;> cases h; cases hb
    · split at h
      · cases h; cases hb
      · split at h
        · injection h with h; subst h
          rw [List.mem_singleton] at hb; subst hb
          exact ⟨rfl, Nat.le_refl _, Nat.le_refl _⟩
        · split at h
          · cases h
          · split at h
            · split at h <;> cases h; cases hb
            · split at h
              · obtain ⟨h1, h2, h3⟩ := mBs_flat ls l d.dl r h b hb
                refine ⟨h1, by simp only [Dt.size]; omega, ?_⟩
                obtain ⟨k2, t2, ms2, l2, p2⟩ := d
                simp only [Dt.dl] at h3
                simp only [Dt.size]; omega
              · cases h
theorem mBs_flat (ls : List ByteArray) : ∀ (ps ds : List Dt) (r : List Bd), mBs ls ps ds = some r → ∀ b ∈ r, b.rows = [] ∧ b.name.size ≤ Dt.sizes ps ∧ b.dat.size ≤ Dt.sizes ds
  | [], [], r, h, b, hb => by rw [mBs] at h; cases h; cases hb
  | p :: ps, d :: ds, r, h, b, hb => by
    rw [mBs_cons] at h
    cases h1 : p.mB ls d with
    | none => rw [h1] at h; cases h
    | some r1 =>
      rw [h1] at h
      cases h2 : mBs ls ps ds with
      | none => rw [h2] at h; cases h
      | some r2 =>
        rw [h2] at h; injection h with h; subst h
        rcases List.mem_append.1 hb with hb | hb
        · obtain ⟨a1, a2, a3⟩ := mB_flat ls p d r1 h1 b hb
          exact ⟨a1, by simp only [Dt.sizes]; omega, by simp only [Dt.sizes]; omega⟩
        · obtain ⟨a1, a2, a3⟩ := mBs_flat ls ps ds r2 h2 b hb
          exact ⟨a1, by simp only [Dt.sizes]; omega, by simp only [Dt.sizes]; omega⟩
  | [], d :: ds, r, h, b, hb => by rw [mBs_len ls [] (d :: ds) (by simp)] at h; cases h
  | p :: ps, [], r, h, b, hb => by rw [mBs_len ls (p :: ps) [] (by simp)] at h; cases h
end
theorem OwnPI.halfO {B : Nat} {w : World} {g n cap : Nat} {bs : List Bd} (h : OwnPI (fun x => x < B) B w (.slice (some ⟨g, 0, none⟩) n cap) bs) (hf : ∀ b ∈ bs, b.rows = []) (hB : B ≤ w.heap.size) : HalfO w.heap.size g bs 0 w := by
  have hlow := (h.low g rfl).1
  obtain ⟨xs, hown, hd⟩ := h
  rcases hown.2 with ⟨e, _⟩ | ⟨g', cap', cur, e1, hbg, hg, hnc, hcm, hcs, htake⟩
  · cases e
  · injection e1 with e1 _ _
    injection e1 with e1; injection e1 with e1
    subst e1
    refine ⟨cur, hg, by rw [hcs]; exact Nat.mul_le_mul_right 12 hnc, fun i hi => ?_⟩
    obtain ⟨cs, c12, h1, h2⟩ := hd i hi
    have hcur : ∀ t, t < 12 → cur[12 * i + t]? = cs[t]? := fun t ht => by rw [← h1 t ht, ← htake, List.getElem?_take, if_pos (by omega)]; simp
    obtain ⟨m1, l1, m2, l2, lr, rfl, hna, hda, hlr, _⟩ := BdPAt_twelve h2
    refine ⟨#[.int .i64 bs[i].name.kind, .string bs[i].name.text, m1, l1, .int .i64 bs[i].name.place], #[.int .i64 bs[i].dat.kind, .string bs[i].dat.text, m2, l2, .int .i64 bs[i].dat.place], fun t ht => ?_, hcur 5 (by decide), fun t ht => ?_, ?_, fun h => absurd h (by omega), fun _ => ⟨hna.mono (fun x h => ⟨by have : x < B := h; omega, by have : x < B := h; omega⟩), hda.mono (fun x h => ⟨by have : x < B := h; omega, by have : x < B := h; omega⟩)⟩⟩
    · rw [hcur t (by omega)]
      rcases (show t = 0 ∨ t = 1 ∨ t = 2 ∨ t = 3 ∨ t = 4 by omega) with rfl | rfl | rfl | rfl | rfl <;> rfl
    · rw [show 12 * i + 6 + t = 12 * i + (6 + t) by omega, hcur (6 + t) (by omega)]
      rcases (show t = 0 ∨ t = 1 ∨ t = 2 ∨ t = 3 ∨ t = 4 by omega) with rfl | rfl | rfl | rfl | rfl <;> rfl
    · rw [hf bs[i] (List.getElem_mem hi)] at hlr
      obtain ⟨ao, c, rfl⟩ := hlr.form
      exact ⟨ao, c, hcur 11 (by decide)⟩
/-- A row of bindings, read: each has its name and its datum in new memory. -/
def RowO (N : Nat) (w : World) (v : Value) (r : List Bd) : Prop :=
  ∃ ao cap, v = .slice ao r.length cap ∧ ∀ i (h : i < r.length), ∃ g, ao = some ⟨g, 0, none⟩ ∧ ∃ n5 d5 : Array Value, (∀ t, t < 5 → w.cell? ⟨g, i * 12 + t, none⟩ = n5[t]?) ∧ w.cell? ⟨g, i * 12 + 5, none⟩ = some (.int .i64 r[i].deep) ∧ (∀ t, t < 5 → w.cell? ⟨g, i * 12 + 6 + t, none⟩ = d5[t]?) ∧
    Dt.At (fun x => N ≤ x) w r[i].name n5 ∧ Dt.At (fun x => N ≤ x) w r[i].dat d5
theorem HalfO.read {N M g cap : Nat} {r : List Bd} {w : World} (h : HalfO N g r r.length w) (hM : M ≤ N) : RowO M w (.slice (some ⟨g, 0, none⟩) r.length cap) r := by
  obtain ⟨cur, h1, _, h3⟩ := h
  refine ⟨_, cap, rfl, fun i hi => ?_⟩
  obtain ⟨n5, d5, a1, a2, a3, _, a5, _⟩ := h3 i hi
  refine ⟨g, rfl, n5, d5, fun t ht => ?_, ?_, fun t ht => ?_, (a5 hi).1.mono (fun x h => by have : N ≤ x := h; show M ≤ x; omega), (a5 hi).2.mono (fun x h => by have : N ≤ x := h; show M ≤ x; omega)⟩
  · rw [Lib.cell_of_heap h1, Nat.mul_comm i 12]; exact a1 t ht
  · rw [Lib.cell_of_heap h1, Nat.mul_comm i 12]; exact a2
  · rw [Lib.cell_of_heap h1, Nat.mul_comm i 12]; exact a3 t ht
def RetMt (res : Option (List Bd)) (w : World) (e : Ending) (w' : World) : Prop := ∃ v, e = .returned (.tuple #[v, .bool res.isSome]) ∧ (∀ r, res = some r → RowO w.heap.size w' v r) ∧ (res = none → v = .slice none 0 0) ∧ Below w.heap.size w w'
set_option maxHeartbeats 16000000 in
set_option maxRecDepth 100000 in
theorem matchP_any (ls : List ByteArray) (lv : Value) (pp dd : Dt) (pcs dcs : Array Value) (w : World) (hls : LitsAt w lv ls) (hll : ls.length ≤ 1000000) (hlz : ∀ s ∈ ls, s.size ≤ 1000000) (hp : Dt.At (fun g => g < w.heap.size) w pp pcs) (hd : Dt.At (fun g => g < w.heap.size) w dd dcs) (hwf : pp.wf) (hnod : pp.nod = true)
    (hps : pp.size ≤ 1000000) (hds : dd.size ≤ 1000000) : Calls Try.prog 24 #[lv, .agg pcs, .agg dcs] w (RetMt (pp.mB ls dd) w) := by
  have HLS := Lib.hid hls
  have HLZ := Lib.hid hlz
  have HP := Lib.hid hp
  have HD := Lib.hid hd
  have HWF := Lib.hid hwf
  have HNOD := Lib.hid hnod
  obtain ⟨ao, ac, rfl⟩ := hls.form
  obtain ⟨k, t, mo, mn, mc, lo, ln, lc, p, rfl⟩ := At_slices hp
  obtain ⟨k2, t2, mo2, mn2, mc2, lo2, ln2, lc2, p2, rfl⟩ := At_slices hd
  have hb0 : Below w.heap.size w ((w.alloc (.cells #[.int .i64 k, .string t, .slice mo mn mc, .slice lo ln lc, .int .i64 p] 29)).alloc (.cells #[.int .i64 k2, .string t2, .slice mo2 mn2 mc2, .slice lo2 ln2 lc2, .int .i64 p2] 29)) := ((Below.refl _ _).alloc (Nat.le_refl _) _).alloc (by simp) _
  have hx0 : ((w.alloc (.cells #[.int .i64 k, .string t, .slice mo mn mc, .slice lo ln lc, .int .i64 p] 29)).alloc (.cells #[.int .i64 k2, .string t2, .slice mo2 mn2 mc2, .slice lo2 ln2 lc2, .int .i64 p2] 29)).heap[w.heap.size]? = some (Obj.cells #[.int .i64 k, .string t, .slice mo mn mc, .slice lo ln lc, .int .i64 p] 29 (0, 0)) := (Lib.alloc_old _ _ _ (by simp)).trans (alloc_at _ _)
  have hx1 : ((w.alloc (.cells #[.int .i64 k, .string t, .slice mo mn mc, .slice lo ln lc, .int .i64 p] 29)).alloc (.cells #[.int .i64 k2, .string t2, .slice mo2 mn2 mc2, .slice lo2 ln2 lc2, .int .i64 p2] 29)).heap[w.heap.size + 1]? = some (Obj.cells #[.int .i64 k2, .string t2, .slice mo2 mn2 mc2, .slice lo2 ln2 lc2, .int .i64 p2] 29 (0, 0)) := second2 _ _ _
  have hs9 : ((w.alloc (.cells #[.int .i64 k, .string t, .slice mo mn mc, .slice lo ln lc, .int .i64 p] 29)).alloc (.cells #[.int .i64 k2, .string t2, .slice mo2 mn2 mc2, .slice lo2 ln2 lc2, .int .i64 p2] 29)).heap.size = w.heap.size + 1 + 1 := by simp
  clear hls hlz hp hd hwf hnod
  go_enter Try.func24, Try.ntmps24
  go_upto_region 1 with fail
  obtain ⟨X, hX⟩ : ∃ X, X = ((w.alloc (.cells #[.int .i64 k, .string t, .slice mo mn mc, .slice lo ln lc, .int .i64 p] 29)).alloc (.cells #[.int .i64 k2, .string t2, .slice mo2 mn2 mc2, .slice lo2 ln2 lc2, .int .i64 p2] 29)) := ⟨_, rfl⟩
  rw [← hX] at hb0 hx0 hx1 hs9
  rw [← hX]
  clear hX
  have HC : Hid (∀ w' : World, (fun W => W.heap[w.heap.size]? = some (Obj.cells #[.int .i64 k, .string t, .slice mo mn mc, .slice lo ln lc, .int .i64 p] 29 (0, 0)) ∧ W.heap[w.heap.size + 1]? = some (Obj.cells #[.int .i64 k2, .string t2, .slice mo2 mn2 mc2, .slice lo2 ln2 lc2, .int .i64 p2] 29 (0, 0))) w' → (w'.cell? ⟨w.heap.size, 0, none⟩ = some (.int .i64 k) ∧ w'.cell? ⟨w.heap.size, 1, none⟩ = some (.string t) ∧ w'.cell? ⟨w.heap.size, 2, none⟩ = some (.slice mo mn mc) ∧ w'.cell? ⟨w.heap.size, 3, none⟩ = some (.slice lo ln lc) ∧ w'.cell? ⟨w.heap.size, 4, none⟩ = some (.int .i64 p)) ∧
      (w'.cell? ⟨w.heap.size + 1, 0, none⟩ = some (.int .i64 k2) ∧ w'.cell? ⟨w.heap.size + 1, 1, none⟩ = some (.string t2) ∧ w'.cell? ⟨w.heap.size + 1, 2, none⟩ = some (.slice mo2 mn2 mc2) ∧ w'.cell? ⟨w.heap.size + 1, 3, none⟩ = some (.slice lo2 ln2 lc2) ∧ w'.cell? ⟨w.heap.size + 1, 4, none⟩ = some (.int .i64 p2))) := by
    rintro w' ⟨h, h'⟩
    exact ⟨⟨by rw [Lib.cell_of_heap h]; rfl, by rw [Lib.cell_of_heap h]; rfl, by rw [Lib.cell_of_heap h]; rfl, by rw [Lib.cell_of_heap h]; rfl, by rw [Lib.cell_of_heap h]; rfl⟩, by rw [Lib.cell_of_heap h']; rfl, by rw [Lib.cell_of_heap h']; rfl, by rw [Lib.cell_of_heap h']; rfl, by rw [Lib.cell_of_heap h']; rfl, by rw [Lib.cell_of_heap h']; rfl⟩
  have hS0 : (fun W => W.heap[w.heap.size]? = some (Obj.cells #[.int .i64 k, .string t, .slice mo mn mc, .slice lo ln lc, .int .i64 p] 29 (0, 0)) ∧ W.heap[w.heap.size + 1]? = some (Obj.cells #[.int .i64 k2, .string t2, .slice mo2 mn2 mc2, .slice lo2 ln2 lc2, .int .i64 p2] 29 (0, 0))) X.drew := ⟨hx0, hx1⟩
  refine wp_region_noPanic ?_
  refine wp_region_held_drew (S := (fun W => W.heap[w.heap.size]? = some (Obj.cells #[.int .i64 k, .string t, .slice mo mn mc, .slice lo ln lc, .int .i64 p] 29 (0, 0)) ∧ W.heap[w.heap.size + 1]? = some (Obj.cells #[.int .i64 k2, .string t2, .slice mo2 mn2 mc2, .slice lo2 ln2 lc2, .int .i64 p2] 29 (0, 0)))) (by kernel_rfl) hS0 (fun hHeld => ?_)
  have hb : Below w.heap.size w X.drew := hb0.drew
  generalize X.drew = V at hHeld hb ⊢
  clear hb0 hx0 hx1 hs9 hS0
  have HB := Lib.hid hb
  have hsv := hb.size
  have hsx := (Array.getElem?_eq_some_iff.1 hHeld.2).1
  clear hb
  refine qtk (i := 0) (v := ?v0) rfl rfl (fun w' hw' => ?h0) hHeld ?r0
  case h0 => go_simp; try with_reducible rfl
  simp only [zt,zs,zz,Act.put,zi,zy,zx]
  refine qtk (i := 3) (v := ?v1) rfl rfl (fun w' hw' => ?h1) hHeld ?r1
  case h1 => (obtain ⟨⟨e0, e1, e2, e3, e4⟩, e20, e21, e22, e23, e24⟩ := HC.out w' hw'; go_simp); try with_reducible rfl
  simp only [zt,zs,zz,Act.put,zi,zy,zx]
  refine qtk (i := 4) (v := ?v2) rfl rfl (fun w' hw' => ?h2) hHeld ?r2
  case h2 => (obtain ⟨⟨e0, e1, e2, e3, e4⟩, e20, e21, e22, e23, e24⟩ := HC.out w' hw'; go_simp); try with_reducible rfl
  simp only [zt,zs,zz,Act.put,zi,zy,zx]
  refine wpAnyH_ready (rs := [1]) (by kernel_rfl) (by simp) ?_
  refine (AllReadyH.cons rfl (fun K hK => ?_) AllReadyH.nil)
  go_simp
  refine (wordsOf_any ls _ V (HLS.out.below HB.out) hll HLZ.out).mono ?_
  rintro e w3 ⟨bw, rfl, _, hWd, hb3⟩
  have hs3 := hb3.size
  have hHeld := (⟨(hb3.block _ (by omega)).trans hHeld.1, (hb3.block _ hsx).trans hHeld.2⟩ : (fun W => W.heap[w.heap.size]? = some (Obj.cells #[.int .i64 k, .string t, .slice mo mn mc, .slice lo ln lc, .int .i64 p] 29 (0, 0)) ∧ W.heap[w.heap.size + 1]? = some (Obj.cells #[.int .i64 k2, .string t2, .slice mo2 mn2 mc2, .slice lo2 ln2 lc2, .int .i64 p2] 29 (0, 0))) w3)
  have HB3 := Lib.hid (HB.out.trans (hb3.mono hsv))
  have HWD := Lib.hid hWd
  clear hWd hb3
  refine hK.out _ _ hHeld (fun hHeld => ?_)
  clear hK K
  try simp only [zt,zs,zz,Act.put,zi,zy,zx]
  refine qtk (i := 2) (v := ?v3) rfl rfl (fun w' hw' => ?h3) hHeld ?r3
  case h3 => go_simp; try with_reducible rfl
  simp only [zt,zs,zz,Act.put,zi,zy,zx]
  refine wpAnyH_ready (rs := [5]) (by kernel_rfl) (by simp) ?_
  refine (AllReadyH.cons rfl (fun K hK => ?_) AllReadyH.nil)
  go_simp
  refine (match_any 1000000 (Nat.le_refl _) pp dd hps HNOD.out HWF.out w3.heap.size bw ls (.slice none 0 0) _ _ [] w3 (Nat.le_refl _) ((Dt.At.keeps (Keeps.of_below HB3.out) _ _ HP.out).mono (fun g h => by have : g < w.heap.size := h; show g < w3.heap.size; omega)) ((Dt.At.keeps (Keeps.of_below HB3.out) _ _ HD.out).mono (fun g h => by have : g < w.heap.size := h; show g < w3.heap.size; omega)) HWD.out HWD.out.lt (OwnPI.nil _ _ _) (by simp; omega) hds).mono ?_
  rintro e w4 ⟨v4, bs4, rfl, ho4, hg4, hr4, hl4⟩
  have hb4 : Below w3.heap.size w3 w4 := Below.of_grown_none hg4.1
  have hs4 := hb4.size
  have hHeld := (⟨(hb4.block _ (by omega)).trans hHeld.1, (hb4.block _ (by omega)).trans hHeld.2⟩ : (fun W => W.heap[w.heap.size]? = some (Obj.cells #[.int .i64 k, .string t, .slice mo mn mc, .slice lo ln lc, .int .i64 p] 29 (0, 0)) ∧ W.heap[w.heap.size + 1]? = some (Obj.cells #[.int .i64 k2, .string t2, .slice mo2 mn2 mc2, .slice lo2 ln2 lc2, .int .i64 p2] 29 (0, 0))) w4)
  have HB4 := Lib.hid (HB3.out.trans (hb4.mono (by omega)))
  have HO4 := Lib.hid ho4
  have HR4 := Lib.hid hr4
  obtain ⟨vo, vc, hvf⟩ := ho4.form
  have HVF := Lib.hid hvf
  clear ho4 hg4 hr4 hb4 hvf
  refine hK.out _ _ hHeld (fun hHeld => ?_)
  clear hK K
  try simp only [zt,zs,zz,Act.put,zi,zy,zx]
  refine qtk (i := 6) (v := ?v4) rfl rfl (fun w' hw' => ?h4) hHeld ?r4
  case h4 => go_simp; try with_reducible rfl
  simp only [zt,zs,zz,Act.put,zi,zy,zx]
  refine qtk (i := 7) (v := ?v5) rfl rfl (fun w' hw' => ?h5) hHeld ?r5
  case h5 => go_simp; try with_reducible rfl
  simp only [zt,zs,zz,Act.put,zi,zy,zx]
  refine qtk (i := 8) (v := ?v6) rfl rfl (fun w' hw' => ?h6) hHeld ?r6
  case h6 => go_simp; try with_reducible rfl
  simp only [zt,zs,zz,Act.put,zi,zy,zx]
  refine qtk (i := 9) (v := ?v7) rfl rfl (fun w' hw' => ?h7) hHeld ?r7
  case h7 => go_simp; try with_reducible rfl
  simp only [zt,zs,zz,Act.put,zi,zy,zx]
  refine qtk (i := 10) (v := ?v8) rfl rfl (fun w' hw' => ?h8) hHeld ?r8
  case h8 => go_simp; try with_reducible rfl
  simp only [zt,zs,zz,Act.put,zi,zy,zx]
  refine wpAnyH_done (by kernel_rfl) ?_ _
  refine NoPanic.normal ?_
  clear hHeld
  clear hHeld
  obtain ⟨res, hres⟩ : ∃ r, r = pp.mB ls dd := ⟨_, rfl⟩
  rw [← hres] at HR4 ⊢
  have HRES := Lib.hid hres
  clear hres
  cases res with
  | none =>
    rw [show (none : Option (List Bd)).isSome = false from rfl]
    go_wp2_with fail
    refine bodyPost_ret (results_tmp2 rfl _ _ _) rfl ?_
    rw [← HRES.out]
    exact ⟨.slice none 0 0, rfl, fun r h => (by cases h), fun _ => rfl, HB4.out⟩
  | some r =>
    rw [show (some r).isSome = true from rfl]
    have hbr : bs4 = r := by have := HR4.out r rfl; simpa using this
    subst hbr
    have hfl := Lib.hid (mB_flat ls pp dd bs4 HRES.out.symm)
    have hlen : bs4.length ≤ 1000000 := by simp at hl4; omega
    have HV := HVF.out
    subst HV
    have OWN : Hid (∃ Q : Ending → World → Prop, Calls Try.prog 54 #[.slice vo bs4.length vc] w4 Q ∧ ∀ e w', Q e w' → e = .returned (.tuple #[]) ∧ RowO w.heap.size w' (.slice vo bs4.length vc) bs4 ∧ Below w.heap.size w w') := by
      cases vo with
      | none =>
        have hz : bs4 = [] := by
          obtain ⟨xs, hown, _⟩ := HO4.out
          rcases hown.2 with ⟨_, h⟩ | ⟨g', _, _, e1, _⟩
          · exact List.length_eq_zero_iff.1 h
          · injection e1 with e1; cases e1
        subst hz
        refine ⟨_, own_zero none vc w4, ?_⟩
        rintro e w' ⟨he, rfl⟩
        exact ⟨he, ⟨none, vc, rfl, fun i h => absurd h (by simp)⟩, HB4.out⟩
      | some a =>
        have hg9 : ∃ g, a = ⟨g, 0, none⟩ := by
          obtain ⟨xs, hown, _⟩ := HO4.out
          rcases hown.2 with ⟨e, _⟩ | ⟨g', _, _, e1, _⟩
          · cases e
          · injection e1 with e1; injection e1 with e1; exact ⟨g', e1⟩
        obtain ⟨g, rfl⟩ := hg9
        have hlow := (HO4.out.low g rfl)
        refine ⟨_, own_flat bs4 g vc w4 (HO4.out.halfO (fun b hb => (hfl.out b hb).1) hs4) hlen (fun b hb => ⟨by have := (hfl.out b hb).2.1; omega, by have := (hfl.out b hb).2.2; omega⟩), ?_⟩
        rintro e w' ⟨he, hh, hgr⟩
        exact ⟨he, hh.read (by omega), HB4.out.grown hgr (by omega) (fun k e => by injection e with e; omega)⟩
    obtain ⟨Q, hq1, hq2⟩ := OWN.out
    have HQ1 := Lib.hid hq1
    have HQ2 := Lib.hid hq2
    clear hq1 hq2 OWN HO4 HVF
    go_wp2_with fail
    refine HQ1.out.mono ?_
    intro e w5 h5
    obtain ⟨rfl, hrow, hb5⟩ := HQ2.out e w5 h5
    have HROW := Lib.hid hrow
    have HB5 := Lib.hid hb5
    clear h5 hrow hb5 HQ1 HQ2
    go_wp2_with fail
    refine bodyPost_ret (results_tmp2 rfl _ _ _) rfl ?_
    rw [← HRES.out]
    exact ⟨.slice vo bs4.length vc, rfl, fun r h => (by injection h with h; subst h; exact HROW.out), fun h => (by cases h), HB5.out⟩
end Go.Proofs.Ythhaegncnoekbaa
namespace Go.Proofs.Ythhaegncnoekbaa
open Go.RowKit
theorem MAt.low {S : Nat → Prop} {w : World} {mv : Value} {ms : List Int} (h : MAt S w mv ms) : MAt (fun g => g < w.heap.size) w mv ms := by
  rcases h with h | ⟨g, o, cap, arr, fz, h1, h2, h3, h4⟩
  · exact .inl h
  · exact .inr ⟨g, o, cap, arr, fz, h1, (Array.getElem?_eq_some_iff.1 h3).1, h3, h4⟩
mutual
theorem Dt.At.low {S : Nat → Prop} {w : World} : ∀ (d : Dt) (cs : Array Value), Dt.At S w d cs → Dt.At (fun g => g < w.heap.size) w d cs
  | .mk _ _ ms l _, cs, h => by
    rw [At_mk] at h ⊢
    obtain ⟨mv, lv, e, hm, hl⟩ := h
    refine ⟨mv, lv, e, hm.low, ?_⟩
    rcases hl with h | ⟨g, o, cap, arr, fz, h1, h2, h3, h4⟩
    · exact .inl h
    · exact .inr ⟨g, o, cap, arr, fz, h1, (Array.getElem?_eq_some_iff.1 h3).1, h3, Dts.At.low l arr o h4.1, h4.2⟩
theorem Dts.At.low {S : Nat → Prop} {w : World} : ∀ (l : List Dt) (arr : Array Value) (o : Nat), Dts.At S w l arr o → Dts.At (fun g => g < w.heap.size) w l arr o
  | [], _, _, _ => by unfold Dts.At; trivial
  | d :: l, arr, o, h => by
    unfold Dts.At at h ⊢
    obtain ⟨⟨cs, hc, hd⟩, hr⟩ := h
    exact ⟨⟨cs, hc, Dt.At.low d cs hd⟩, Dts.At.low l arr (o + 5) hr⟩
end
theorem LAt.low {S : Nat → Prop} {w : World} {v : Value} {l : List Dt} (h : LAt S w v l) : LAt (fun g => g < w.heap.size) w v l := by
  rcases h with h | ⟨g, o, cap, arr, fz, h1, h2, h3, h4⟩
  · exact .inl h
  · exact .inr ⟨g, o, cap, arr, fz, h1, (Array.getElem?_eq_some_iff.1 h3).1, h3, Dts.At.low l arr o h4.1, h4.2⟩
end Go.Proofs.Ythhaegncnoekbaa
namespace Go.Proofs.Ythhaegncnoekbaa
open Go Go.RowKit
def kP : ByteArray := ⟨#[40, 95, 32, 120, 41]⟩
def kD : ByteArray := ⟨#[40, 102, 32, 49, 41]⟩
def kX : ByteArray := ⟨#[40, 120, 32, 120, 41]⟩
def kN : Dt := .mk 3 ⟨#[120]⟩ [] [] 3
def kV : Dt := .mk 1 ⟨#[49]⟩ [] [] 3
theorem kP_is : oneOf kP = .mk 4 ⟨#[]⟩ [] [.mk 3 ⟨#[95]⟩ [] [] 1, kN] 0 := by kernel_rfl
theorem kD_is : oneOf kD = .mk 4 ⟨#[]⟩ [] [.mk 3 ⟨#[102]⟩ [] [] 1, kV] 0 := by kernel_rfl
theorem kM_is : (oneOf kP).mB [] (oneOf kD) = some [.mk kN 0 kV []] := by kernel_rfl
theorem kC_is : chkD [] (oneOf kX) (oneOf ⟨#[120]⟩) = 9 := by kernel_rfl
theorem kX_is : oneOf kX = .mk 4 ⟨#[]⟩ [] [.mk 3 ⟨#[120]⟩ [] [] 1, kN] 0 := by kernel_rfl
theorem kx_is : oneOf ⟨#[120]⟩ = .mk 3 ⟨#[120]⟩ [] [] 0 := by kernel_rfl
theorem sym_wf (t : ByteArray) (h : t.size ≤ 1000000) (k p : Int) : (Dt.mk k t [] [] p).wf := (wf_mk ..).2 ⟨fun _ => rfl, h, trivial, fun m hm => by cases hm⟩
theorem kP_wf : (oneOf kP).wf := by
  rw [kP_is]; exact (wf_mk ..).2 ⟨fun h => absurd rfl h, by decide, ⟨sym_wf _ (by decide) _ _, sym_wf _ (by decide) _ _, trivial⟩, fun m hm => by cases hm⟩
theorem kX_wf : (oneOf kX).wf := by
  rw [kX_is]; exact (wf_mk ..).2 ⟨fun h => absurd rfl h, by decide, ⟨sym_wf _ (by decide) _ _, sym_wf _ (by decide) _ _, trivial⟩, fun m hm => by cases hm⟩
theorem kx_wf : (oneOf ⟨#[120]⟩).wf := by rw [kx_is]; exact sym_wf _ (by decide) _ _
theorem kP_nod : (oneOf kP).nod = true := by kernel_rfl
set_option maxHeartbeats 8000000 in
set_option maxRecDepth 100000 in
theorem known_any (w : World) : Calls Try.prog 14 #[] w (RetBool true w) := by
  have F1 := Lib.hid (fun W => one_any kP W (by decide))
  have F2 := Lib.hid (fun W => one_any kD W (by decide))
  have F3 := Lib.hid (fun W => one_any kX W (by decide))
  have F4 := Lib.hid (fun W => one_any ⟨#[120]⟩ W (by decide))
  go_enter Try.func14, Try.ntmps14
  go_wp2_with fail
  refine (F1.out _).mono ?_
  rintro e w1 ⟨c1, rfl, h1, hb1⟩
  go_wp2_with fail
  refine (F2.out _).mono ?_
  rintro e w2 ⟨c2, rfl, h2, hb2⟩
  have hs1 := hb1.size
  have hs2 := hb2.size
  have HB2 := Lib.hid (hb1.trans (hb2.mono hs1))
  have FM := Lib.hid (matchP_any [] (.slice none 0 0) (oneOf kP) (oneOf kD) c1 c2 w2 (.inl ⟨rfl, rfl⟩) (by simp) (fun s h => by cases h) (Dt.At.low _ _ (Dt.At.keeps (Keeps.of_below hb2) _ _ h1)) (Dt.At.low _ _ h2) kP_wf kP_nod (by have := oneOf_size kP; rw [kP_is]; decide) (by rw [kD_is]; decide))
  clear h1 h2 hb1 hb2
  go_wp2_with fail
  refine FM.out.mono ?_
  rintro e w3 ⟨v, rfl, hr, _, hb3⟩
  obtain ⟨ao, cap, rfl, hrow⟩ := hr _ kM_is
  obtain ⟨g, rfl, n5, d5, a1, _, a3, an, ad⟩ := hrow 0 (by simp)
  have hs3 := hb3.size
  have HB3 := Lib.hid (HB2.out.trans (hb3.mono (by omega)))
  obtain ⟨mv, lv, rfl, _, _⟩ := At_five an
  obtain ⟨mv2, lv2, rfl, _, _⟩ := At_five ad
  have e1 : w3.cell? ⟨g, 1, none⟩ = some (.string ⟨#[120]⟩) := a1 1 (by decide)
  have e7 : w3.cell? ⟨g, 7, none⟩ = some (.string ⟨#[49]⟩) := a3 1 (by decide)
  rw [show ((oneOf kP).mB [] (oneOf kD)).isSome = true by rw [kM_is]; rfl]
  clear hr hrow a1 a3 an ad hb3 FM
  go_wp2_with fail
  refine (F3.out _).mono ?_
  rintro e w4 ⟨c3, rfl, h3, hb4⟩
  clear e1 e7
  go_wp2_with fail
  refine (F4.out _).mono ?_
  rintro e w5 ⟨c4, rfl, h4, hb5⟩
  have hs4 := hb4.size
  have hs5 := hb5.size
  have HB5 := Lib.hid (HB3.out.trans ((hb4.trans (hb5.mono hs4)).mono (by omega)))
  have FC := Lib.hid (check_any [] (.slice none 0 0) (oneOf kX) (oneOf ⟨#[120]⟩) c3 c4 w5 (.inl ⟨rfl, rfl⟩) (by simp) (fun s h => by cases h) (Dt.At.low _ _ (Dt.At.keeps (Keeps.of_below hb5) _ _ h3)) (Dt.At.low _ _ h4) kX_wf kx_wf (by rw [kX_is]; decide) (by rw [kx_is]; decide))
  rw [kC_is] at FC
  clear h3 h4 hb4 hb5
  go_wp2_with fail
  refine FC.out.mono ?_
  rintro e w6 ⟨rfl, hb6⟩
  have HB6 := Lib.hid (HB5.out.trans (hb6.mono (by omega)))
  clear hb6 FC
  go_wp2_with fail
  go_ret
  exact ⟨rfl, HB6.out⟩
end Go.Proofs.Ythhaegncnoekbaa
namespace Go.Proofs.Ythhaegncnoekbaa
open Go.RowKit

def I64 (a : Int) : Prop := -9223372036854775808 ≤ a ∧ a ≤ 9223372036854775807
theorem wf_I64 (a : Int) (h : (Lit.int .i64 a).wf = true) : I64 a := by
  simpa [Lit.wf, IntKind.min, IntKind.max, IntKind.signed, IntKind.bits, I64] using h
end Go.Proofs.Ythhaegncnoekbaa
namespace Go.Proofs.Ythhaegncnoekbaa
open Go.RowKit Go.ChangeShapes Go.WideShapes Go.Deep

/-- A raw datum: two numbers, and parts. -/
inductive Rw where
  | mk (k n : Int) (l : List Rw) : Rw
namespace Rw
def num : Rw → Int | mk k _ _ => k
mutual
/-- How many there are, with itself. -/
def cnt : Rw → Nat
  | mk _ _ l => 1 + cnts l
def cnts : List Rw → Nat
  | [] => 0
  | r :: l => r.cnt + cnts l
end
end Rw

mutual
/-- At this address lies this raw datum. -/
def Rw.At (w : World) : Rw → Addr → Prop
  | .mk k n l, a => w.cell? (a.add 0) = some (.int .i64 k) ∧ w.cell? (a.add 1) = some (.int .i64 n) ∧ I64 k ∧ I64 n ∧
      ∃ ao cap, w.cell? (a.add 2) = some (.slice ao l.length cap) ∧ l.length ≤ maxLen ∧ (l = [] ∨ ∃ b, ao = some b ∧ Rws.At w l b)
/-- From this address on lie these, one behind the other. -/
def Rws.At (w : World) : List Rw → Addr → Prop
  | [], _ => True
  | r :: l, b => Rw.At w r b ∧ Rws.At w l (b.add 3)
end
/-- A slice that reads as these. -/
def RsAt (w : World) (ao : Option Addr) (l : List Rw) : Prop := l.length ≤ maxLen ∧ (l = [] ∨ ∃ b, ao = some b ∧ Rws.At w l b)

theorem Rws.At.get {w : World} : ∀ (l : List Rw) (b : Addr), Rws.At w l b → ∀ j (h : j < l.length), Rw.At w l[j] (b.add (j * 3))
  | [], _, _, j, h => by simp at h
  | r :: l, b, H, 0, _ => by
    unfold Rws.At at H
    have e : b.add (0 * 3) = b := by simp [Addr.add]
    rw [e]; exact H.1
  | r :: l, b, H, j + 1, h => by
    unfold Rws.At at H
    have := Rws.At.get l (b.add 3) H.2 j (by simpa using h)
    rw [add_add] at this
    have e : 3 + j * 3 = (j + 1) * 3 := by omega
    rw [e] at this
    exact this
theorem Rws.At.of_get {w : World} : ∀ (l : List Rw) (b : Addr), (∀ j (h : j < l.length), Rw.At w l[j] (b.add (j * 3))) → Rws.At w l b
  | [], _, _ => by unfold Rws.At; trivial
  | r :: l, b, H => by
    unfold Rws.At
    refine ⟨?_, Rws.At.of_get l (b.add 3) fun j h => ?_⟩
    · have := H 0 (by simp)
      have e : b.add (0 * 3) = b := by simp [Addr.add]
      rw [e] at this; exact this
    · have := H (j + 1) (by simpa using h)
      rw [add_add]
      have e : 3 + j * 3 = (j + 1) * 3 := by omega
      rw [e]; exact this
theorem cell_below {w w' : World} (h : Below w.heap.size w w') {a : Addr} {v : Value} (hc : w.cell? a = some v) : w'.cell? a = some v := by
  rw [h.cell (World.block_lt_of_cell? w a hc)]; exact hc
mutual
theorem Rw.At.below {w w' : World} (h : Below w.heap.size w w') : ∀ (r : Rw) (a : Addr), Rw.At w r a → Rw.At w' r a
  | .mk k n l, a, H => by
    unfold Rw.At at H ⊢
    obtain ⟨h1, h2, h3, h4, ao, cap, h5, h6, h7⟩ := H
    refine ⟨cell_below h h1, cell_below h h2, h3, h4, ao, cap, cell_below h h5, h6, ?_⟩
    rcases h7 with h7 | ⟨b, h8, h9⟩
    · exact .inl h7
    · exact .inr ⟨b, h8, Rws.At.below h l b h9⟩
theorem Rws.At.below {w w' : World} (h : Below w.heap.size w w') : ∀ (l : List Rw) (b : Addr), Rws.At w l b → Rws.At w' l b
  | [], _, _ => by unfold Rws.At; trivial
  | r :: l, b, H => by
    unfold Rws.At at H ⊢
    exact ⟨Rw.At.below h r b H.1, Rws.At.below h l (b.add 3) H.2⟩
end
theorem RsAt.below {w w' : World} {ao : Option Addr} {l : List Rw} (H : RsAt w ao l) (h : Below w.heap.size w w') : RsAt w' ao l := by
  refine ⟨H.1, ?_⟩
  rcases H.2 with h7 | ⟨b, h8, h9⟩
  · exact .inl h7
  · exact .inr ⟨b, h8, Rws.At.below h l b h9⟩
/-- One part of a slice: its cells, and its own parts. -/
theorem RsAt.get {w : World} {ao : Option Addr} {l : List Rw} (H : RsAt w ao l) (j : Nat) (h : j < l.length) :
    ∃ b k n po pl pc, ao = some b ∧ l[j] = .mk k n pl ∧ w.cell? (b.add (j * 3)) = some (.int .i64 k) ∧ w.cell? ⟨(b.add (j * 3)).block, (b.add (j * 3)).off + 1, none⟩ = some (.int .i64 n) ∧ w.cell? ⟨(b.add (j * 3)).block, (b.add (j * 3)).off + 2, none⟩ = some (.slice po pl.length pc) ∧
      I64 k ∧ I64 n ∧ RsAt w po pl := by
  rcases H.2 with rfl | ⟨b, h8, h9⟩
  · simp at h
  · have := Rws.At.get l b h9 j h
    generalize hd : l[j] = d at this
    obtain ⟨k, n, pl⟩ := d
    unfold Rw.At at this
    obtain ⟨h1, h2, h3, h4, po, pc, h5, h6, h7⟩ := this
    have e : (b.add (j * 3)).add 0 = b.add (j * 3) := by simp [Addr.add]
    rw [e] at h1
    exact ⟨b, k, n, po, pl, pc, h8, rfl, h1, h2, h5, h3, h4, h6, h7⟩
theorem cnts_get : ∀ (l : List Rw) (j : Nat) (h : j < l.length), l[j].cnt ≤ Rw.cnts l
  | [], j, h => by simp at h
  | r :: l, 0, _ => by simp [Rw.cnts]
  | r :: l, j + 1, h => by
    have := cnts_get l j (by simpa using h)
    simp only [Rw.cnts, List.getElem_cons_succ]; omega
theorem length_cnts : ∀ (l : List Rw), l.length ≤ Rw.cnts l
  | [] => by simp
  | r :: l => by
    have h1 := length_cnts l
    have h2 : 1 ≤ r.cnt := by cases r; simp only [Rw.cnt]; omega
    simp only [List.length_cons, Rw.cnts]; omega
end Go.Proofs.Ythhaegncnoekbaa
namespace Go.Proofs.Ythhaegncnoekbaa
open Go.RowKit Go.ChangeShapes Go.WideShapes Go.Deep

theorem list_ofP {α : Type} (p : Nat → α → Prop) : ∀ (n : Nat), (∀ i, i < n → ∃ r, p i r) → ∃ l : List α, l.length = n ∧ ∀ i (h : i < l.length), p i l[i]
  | 0, _ => ⟨[], rfl, fun i h => by simp at h⟩
  | n + 1, H => by
    obtain ⟨l, hl, hp⟩ := list_ofP p n (fun i hi => H i (by omega))
    obtain ⟨r, hr⟩ := H n (by omega)
    refine ⟨l ++ [r], by simp [hl], fun i h => ?_⟩
    by_cases hi : i < l.length
    · rw [List.getElem_append_left hi]; exact hp i hi
    · have : i = l.length := by simp at h; omega
      subst this
      rw [List.getElem_append_right (by omega)]
      simp [hl]; exact hr
theorem cells47 : Try.prog.cellsOf 67 = 3 := by kernel_rfl

section
variable {H : Type} {enc : TypeId × Value → H} {w : World} {base : Nat} {spare : Nat → Bool} {held : Bool}
set_option maxRecDepth 100000 in
theorem raws_open (N : Nat) : ∀ (fuel : Nat), fuel ≤ N → ∀ (cs : List Value) (x : DataW H × List MemPlace), DataW.trod enc Try.prog w base spare held fuel 22 cs = some x →
    ∃ ao cap, ∃ l : List Rw, cs = [.slice ao l.length cap] ∧ RsAt w ao l := by
  induction N with
  | zero =>
    intro fuel hf cs x h
    obtain rfl : fuel = 0 := by omega
    simp [DataW.trod] at h
  | succ N ih =>
    intro fuel hf cs x h
    rcases DataW.trod_slice Try.underlying22 h with ⟨rfl, _⟩ | ⟨a, len, cap, elems, rest, n, rfl, rfl, _, _, hlc, hcm, hlen, hel, _, _⟩
    · exact ⟨none, 0, [], rfl, by simp [maxLen], .inl rfl⟩
    · have one : ∀ i, i < len → ∃ r, Rw.At w r (a.add (i * 3)) := by
        intro i hi
        have h1 := hel i hi
        rw [cells47] at h1
        have h2 : elems[i]? = some (elems[i]'(by omega)) := List.getElem?_eq_getElem (by omega)
        rw [h2] at h1
        obtain ⟨cs', hc, ht⟩ := Option.bind_eq_some_iff.1 h1
        obtain ⟨_, hcl, hat⟩ := World.cells?_some hc
        obtain ⟨ys, n', rfl, _, _, hyl, hfield⟩ := DataW.trod_struct Try.underlying67 ht
        match cs', hcl with
        | [c0, c1, c2], _ =>
          have f0 := hfield 0 _ rfl
          have f1 := hfield 1 _ rfl
          have f2 := hfield 2 _ rfl
          obtain ⟨y0, g0⟩ : ∃ y, ys[0]? = some y := ⟨_, List.getElem?_eq_getElem (by rw [hyl]; decide)⟩
          obtain ⟨y1, g1⟩ : ∃ y, ys[1]? = some y := ⟨_, List.getElem?_eq_getElem (by rw [hyl]; decide)⟩
          obtain ⟨y2, g2⟩ : ∃ y, ys[2]? = some y := ⟨_, List.getElem?_eq_getElem (by rw [hyl]; decide)⟩
          have c1' : Try.prog.cellsOf 3 = 1 := by kernel_rfl
          have c2' : Try.prog.cellsOf 22 = 1 := by kernel_rfl
          have f0' : DataW.trod enc Try.prog w base spare held n' 3 [c0] = some y0 := by
            have := f0.trans g0
            simpa [c1'] using this
          have f1' : DataW.trod enc Try.prog w base spare held n' 3 [c1] = some y1 := by
            have := f1.trans g1
            simpa [c1'] using this
          have f2' : DataW.trod enc Try.prog w base spare held n' 22 [c2] = some y2 := by
            have := f2.trans g2
            simpa [c2'] using this
          obtain ⟨k, e0, _, w0⟩ := DataW.trod_int Try.underlying3 f0'
          obtain ⟨m, e1, _, w1⟩ := DataW.trod_int Try.underlying3 f1'
          obtain ⟨po, pc, pl, e2, hp⟩ := ih n' (by omega) _ _ f2'
          have q0 := hat 0 (by decide)
          have q1 := hat 1 (by decide)
          have q2 := hat 2 (by decide)
          simp only [List.cons.injEq, and_true] at e0 e1 e2
          subst e0 e1 e2
          refine ⟨.mk k m pl, ?_⟩
          unfold Rw.At
          exact ⟨q0, q1, wf_I64 _ w0, wf_I64 _ w1, po, pc, q2, hp.1, hp.2⟩
      obtain ⟨l, hl, hp⟩ := list_ofP _ len one
      subst hl
      exact ⟨some a, cap, l, rfl, by omega, .inr ⟨a, rfl, Rws.At.of_get l a hp⟩⟩
set_option maxRecDepth 100000 in
/-- A slice of raw data among the arguments. -/
theorem open_raws {v : Value} {d : DataW H} {p : List MemPlace} (hv : ∃ a n c, v = .slice a n c) (h : DataW.Trod enc Try.prog w base spare held 22 v d p) :
    ∃ ao cap, ∃ l : List Rw, v = .slice ao l.length cap ∧ RsAt w ao l := by
  obtain ⟨a, n, c, rfl⟩ := hv
  obtain ⟨fuel, hf⟩ := h
  obtain ⟨ao, cap, l, e, hl⟩ := raws_open fuel fuel (Nat.le_refl _) _ _ hf
  simp [Value.cells] at e
  obtain ⟨rfl, rfl, rfl⟩ := e
  exact ⟨_, _, l, rfl, hl⟩
end
end Go.Proofs.Ythhaegncnoekbaa
namespace Go.Proofs.Ythhaegncnoekbaa
open Go.RowKit

theorem cnts_take (l : List Rw) (j : Nat) (h : j < l.length) : Rw.cnts (l.take (j + 1)) = Rw.cnts (l.take j) + l[j].cnt := by
  have hs : ∀ (a b : List Rw), Rw.cnts (a ++ b) = Rw.cnts a + Rw.cnts b := by
    intro a b
    induction a with
    | nil => simp [Rw.cnts]
    | cons d a ih => simp only [List.cons_append, Rw.cnts, ih]; omega
  rw [List.take_succ_eq_append_getElem h, hs]
  simp [Rw.cnts]
mutual
/-- How many stand in each other. -/
def Rw.dp : Rw → Nat
  | .mk _ _ l => 1 + Rw.dps l
def Rw.dps : List Rw → Nat
  | [] => 0
  | r :: l => max r.dp (Rw.dps l)
end
theorem dps_take (l : List Rw) (j : Nat) (h : j < l.length) : Rw.dps (l.take (j + 1)) = max (Rw.dps (l.take j)) l[j].dp := by
  have hs : ∀ (a b : List Rw), Rw.dps (a ++ b) = max (Rw.dps a) (Rw.dps b) := by
    intro a b
    induction a with
    | nil => simp [Rw.dps]
    | cons d a ih => simp only [List.cons_append, Rw.dps, ih]; omega
  rw [List.take_succ_eq_append_getElem h, hs]
  simp [Rw.dps]
/-- A count: what it is where it is small. -/
def RetSz (l : List Rw) (deep : Nat) (w : World) (e : Ending) (w' : World) : Prop :=
  ∃ r : Nat, e = .returned (.int .i64 r) ∧ r ≤ 1000 + 61 * (21 - deep) ∧ (r ≤ 60 → Rw.cnts l = r ∧ Rw.dps l + deep ≤ 21) ∧ w = w'
def ZInv (l : List Rw) (deep : Nat) (nv iv : Value) : Prop :=
  ∃ j m : Nat, j ≤ l.length ∧ iv = .int .i64 j ∧ nv = .int .i64 m ∧ m ≤ 1000 + 61 * (21 - deep) ∧ (m ≤ 60 → Rw.cnts (l.take j) = m ∧ Rw.dps (l.take j) + deep ≤ 21)

set_option maxHeartbeats 2000000 in
theorem rsize (N : Nat) : ∀ (l : List Rw), Rw.cnts l ≤ N → ∀ (deep : Nat), deep ≤ 21 → ∀ (ao : Option Addr) (cap : Nat) (w : World), RsAt w ao l →
    Calls Try.prog 40 #[.slice ao l.length cap, .int .i64 (deep : Int)] w (RetSz l deep w) := by
  have base : ∀ (l : List Rw) (ao : Option Addr) (cap : Nat) (w : World), Calls Try.prog 40 #[.slice ao l.length cap, .int .i64 ((21 : Nat) : Int)] w (RetSz l 21 w) := by
    intro l ao cap w
    go_enter Try.func40, Try.ntmps40
    go_wp2
    go_ret
    exact ⟨1000, rfl, by omega, by omega, rfl⟩
  induction N with
  | zero =>
    intro l hl deep hd ao cap w hR
    have hln := length_cnts l
    have h0 : l.length = 0 := by omega
    by_cases h21 : deep = 21
    · subst h21; exact base l ao cap w
    · have q0 : decide ((20 : Int) < (deep : Int)) = false := decide_eq_false (by omega)
      have HC : Hid (Rw.cnts l = 0 ∧ Rw.dps l + deep ≤ 21) := ⟨by omega, by rw [List.length_eq_zero_iff.1 h0]; simp [Rw.dps]; omega⟩
      rw [h0]
      clear base hR hln h0 hl
      go_enter Try.func40, Try.ntmps40
      go_wp2_with fail
      go_loop [5, 6] (fun nv iv => nv = .int .i64 0 ∧ iv = .int .i64 0) (fun _ _ => 0)
      case atStart => exact ⟨rfl, rfl⟩
      case round =>
        obtain ⟨rfl, rfl⟩ := hrel
        go_wp2_with fail
        go_ret
        exact ⟨0, rfl, by omega, fun _ => HC.out, rfl⟩
  | succ N ih =>
    intro l hl deep hd ao cap w hR
    have hlm := hR.1
    by_cases h21 : deep = 21
    · subst h21; exact base l ao cap w
    · have q0 : decide ((20 : Int) < (deep : Int)) = false := decide_eq_false (by omega)
      have IH := Lib.hid ih
      have HR := Lib.hid hR
      unfold maxLen at hlm
      clear base ih hR
      go_enter Try.func40, Try.ntmps40
      go_wp2_with fail
      go_loop [5, 6] (fun nv iv => ZInv l deep nv iv) (fun _ iv => l.length - (intOf iv).toNat)
      case atStart => exact ⟨0, 0, Nat.zero_le _, rfl, rfl, by omega, fun _ => ⟨by simp [Rw.cnts], by simp [Rw.dps]; omega⟩⟩
      case round =>
        obtain ⟨j, m, hj, rfl, rfl, hm1, hm2⟩ := hrel
        have HM := Lib.hid hm2
        clear hm2
        by_cases hlt : j < l.length
        · have q1 : decide ((j : Int) < (l.length : Int)) = true := decide_eq_true (by omega)
          by_cases h60 : m ≤ 60
          · have q2 : decide ((m : Int) ≤ 60) = true := decide_eq_true (by omega)
            obtain ⟨b, k, n, po, pl, pc, rfl, hlj, c0, c1, c2, i1, i2, hpl⟩ := HR.out.get j hlt
            have HP := Lib.hid hpl
            have hcj := cnts_get l j hlt
            have hct := cnts_take l j hlt
            have hdt := dps_take l j hlt
            rw [hlj] at hcj hct hdt
            simp only [Rw.cnt, Rw.dp] at hcj hct hdt
            have HT := Lib.hid hct
            have HDT := Lib.hid hdt
            clear hpl hlj hct hdt c0 c1
            go_wp2_with fail
            refine (IH.out pl (by omega) (deep + 1) (by omega) po pc w HP.out).mono ?_
            rintro e w' ⟨r, rfl, hr1, hr2, rfl⟩
            have HN := Lib.hid (show m + 1 + r ≤ 60 → Rw.cnts (l.take (j + 1)) = m + 1 + r ∧ Rw.dps (l.take (j + 1)) + deep ≤ 21 by
              intro h
              have h1 := HM.out (by omega)
              have h2 := hr2 (by omega)
              refine ⟨by rw [HT.out, h1.1, h2.1]; omega, ?_⟩
              rw [HDT.out]; omega)
            have hb : m + 1 + r ≤ 1000 + 61 * (21 - deep) := by omega
            have hsm : m + 1 + r ≤ 100000 := by omega
            clear hr1 hr2
            go_wp2_with fail
            go_round
            case rel => exact ⟨j + 1, m + 1 + r, by omega, by go_num, by go_num, hb, HN.out⟩
            case measure => simp [intOf]; omega
          · have q2 : decide ((m : Int) ≤ 60) = false := decide_eq_false (by omega)
            go_wp2_with fail
            go_ret
            exact ⟨m, rfl, hm1, fun h => absurd h (by omega), rfl⟩
        · obtain rfl : j = l.length := by omega
          have HE : Hid (m ≤ 60 → Rw.cnts l = m ∧ Rw.dps l + deep ≤ 21) := by
            have h := HM.out
            have e : l.take l.length = l := List.take_length
            rw [e] at h; exact h
          clear hlt
          go_wp2_with fail
          go_ret
          exact ⟨m, rfl, hm1, HE.out, rfl⟩

/-- Whether they are few. -/
def RetFew (l : List Rw) (w : World) (e : Ending) (w' : World) : Prop := ∃ r : Bool, e = .returned (.bool r) ∧ (r = true → Rw.cnts l ≤ 60 ∧ Rw.dps l ≤ 21) ∧ w = w'
theorem few_any (l : List Rw) (ao : Option Addr) (cap : Nat) (w : World) (hR : RsAt w ao l) : Calls Try.prog 15 #[.slice ao l.length cap] w (RetFew l w) := by
  have HR := Lib.hid (rsize _ l (Nat.le_refl _) 0 (by decide) ao cap w hR)
  clear hR
  go_enter Try.func15, Try.ntmps15
  go_wp2_with fail
  refine HR.out.mono ?_
  rintro e w' ⟨r, rfl, hr1, hr2, rfl⟩
  have HN := Lib.hid hr2
  clear hr1 hr2
  by_cases h60 : r ≤ 60
  · have q : decide ((r : Int) ≤ 60) = true := decide_eq_true (by omega)
    go_wp2
    go_ret
    exact ⟨true, rfl, fun _ => by have := HN.out h60; omega, rfl⟩
  · have q : decide ((r : Int) ≤ 60) = false := decide_eq_false (by omega)
    go_wp2
    go_ret
    exact ⟨false, rfl, (fun h => by cases h), rfl⟩
end Go.Proofs.Ythhaegncnoekbaa
namespace Go.Proofs.Ythhaegncnoekbaa
open Go.RowKit

/-- The texts of numbers, of #t and #f, of symbols. -/
def tblI : List ByteArray := [⟨#[48]⟩, ⟨#[49]⟩, ⟨#[45, 55]⟩, ⟨#[52, 50]⟩, ⟨#[49, 50, 51, 52, 53, 54, 55, 56, 57, 48, 49, 50, 51, 52, 53, 54, 55, 56, 57, 48, 49, 50, 51, 52, 53, 54, 55, 56, 57, 48]⟩]
def tblB : List ByteArray := [⟨#[35, 116]⟩, ⟨#[35, 102]⟩]
def tblS : List ByteArray := [⟨#[97]⟩, ⟨#[98]⟩, ⟨#[120]⟩, ⟨#[102]⟩, ⟨#[43]⟩, ⟨#[99, 97, 114]⟩, ⟨#[46, 46, 46]⟩, ⟨#[95]⟩, ⟨#[108, 101, 116]⟩, ⟨#[113, 117, 111, 116, 101]⟩, ⟨#[97, 45, 62, 98]⟩]
mutual
/-- The datum that a raw one makes. -/
def Rw.make : Rw → Dt
  | .mk k n l =>
    if k % 7 = 0 then .mk 1 (tblI.getD (n % 5).toNat ⟨#[]⟩) [] [] 0
    else if k % 7 = 1 then .mk 2 (tblB.getD (n % 2).toNat ⟨#[]⟩) [] [] 0
    else if k % 7 = 2 ∨ k % 7 = 3 then .mk 3 (tblS.getD (n % 11).toNat ⟨#[]⟩) [] [] 0
    else .mk 4 ⟨#[]⟩ [] (Rw.makes l) 0
def Rw.makes : List Rw → List Dt
  | [] => []
  | r :: l => r.make :: Rw.makes l
end
theorem makes_length : ∀ (l : List Rw), (Rw.makes l).length = l.length
  | [] => by simp [Rw.makes]
  | r :: l => by simp [Rw.makes, makes_length l]
theorem makes_append : ∀ (l m : List Rw), Rw.makes (l ++ m) = Rw.makes l ++ Rw.makes m
  | [], m => by simp [Rw.makes]
  | r :: l, m => by simp [Rw.makes, makes_append l m]
theorem makes_take (l : List Rw) (j : Nat) (h : j < l.length) : Rw.makes (l.take (j + 1)) = Rw.makes (l.take j) ++ [l[j].make] := by
  rw [List.take_succ_eq_append_getElem h, makes_append]
  simp [Rw.makes]

end Go.Proofs.Ythhaegncnoekbaa
