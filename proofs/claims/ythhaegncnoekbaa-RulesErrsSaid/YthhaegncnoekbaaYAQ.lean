/- Rules: the program's Match, of patterns without dots. -/
import Derived.Test.YthhaegncnoekbaaYAA
import Derived.Test.YthhaegncnoekbaaYAP
namespace Go.Proofs.Ythhaegncnoekbaa
open Go Go.RowKit
set_option linter.unusedVariables false
set_option linter.unusedSimpArgs false
attribute [local go_sem] Oper.semAt_some
mutual
theorem mB_flat (ls : List ByteArray) : ∀ (p d : Dt) (r : List Bd), p.mB ls d = some r → ∀ b ∈ r, b.rows = [] ∧ b.name.size ≤ p.size ∧ b.dat.size ≤ d.size
  | .mk k t ms l p, d, r, h, b, hb => by
    rw [mB_mk] at h
    split at h
    · split at h <;> cases h; cases hb
    · split at h
      · cases h; cases hb
      · split at h
        · injection h with h; subst h
          rw [List.mem_singleton] at hb; subst hb
          exact ⟨rfl, Nat.le_refl _, Nat.le_refl _⟩
        · split at h
          · cases h
          · split at h
            · split at h <;> cases h; cases hb
            · split at h
              · obtain ⟨h1, h2, h3⟩ := mBs_flat ls l d.dl r h b hb
                refine ⟨h1, by simp only [Dt.size]; omega, ?_⟩
                obtain ⟨k2, t2, ms2, l2, p2⟩ := d
                simp only [Dt.dl] at h3
                simp only [Dt.size]; omega
              · cases h
theorem mBs_flat (ls : List ByteArray) : ∀ (ps ds : List Dt) (r : List Bd), mBs ls ps ds = some r → ∀ b ∈ r, b.rows = [] ∧ b.name.size ≤ Dt.sizes ps ∧ b.dat.size ≤ Dt.sizes ds
  | [], [], r, h, b, hb => by rw [mBs] at h; cases h; cases hb
  | p :: ps, d :: ds, r, h, b, hb => by
    rw [mBs_cons] at h
    cases h1 : p.mB ls d with
    | none => rw [h1] at h; cases h
    | some r1 =>
      rw [h1] at h
      cases h2 : mBs ls ps ds with
      | none => rw [h2] at h; cases h
      | some r2 =>
        rw [h2] at h; injection h with h; subst h
        rcases List.mem_append.1 hb with hb | hb
        · obtain ⟨a1, a2, a3⟩ := mB_flat ls p d r1 h1 b hb
          exact ⟨a1, by simp only [Dt.sizes]; omega, by simp only [Dt.sizes]; omega⟩
        · obtain ⟨a1, a2, a3⟩ := mBs_flat ls ps ds r2 h2 b hb
          exact ⟨a1, by simp only [Dt.sizes]; omega, by simp only [Dt.sizes]; omega⟩
  | [], d :: ds, r, h, b, hb => by rw [mBs_len ls [] (d :: ds) (by simp)] at h; cases h
  | p :: ps, [], r, h, b, hb => by rw [mBs_len ls (p :: ps) [] (by simp)] at h; cases h
end
theorem OwnPI.halfO {B : Nat} {w : World} {g n cap : Nat} {bs : List Bd} (h : OwnPI (fun x => x < B) B w (.slice (some ⟨g, 0, none⟩) n cap) bs) (hf : ∀ b ∈ bs, b.rows = []) (hB : B ≤ w.heap.size) : HalfO w.heap.size g bs 0 w := by
  have hlow := (h.low g rfl).1
  obtain ⟨xs, hown, hd⟩ := h
  rcases hown.2 with ⟨e, _⟩ | ⟨g', cap', cur, e1, hbg, hg, hnc, hcm, hcs, htake⟩
  · cases e
  · injection e1 with e1 _ _
    injection e1 with e1; injection e1 with e1
    subst e1
    refine ⟨cur, hg, by rw [hcs]; exact Nat.mul_le_mul_right 12 hnc, fun i hi => ?_⟩
    obtain ⟨cs, c12, h1, h2⟩ := hd i hi
    have hcur : ∀ t, t < 12 → cur[12 * i + t]? = cs[t]? := fun t ht => by rw [← h1 t ht, ← htake, List.getElem?_take, if_pos (by omega)]; simp
    obtain ⟨m1, l1, m2, l2, lr, rfl, hna, hda, hlr, _⟩ := BdPAt_twelve h2
    refine ⟨#[.int .i64 bs[i].name.kind, .string bs[i].name.text, m1, l1, .int .i64 bs[i].name.place], #[.int .i64 bs[i].dat.kind, .string bs[i].dat.text, m2, l2, .int .i64 bs[i].dat.place], fun t ht => ?_, hcur 5 (by decide), fun t ht => ?_, ?_, fun h => absurd h (by omega), fun _ => ⟨hna.mono (fun x h => ⟨by have : x < B := h; omega, by have : x < B := h; omega⟩), hda.mono (fun x h => ⟨by have : x < B := h; omega, by have : x < B := h; omega⟩)⟩⟩
    · rw [hcur t (by omega)]
      rcases (show t = 0 ∨ t = 1 ∨ t = 2 ∨ t = 3 ∨ t = 4 by omega) with rfl | rfl | rfl | rfl | rfl <;> rfl
    · rw [show 12 * i + 6 + t = 12 * i + (6 + t) by omega, hcur (6 + t) (by omega)]
      rcases (show t = 0 ∨ t = 1 ∨ t = 2 ∨ t = 3 ∨ t = 4 by omega) with rfl | rfl | rfl | rfl | rfl <;> rfl
    · rw [hf bs[i] (List.getElem_mem hi)] at hlr
      obtain ⟨ao, c, rfl⟩ := hlr.form
      exact ⟨ao, c, hcur 11 (by decide)⟩
/-- A row of bindings, read: each has its name and its datum in new memory. -/
def RowO (N : Nat) (w : World) (v : Value) (r : List Bd) : Prop :=
  ∃ ao cap, v = .slice ao r.length cap ∧ ∀ i (h : i < r.length), ∃ g, ao = some ⟨g, 0, none⟩ ∧ ∃ n5 d5 : Array Value, (∀ t, t < 5 → w.cell? ⟨g, i * 12 + t, none⟩ = n5[t]?) ∧ w.cell? ⟨g, i * 12 + 5, none⟩ = some (.int .i64 r[i].deep) ∧ (∀ t, t < 5 → w.cell? ⟨g, i * 12 + 6 + t, none⟩ = d5[t]?) ∧
    Dt.At (fun x => N ≤ x) w r[i].name n5 ∧ Dt.At (fun x => N ≤ x) w r[i].dat d5
theorem HalfO.read {N M g cap : Nat} {r : List Bd} {w : World} (h : HalfO N g r r.length w) (hM : M ≤ N) : RowO M w (.slice (some ⟨g, 0, none⟩) r.length cap) r := by
  obtain ⟨cur, h1, _, h3⟩ := h
  refine ⟨_, cap, rfl, fun i hi => ?_⟩
  obtain ⟨n5, d5, a1, a2, a3, _, a5, _⟩ := h3 i hi
  refine ⟨g, rfl, n5, d5, fun t ht => ?_, ?_, fun t ht => ?_, (a5 hi).1.mono (fun x h => by have : N ≤ x := h; show M ≤ x; omega), (a5 hi).2.mono (fun x h => by have : N ≤ x := h; show M ≤ x; omega)⟩
  · rw [Lib.cell_of_heap h1, Nat.mul_comm i 12]; exact a1 t ht
  · rw [Lib.cell_of_heap h1, Nat.mul_comm i 12]; exact a2
  · rw [Lib.cell_of_heap h1, Nat.mul_comm i 12]; exact a3 t ht
def RetMt (res : Option (List Bd)) (w : World) (e : Ending) (w' : World) : Prop := ∃ v, e = .returned (.tuple #[v, .bool res.isSome]) ∧ (∀ r, res = some r → RowO w.heap.size w' v r) ∧ (res = none → v = .slice none 0 0) ∧ Below w.heap.size w w'
set_option maxHeartbeats 16000000 in
set_option maxRecDepth 100000 in
theorem matchP_any (ls : List ByteArray) (lv : Value) (pp dd : Dt) (pcs dcs : Array Value) (w : World) (hls : LitsAt w lv ls) (hll : ls.length ≤ 1000000) (hlz : ∀ s ∈ ls, s.size ≤ 1000000) (hp : Dt.At (fun g => g < w.heap.size) w pp pcs) (hd : Dt.At (fun g => g < w.heap.size) w dd dcs) (hwf : pp.wf) (hnod : pp.nod = true)
    (hps : pp.size ≤ 1000000) (hds : dd.size ≤ 1000000) : Calls Try.prog 24 #[lv, .agg pcs, .agg dcs] w (RetMt (pp.mB ls dd) w) := by
  have HLS := Lib.hid hls
  have HLZ := Lib.hid hlz
  have HP := Lib.hid hp
  have HD := Lib.hid hd
  have HWF := Lib.hid hwf
  have HNOD := Lib.hid hnod
  obtain ⟨ao, ac, rfl⟩ := hls.form
  obtain ⟨k, t, mo, mn, mc, lo, ln, lc, p, rfl⟩ := At_slices hp
  obtain ⟨k2, t2, mo2, mn2, mc2, lo2, ln2, lc2, p2, rfl⟩ := At_slices hd
  have hb0 : Below w.heap.size w ((w.alloc (.cells #[.int .i64 k, .string t, .slice mo mn mc, .slice lo ln lc, .int .i64 p] 29)).alloc (.cells #[.int .i64 k2, .string t2, .slice mo2 mn2 mc2, .slice lo2 ln2 lc2, .int .i64 p2] 29)) := ((Below.refl _ _).alloc (Nat.le_refl _) _).alloc (by simp) _
  have hx0 : ((w.alloc (.cells #[.int .i64 k, .string t, .slice mo mn mc, .slice lo ln lc, .int .i64 p] 29)).alloc (.cells #[.int .i64 k2, .string t2, .slice mo2 mn2 mc2, .slice lo2 ln2 lc2, .int .i64 p2] 29)).heap[w.heap.size]? = some (Obj.cells #[.int .i64 k, .string t, .slice mo mn mc, .slice lo ln lc, .int .i64 p] 29 (0, 0)) := (Lib.alloc_old _ _ _ (by simp)).trans (alloc_at _ _)
  have hx1 : ((w.alloc (.cells #[.int .i64 k, .string t, .slice mo mn mc, .slice lo ln lc, .int .i64 p] 29)).alloc (.cells #[.int .i64 k2, .string t2, .slice mo2 mn2 mc2, .slice lo2 ln2 lc2, .int .i64 p2] 29)).heap[w.heap.size + 1]? = some (Obj.cells #[.int .i64 k2, .string t2, .slice mo2 mn2 mc2, .slice lo2 ln2 lc2, .int .i64 p2] 29 (0, 0)) := second2 _ _ _
  have hs9 : ((w.alloc (.cells #[.int .i64 k, .string t, .slice mo mn mc, .slice lo ln lc, .int .i64 p] 29)).alloc (.cells #[.int .i64 k2, .string t2, .slice mo2 mn2 mc2, .slice lo2 ln2 lc2, .int .i64 p2] 29)).heap.size = w.heap.size + 1 + 1 := by simp
  clear hls hlz hp hd hwf hnod
  go_enter Try.func24, Try.ntmps24
  go_upto_region 1 with fail
  obtain ⟨X, hX⟩ : ∃ X, X = ((w.alloc (.cells #[.int .i64 k, .string t, .slice mo mn mc, .slice lo ln lc, .int .i64 p] 29)).alloc (.cells #[.int .i64 k2, .string t2, .slice mo2 mn2 mc2, .slice lo2 ln2 lc2, .int .i64 p2] 29)) := ⟨_, rfl⟩
  rw [← hX] at hb0 hx0 hx1 hs9
  rw [← hX]
  clear hX
  have HC : Hid (∀ w' : World, (fun W => W.heap[w.heap.size]? = some (Obj.cells #[.int .i64 k, .string t, .slice mo mn mc, .slice lo ln lc, .int .i64 p] 29 (0, 0)) ∧ W.heap[w.heap.size + 1]? = some (Obj.cells #[.int .i64 k2, .string t2, .slice mo2 mn2 mc2, .slice lo2 ln2 lc2, .int .i64 p2] 29 (0, 0))) w' → (w'.cell? ⟨w.heap.size, 0, none⟩ = some (.int .i64 k) ∧ w'.cell? ⟨w.heap.size, 1, none⟩ = some (.string t) ∧ w'.cell? ⟨w.heap.size, 2, none⟩ = some (.slice mo mn mc) ∧ w'.cell? ⟨w.heap.size, 3, none⟩ = some (.slice lo ln lc) ∧ w'.cell? ⟨w.heap.size, 4, none⟩ = some (.int .i64 p)) ∧
      (w'.cell? ⟨w.heap.size + 1, 0, none⟩ = some (.int .i64 k2) ∧ w'.cell? ⟨w.heap.size + 1, 1, none⟩ = some (.string t2) ∧ w'.cell? ⟨w.heap.size + 1, 2, none⟩ = some (.slice mo2 mn2 mc2) ∧ w'.cell? ⟨w.heap.size + 1, 3, none⟩ = some (.slice lo2 ln2 lc2) ∧ w'.cell? ⟨w.heap.size + 1, 4, none⟩ = some (.int .i64 p2))) := by
    rintro w' ⟨h, h'⟩
    exact ⟨⟨by rw [Lib.cell_of_heap h]; rfl, by rw [Lib.cell_of_heap h]; rfl, by rw [Lib.cell_of_heap h]; rfl, by rw [Lib.cell_of_heap h]; rfl, by rw [Lib.cell_of_heap h]; rfl⟩, by rw [Lib.cell_of_heap h']; rfl, by rw [Lib.cell_of_heap h']; rfl, by rw [Lib.cell_of_heap h']; rfl, by rw [Lib.cell_of_heap h']; rfl, by rw [Lib.cell_of_heap h']; rfl⟩
  have hS0 : (fun W => W.heap[w.heap.size]? = some (Obj.cells #[.int .i64 k, .string t, .slice mo mn mc, .slice lo ln lc, .int .i64 p] 29 (0, 0)) ∧ W.heap[w.heap.size + 1]? = some (Obj.cells #[.int .i64 k2, .string t2, .slice mo2 mn2 mc2, .slice lo2 ln2 lc2, .int .i64 p2] 29 (0, 0))) X.drew := ⟨hx0, hx1⟩
  refine wp_region_noPanic ?_
  refine wp_region_held_drew (S := (fun W => W.heap[w.heap.size]? = some (Obj.cells #[.int .i64 k, .string t, .slice mo mn mc, .slice lo ln lc, .int .i64 p] 29 (0, 0)) ∧ W.heap[w.heap.size + 1]? = some (Obj.cells #[.int .i64 k2, .string t2, .slice mo2 mn2 mc2, .slice lo2 ln2 lc2, .int .i64 p2] 29 (0, 0)))) (by kernel_rfl) hS0 (fun hHeld => ?_)
  have hb : Below w.heap.size w X.drew := hb0.drew
  generalize X.drew = V at hHeld hb ⊢
  clear hb0 hx0 hx1 hs9 hS0
  have HB := Lib.hid hb
  have hsv := hb.size
  have hsx := (Array.getElem?_eq_some_iff.1 hHeld.2).1
  clear hb
  refine wpAnyH_take (i := 0) (v := ?v0) rfl (by kernel_rfl) (by kernel_rfl) (by kernel_rfl) (fun _ _ _ h => h) (Or.inl ⟨rfl, fun w' hw' => ?h0⟩) hHeld ?r0
  case h0 =>
    go_simp
    try with_reducible rfl
  simp only [zt, zs, zz, Act.put, zi, zy, zx]
  refine wpAnyH_take (i := 3) (v := ?v1) rfl (by kernel_rfl) (by kernel_rfl) (by kernel_rfl) (fun _ _ _ h => h) (Or.inl ⟨rfl, fun w' hw' => ?h1⟩) hHeld ?r1
  case h1 =>
    (obtain ⟨⟨e0, e1, e2, e3, e4⟩, e20, e21, e22, e23, e24⟩ := HC.out w' hw'; go_simp)
    try with_reducible rfl
  simp only [zt, zs, zz, Act.put, zi, zy, zx]
  refine wpAnyH_take (i := 4) (v := ?v2) rfl (by kernel_rfl) (by kernel_rfl) (by kernel_rfl) (fun _ _ _ h => h) (Or.inl ⟨rfl, fun w' hw' => ?h2⟩) hHeld ?r2
  case h2 =>
    (obtain ⟨⟨e0, e1, e2, e3, e4⟩, e20, e21, e22, e23, e24⟩ := HC.out w' hw'; go_simp)
    try with_reducible rfl
  simp only [zt, zs, zz, Act.put, zi, zy, zx]
  refine wpAnyH_ready (rs := [1]) (by kernel_rfl) (by simp) ?_
  refine (AllReadyH.cons rfl (fun K hK => ?_) AllReadyH.nil)
  go_simp
  refine (wordsOf_any ls _ V (HLS.out.below HB.out) hll HLZ.out).mono ?_
  rintro e w3 ⟨bw, rfl, _, hWd, hb3⟩
  have hs3 := hb3.size
  have hHeld := (⟨(hb3.block _ (by omega)).trans hHeld.1, (hb3.block _ hsx).trans hHeld.2⟩ : (fun W => W.heap[w.heap.size]? = some (Obj.cells #[.int .i64 k, .string t, .slice mo mn mc, .slice lo ln lc, .int .i64 p] 29 (0, 0)) ∧ W.heap[w.heap.size + 1]? = some (Obj.cells #[.int .i64 k2, .string t2, .slice mo2 mn2 mc2, .slice lo2 ln2 lc2, .int .i64 p2] 29 (0, 0))) w3)
  have HB3 := Lib.hid (HB.out.trans (hb3.mono hsv))
  have HWD := Lib.hid hWd
  clear hWd hb3
  refine hK.out _ _ hHeld (fun hHeld => ?_)
  clear hK K
  try simp only [zt, zs, zz, Act.put, zi, zy, zx]
  refine wpAnyH_take (i := 2) (v := ?v3) rfl (by kernel_rfl) (by kernel_rfl) (by kernel_rfl) (fun _ _ _ h => h) (Or.inl ⟨rfl, fun w' hw' => ?h3⟩) hHeld ?r3
  case h3 =>
    go_simp
    try with_reducible rfl
  simp only [zt, zs, zz, Act.put, zi, zy, zx]
  refine wpAnyH_ready (rs := [5]) (by kernel_rfl) (by simp) ?_
  refine (AllReadyH.cons rfl (fun K hK => ?_) AllReadyH.nil)
  go_simp
  refine (match_any 1000000 (Nat.le_refl _) pp dd hps HNOD.out HWF.out w3.heap.size bw ls (.slice none 0 0) _ _ [] w3 (Nat.le_refl _) ((Dt.At.keeps (Keeps.of_below HB3.out) _ _ HP.out).mono (fun g h => by have : g < w.heap.size := h; show g < w3.heap.size; omega)) ((Dt.At.keeps (Keeps.of_below HB3.out) _ _ HD.out).mono (fun g h => by have : g < w.heap.size := h; show g < w3.heap.size; omega)) HWD.out HWD.out.lt (OwnPI.nil _ _ _) (by simp; omega) hds).mono ?_
  rintro e w4 ⟨v4, bs4, rfl, ho4, hg4, hr4, hl4⟩
  have hb4 : Below w3.heap.size w3 w4 := Below.of_grown_none hg4.1
  have hs4 := hb4.size
  have hHeld := (⟨(hb4.block _ (by omega)).trans hHeld.1, (hb4.block _ (by omega)).trans hHeld.2⟩ : (fun W => W.heap[w.heap.size]? = some (Obj.cells #[.int .i64 k, .string t, .slice mo mn mc, .slice lo ln lc, .int .i64 p] 29 (0, 0)) ∧ W.heap[w.heap.size + 1]? = some (Obj.cells #[.int .i64 k2, .string t2, .slice mo2 mn2 mc2, .slice lo2 ln2 lc2, .int .i64 p2] 29 (0, 0))) w4)
  have HB4 := Lib.hid (HB3.out.trans (hb4.mono (by omega)))
  have HO4 := Lib.hid ho4
  have HR4 := Lib.hid hr4
  obtain ⟨vo, vc, hvf⟩ := ho4.form
  have HVF := Lib.hid hvf
  clear ho4 hg4 hr4 hb4 hvf
  refine hK.out _ _ hHeld (fun hHeld => ?_)
  clear hK K
  try simp only [zt, zs, zz, Act.put, zi, zy, zx]
  refine wpAnyH_take (i := 6) (v := ?v4) rfl (by kernel_rfl) (by kernel_rfl) (by kernel_rfl) (fun _ _ _ h => h) (Or.inl ⟨rfl, fun w' hw' => ?h4⟩) hHeld ?r4
  case h4 =>
    go_simp
    try with_reducible rfl
  simp only [zt, zs, zz, Act.put, zi, zy, zx]
  refine wpAnyH_take (i := 7) (v := ?v5) rfl (by kernel_rfl) (by kernel_rfl) (by kernel_rfl) (fun _ _ _ h => h) (Or.inl ⟨rfl, fun w' hw' => ?h5⟩) hHeld ?r5
  case h5 =>
    go_simp
    try with_reducible rfl
  simp only [zt, zs, zz, Act.put, zi, zy, zx]
  refine wpAnyH_take (i := 8) (v := ?v6) rfl (by kernel_rfl) (by kernel_rfl) (by kernel_rfl) (fun _ _ _ h => h) (Or.inl ⟨rfl, fun w' hw' => ?h6⟩) hHeld ?r6
  case h6 =>
    go_simp
    try with_reducible rfl
  simp only [zt, zs, zz, Act.put, zi, zy, zx]
  refine wpAnyH_take (i := 9) (v := ?v7) rfl (by kernel_rfl) (by kernel_rfl) (by kernel_rfl) (fun _ _ _ h => h) (Or.inl ⟨rfl, fun w' hw' => ?h7⟩) hHeld ?r7
  case h7 =>
    go_simp
    try with_reducible rfl
  simp only [zt, zs, zz, Act.put, zi, zy, zx]
  refine wpAnyH_take (i := 10) (v := ?v8) rfl (by kernel_rfl) (by kernel_rfl) (by kernel_rfl) (fun _ _ _ h => h) (Or.inl ⟨rfl, fun w' hw' => ?h8⟩) hHeld ?r8
  case h8 =>
    go_simp
    try with_reducible rfl
  simp only [zt, zs, zz, Act.put, zi, zy, zx]
  refine wpAnyH_done (by kernel_rfl) ?_ _
  refine NoPanic.normal ?_
  clear hHeld
  clear hHeld
  obtain ⟨res, hres⟩ : ∃ r, r = pp.mB ls dd := ⟨_, rfl⟩
  rw [← hres] at HR4 ⊢
  have HRES := Lib.hid hres
  clear hres
  cases res with
  | none =>
    rw [show (none : Option (List Bd)).isSome = false from rfl]
    go_wp2_with fail
    refine bodyPost_ret (results_tmp2 rfl _ _ _) rfl ?_
    rw [← HRES.out]
    exact ⟨.slice none 0 0, rfl, fun r h => (by cases h), fun _ => rfl, HB4.out⟩
  | some r =>
    rw [show (some r).isSome = true from rfl]
    have hbr : bs4 = r := by have := HR4.out r rfl; simpa using this
    subst hbr
    have hfl := Lib.hid (mB_flat ls pp dd bs4 HRES.out.symm)
    have hlen : bs4.length ≤ 1000000 := by simp at hl4; omega
    have HV := HVF.out
    subst HV
    have OWN : Hid (∃ Q : Ending → World → Prop, Calls Try.prog 54 #[.slice vo bs4.length vc] w4 Q ∧ ∀ e w', Q e w' → e = .returned (.tuple #[]) ∧ RowO w.heap.size w' (.slice vo bs4.length vc) bs4 ∧ Below w.heap.size w w') := by
      cases vo with
      | none =>
        have hz : bs4 = [] := by
          obtain ⟨xs, hown, _⟩ := HO4.out
          rcases hown.2 with ⟨_, h⟩ | ⟨g', _, _, e1, _⟩
          · exact List.length_eq_zero_iff.1 h
          · injection e1 with e1; cases e1
        subst hz
        refine ⟨_, own_zero none vc w4, ?_⟩
        rintro e w' ⟨he, rfl⟩
        exact ⟨he, ⟨none, vc, rfl, fun i h => absurd h (by simp)⟩, HB4.out⟩
      | some a =>
        have hg9 : ∃ g, a = ⟨g, 0, none⟩ := by
          obtain ⟨xs, hown, _⟩ := HO4.out
          rcases hown.2 with ⟨e, _⟩ | ⟨g', _, _, e1, _⟩
          · cases e
          · injection e1 with e1; injection e1 with e1; exact ⟨g', e1⟩
        obtain ⟨g, rfl⟩ := hg9
        have hlow := (HO4.out.low g rfl)
        refine ⟨_, own_flat bs4 g vc w4 (HO4.out.halfO (fun b hb => (hfl.out b hb).1) hs4) hlen (fun b hb => ⟨by have := (hfl.out b hb).2.1; omega, by have := (hfl.out b hb).2.2; omega⟩), ?_⟩
        rintro e w' ⟨he, hh, hgr⟩
        exact ⟨he, hh.read (by omega), HB4.out.grown hgr (by omega) (fun k e => by injection e with e; omega)⟩
    obtain ⟨Q, hq1, hq2⟩ := OWN.out
    have HQ1 := Lib.hid hq1
    have HQ2 := Lib.hid hq2
    clear hq1 hq2 OWN HO4 HVF
    go_wp2_with fail
    refine HQ1.out.mono ?_
    intro e w5 h5
    obtain ⟨rfl, hrow, hb5⟩ := HQ2.out e w5 h5
    have HROW := Lib.hid hrow
    have HB5 := Lib.hid hb5
    clear h5 hrow hb5 HQ1 HQ2
    go_wp2_with fail
    refine bodyPost_ret (results_tmp2 rfl _ _ _) rfl ?_
    rw [← HRES.out]
    exact ⟨.slice vo bs4.length vc, rfl, fun r h => (by injection h with h; subst h; exact HROW.out), fun h => (by cases h), HB5.out⟩
end Go.Proofs.Ythhaegncnoekbaa
namespace Go.Proofs.Ythhaegncnoekbaa
open Go.RowKit
set_option linter.unusedVariables false
theorem MAt.low {S : Nat → Prop} {w : World} {mv : Value} {ms : List Int} (h : MAt S w mv ms) : MAt (fun g => g < w.heap.size) w mv ms := by
  rcases h with h | ⟨g, o, cap, arr, fz, h1, h2, h3, h4⟩
  · exact .inl h
  · exact .inr ⟨g, o, cap, arr, fz, h1, (Array.getElem?_eq_some_iff.1 h3).1, h3, h4⟩
mutual
theorem Dt.At.low {S : Nat → Prop} {w : World} : ∀ (d : Dt) (cs : Array Value), Dt.At S w d cs → Dt.At (fun g => g < w.heap.size) w d cs
  | .mk _ _ ms l _, cs, h => by
    rw [At_mk] at h ⊢
    obtain ⟨mv, lv, e, hm, hl⟩ := h
    refine ⟨mv, lv, e, hm.low, ?_⟩
    rcases hl with h | ⟨g, o, cap, arr, fz, h1, h2, h3, h4⟩
    · exact .inl h
    · exact .inr ⟨g, o, cap, arr, fz, h1, (Array.getElem?_eq_some_iff.1 h3).1, h3, Dts.At.low l arr o h4.1, h4.2⟩
theorem Dts.At.low {S : Nat → Prop} {w : World} : ∀ (l : List Dt) (arr : Array Value) (o : Nat), Dts.At S w l arr o → Dts.At (fun g => g < w.heap.size) w l arr o
  | [], _, _, _ => by unfold Dts.At; trivial
  | d :: l, arr, o, h => by
    unfold Dts.At at h ⊢
    obtain ⟨⟨cs, hc, hd⟩, hr⟩ := h
    exact ⟨⟨cs, hc, Dt.At.low d cs hd⟩, Dts.At.low l arr (o + 5) hr⟩
end
theorem LAt.low {S : Nat → Prop} {w : World} {v : Value} {l : List Dt} (h : LAt S w v l) : LAt (fun g => g < w.heap.size) w v l := by
  rcases h with h | ⟨g, o, cap, arr, fz, h1, h2, h3, h4⟩
  · exact .inl h
  · exact .inr ⟨g, o, cap, arr, fz, h1, (Array.getElem?_eq_some_iff.1 h3).1, h3, Dts.At.low l arr o h4.1, h4.2⟩
end Go.Proofs.Ythhaegncnoekbaa
namespace Go.Proofs.Ythhaegncnoekbaa
open Go Go.RowKit
set_option linter.unusedVariables false
set_option linter.unusedSimpArgs false
def kP : ByteArray := ⟨#[40, 95, 32, 120, 41]⟩
def kD : ByteArray := ⟨#[40, 102, 32, 49, 41]⟩
def kX : ByteArray := ⟨#[40, 120, 32, 120, 41]⟩
def kN : Dt := .mk 3 ⟨#[120]⟩ [] [] 3
def kV : Dt := .mk 1 ⟨#[49]⟩ [] [] 3
theorem kP_is : oneOf kP = .mk 4 ⟨#[]⟩ [] [.mk 3 ⟨#[95]⟩ [] [] 1, kN] 0 := by kernel_rfl
theorem kD_is : oneOf kD = .mk 4 ⟨#[]⟩ [] [.mk 3 ⟨#[102]⟩ [] [] 1, kV] 0 := by kernel_rfl
theorem kM_is : (oneOf kP).mB [] (oneOf kD) = some [.mk kN 0 kV []] := by kernel_rfl
theorem kC_is : chkD [] (oneOf kX) (oneOf ⟨#[120]⟩) = 9 := by kernel_rfl
theorem kX_is : oneOf kX = .mk 4 ⟨#[]⟩ [] [.mk 3 ⟨#[120]⟩ [] [] 1, kN] 0 := by kernel_rfl
theorem kx_is : oneOf ⟨#[120]⟩ = .mk 3 ⟨#[120]⟩ [] [] 0 := by kernel_rfl
theorem sym_wf (t : ByteArray) (h : t.size ≤ 1000000) (k p : Int) : (Dt.mk k t [] [] p).wf := (wf_mk ..).2 ⟨fun _ => rfl, h, trivial, fun m hm => by cases hm⟩
theorem kP_wf : (oneOf kP).wf := by
  rw [kP_is]; exact (wf_mk ..).2 ⟨fun h => absurd rfl h, by decide, ⟨sym_wf _ (by decide) _ _, sym_wf _ (by decide) _ _, trivial⟩, fun m hm => by cases hm⟩
theorem kX_wf : (oneOf kX).wf := by
  rw [kX_is]; exact (wf_mk ..).2 ⟨fun h => absurd rfl h, by decide, ⟨sym_wf _ (by decide) _ _, sym_wf _ (by decide) _ _, trivial⟩, fun m hm => by cases hm⟩
theorem kx_wf : (oneOf ⟨#[120]⟩).wf := by rw [kx_is]; exact sym_wf _ (by decide) _ _
theorem kP_nod : (oneOf kP).nod = true := by kernel_rfl
set_option maxHeartbeats 8000000 in
set_option maxRecDepth 100000 in
theorem known_any (w : World) : Calls Try.prog 14 #[] w (RetBool true w) := by
  have F1 := Lib.hid (fun W => one_any kP W (by decide))
  have F2 := Lib.hid (fun W => one_any kD W (by decide))
  have F3 := Lib.hid (fun W => one_any kX W (by decide))
  have F4 := Lib.hid (fun W => one_any ⟨#[120]⟩ W (by decide))
  go_enter Try.func14, Try.ntmps14
  go_wp2_with fail
  refine (F1.out _).mono ?_
  rintro e w1 ⟨c1, rfl, h1, hb1⟩
  go_wp2_with fail
  refine (F2.out _).mono ?_
  rintro e w2 ⟨c2, rfl, h2, hb2⟩
  have hs1 := hb1.size
  have hs2 := hb2.size
  have HB2 := Lib.hid (hb1.trans (hb2.mono hs1))
  have FM := Lib.hid (matchP_any [] (.slice none 0 0) (oneOf kP) (oneOf kD) c1 c2 w2 (.inl ⟨rfl, rfl⟩) (by simp) (fun s h => by cases h) (Dt.At.low _ _ (Dt.At.keeps (Keeps.of_below hb2) _ _ h1)) (Dt.At.low _ _ h2) kP_wf kP_nod (by have := oneOf_size kP; rw [kP_is]; decide) (by rw [kD_is]; decide))
  clear h1 h2 hb1 hb2
  go_wp2_with fail
  refine FM.out.mono ?_
  rintro e w3 ⟨v, rfl, hr, _, hb3⟩
  obtain ⟨ao, cap, rfl, hrow⟩ := hr _ kM_is
  obtain ⟨g, rfl, n5, d5, a1, _, a3, an, ad⟩ := hrow 0 (by simp)
  have hs3 := hb3.size
  have HB3 := Lib.hid (HB2.out.trans (hb3.mono (by omega)))
  obtain ⟨mv, lv, rfl, _, _⟩ := At_five an
  obtain ⟨mv2, lv2, rfl, _, _⟩ := At_five ad
  have e1 : w3.cell? ⟨g, 1, none⟩ = some (.string ⟨#[120]⟩) := a1 1 (by decide)
  have e7 : w3.cell? ⟨g, 7, none⟩ = some (.string ⟨#[49]⟩) := a3 1 (by decide)
  rw [show ((oneOf kP).mB [] (oneOf kD)).isSome = true by rw [kM_is]; rfl]
  clear hr hrow a1 a3 an ad hb3 FM
  go_wp2_with fail
  refine (F3.out _).mono ?_
  rintro e w4 ⟨c3, rfl, h3, hb4⟩
  clear e1 e7
  go_wp2_with fail
  refine (F4.out _).mono ?_
  rintro e w5 ⟨c4, rfl, h4, hb5⟩
  have hs4 := hb4.size
  have hs5 := hb5.size
  have HB5 := Lib.hid (HB3.out.trans ((hb4.trans (hb5.mono hs4)).mono (by omega)))
  have FC := Lib.hid (check_any [] (.slice none 0 0) (oneOf kX) (oneOf ⟨#[120]⟩) c3 c4 w5 (.inl ⟨rfl, rfl⟩) (by simp) (fun s h => by cases h) (Dt.At.low _ _ (Dt.At.keeps (Keeps.of_below hb5) _ _ h3)) (Dt.At.low _ _ h4) kX_wf kx_wf (by rw [kX_is]; decide) (by rw [kx_is]; decide))
  rw [kC_is] at FC
  clear h3 h4 hb4 hb5
  go_wp2_with fail
  refine FC.out.mono ?_
  rintro e w6 ⟨rfl, hb6⟩
  have HB6 := Lib.hid (HB5.out.trans (hb6.mono (by omega)))
  clear hb6 FC
  go_wp2_with fail
  go_ret
  exact ⟨rfl, HB6.out⟩
end Go.Proofs.Ythhaegncnoekbaa
namespace Go.Proofs.Ythhaegncnoekbaa
open Go Go.RowKit
set_option linter.unusedVariables false
mutual
def Dt.wfb : Dt → Bool
  | .mk k t ms l p => (k == 4 || l.isEmpty) && decide (t.size ≤ 1000000) && ms.isEmpty && wfsb l
def wfsb : List Dt → Bool
  | [] => true
  | d :: r => d.wfb && wfsb r
end
mutual
theorem wfb_is : ∀ (d : Dt), d.wfb = true → d.wf
  | .mk k t ms l p, h => by
    rw [Dt.wfb] at h
    simp only [Bool.and_eq_true, Bool.or_eq_true, beq_iff_eq, decide_eq_true_eq, List.isEmpty_iff] at h
    obtain ⟨⟨⟨h1, h2⟩, h3⟩, h4⟩ := h
    exact (wf_mk ..).2 ⟨fun hk => h1.elim (fun e => absurd e hk) id, h2, wfsb_is l h4, fun m hm => by rw [h3] at hm; cases hm⟩
theorem wfsb_is : ∀ (l : List Dt), wfsb l = true → wfs l
  | [], _ => trivial
  | d :: r, h => by
    rw [wfsb, Bool.and_eq_true] at h
    exact ⟨wfb_is d h.1, wfsb_is r h.2⟩
end
def lP : List ByteArray := [⟨#[120]⟩, ⟨#[40, 46, 46, 46, 32, 120, 41]⟩, ⟨#[40, 120, 32, 46, 46, 46, 32, 121, 32, 46, 46, 46, 41]⟩, ⟨#[40, 120, 32, 120, 41]⟩, ⟨#[40, 120, 32, 40, 121, 32, 120, 41, 41]⟩, ⟨#[40, 120, 32, 46, 46, 46, 41]⟩, ⟨#[40, 120, 41]⟩, ⟨#[40, 120, 32, 46, 46, 46, 41]⟩, ⟨#[40, 120, 41]⟩, ⟨#[40, 40, 120, 32, 46, 46, 46, 41, 32, 46, 46, 46, 41]⟩, ⟨#[40, 120, 32, 46, 46, 46, 41]⟩, ⟨#[40, 120, 32, 121, 32, 46, 46, 46, 41]⟩, ⟨#[46, 46, 46]⟩, ⟨#[40, 120, 41]⟩, ⟨#[40, 120, 41]⟩, ⟨#[40, 120, 32, 46, 46, 46, 41]⟩, ⟨#[40, 95, 32, 95, 41]⟩]
def lT : List ByteArray := [⟨#[120]⟩, ⟨#[120]⟩, ⟨#[120]⟩, ⟨#[120]⟩, ⟨#[120]⟩, ⟨#[120]⟩, ⟨#[40, 120, 32, 46, 46, 46, 41]⟩, ⟨#[40, 40, 120, 32, 46, 46, 46, 41, 32, 46, 46, 46, 41]⟩, ⟨#[40, 46, 46, 46, 32, 120, 41]⟩, ⟨#[40, 120, 32, 46, 46, 46, 41]⟩, ⟨#[40, 120, 32, 46, 46, 46, 32, 46, 46, 46, 41]⟩, ⟨#[40, 40, 120, 32, 121, 41, 32, 46, 46, 46, 41]⟩, ⟨#[120]⟩, ⟨#[46, 46, 46]⟩, ⟨#[40, 49, 32, 46, 46, 46, 41]⟩, ⟨#[40, 97, 32, 46, 46, 46, 32, 120, 32, 46, 46, 46, 41]⟩, ⟨#[95]⟩]
def lE : List Int := [7, 7, 7, 9, 9, 7, 7, 7, 7, 7, 7, 0, 7, 7, 7, 7, 0]
def tP (k : Nat) : ByteArray := (lP[k]?).getD ⟨#[]⟩
def tT (k : Nat) : ByteArray := (lT[k]?).getD ⟨#[]⟩
def tE (k : Nat) : Int := (lE[k]?).getD 0
theorem err_is : ((List.range 17).all fun k => chkD [] (oneOf (tP k)) (oneOf (tT k)) == tE k) = true := by kernel_rfl
theorem err_wf : ((List.range 17).all fun k => (oneOf (tP k)).wfb && (oneOf (tT k)).wfb) = true := by kernel_rfl
theorem err_sz : ((List.range 17).all fun k => decide ((tP k).size ≤ 100) && decide ((tT k).size ≤ 100)) = true := by kernel_rfl
theorem err_at (k : Nat) (hk : k < 17) : chkD [] (oneOf (tP k)) (oneOf (tT k)) = tE k ∧ (oneOf (tP k)).wf ∧ (oneOf (tT k)).wf ∧ (tP k).size ≤ 100 ∧ (tT k).size ≤ 100 := by
  have h1 := List.all_eq_true.1 err_is k (List.mem_range.2 hk)
  have h2 := List.all_eq_true.1 err_wf k (List.mem_range.2 hk)
  have h3 := List.all_eq_true.1 err_sz k (List.mem_range.2 hk)
  simp only [Bool.and_eq_true, decide_eq_true_eq, beq_iff_eq] at h1 h2 h3
  exact ⟨h1, wfb_is _ h2.1, wfb_is _ h2.2, h3.1, h3.2⟩
end Go.Proofs.Ythhaegncnoekbaa
namespace Go.Proofs.Ythhaegncnoekbaa
open Go Go.RowKit
set_option linter.unusedVariables false
set_option linter.unusedSimpArgs false
attribute [local go_sem] Oper.semAt_some
theorem sp_at (k : Nat) (hk : k < 17) : (#[.string ⟨#[120]⟩, .string ⟨#[40, 46, 46, 46, 32, 120, 41]⟩, .string ⟨#[40, 120, 32, 46, 46, 46, 32, 121, 32, 46, 46, 46, 41]⟩, .string ⟨#[40, 120, 32, 120, 41]⟩, .string ⟨#[40, 120, 32, 40, 121, 32, 120, 41, 41]⟩, .string ⟨#[40, 120, 32, 46, 46, 46, 41]⟩, .string ⟨#[40, 120, 41]⟩, .string ⟨#[40, 120, 32, 46, 46, 46, 41]⟩, .string ⟨#[40, 120, 41]⟩, .string ⟨#[40, 40, 120, 32, 46, 46, 46, 41, 32, 46, 46, 46, 41]⟩, .string ⟨#[40, 120, 32, 46, 46, 46, 41]⟩, .string ⟨#[40, 120, 32, 121, 32, 46, 46, 46, 41]⟩, .string ⟨#[46, 46, 46]⟩, .string ⟨#[40, 120, 41]⟩, .string ⟨#[40, 120, 41]⟩, .string ⟨#[40, 120, 32, 46, 46, 46, 41]⟩, .string ⟨#[40, 95, 32, 95, 41]⟩] : Array Value)[k]? = some (.string (tP k)) := by
  rcases (show k = 0 ∨ k = 1 ∨ k = 2 ∨ k = 3 ∨ k = 4 ∨ k = 5 ∨ k = 6 ∨ k = 7 ∨ k = 8 ∨ k = 9 ∨ k = 10 ∨ k = 11 ∨ k = 12 ∨ k = 13 ∨ k = 14 ∨ k = 15 ∨ k = 16 by omega) with rfl | rfl | rfl | rfl | rfl | rfl | rfl | rfl | rfl | rfl | rfl | rfl | rfl | rfl | rfl | rfl | rfl <;> rfl
theorem st_at (k : Nat) (hk : k < 17) : (#[.string ⟨#[120]⟩, .string ⟨#[120]⟩, .string ⟨#[120]⟩, .string ⟨#[120]⟩, .string ⟨#[120]⟩, .string ⟨#[120]⟩, .string ⟨#[40, 120, 32, 46, 46, 46, 41]⟩, .string ⟨#[40, 40, 120, 32, 46, 46, 46, 41, 32, 46, 46, 46, 41]⟩, .string ⟨#[40, 46, 46, 46, 32, 120, 41]⟩, .string ⟨#[40, 120, 32, 46, 46, 46, 41]⟩, .string ⟨#[40, 120, 32, 46, 46, 46, 32, 46, 46, 46, 41]⟩, .string ⟨#[40, 40, 120, 32, 121, 41, 32, 46, 46, 46, 41]⟩, .string ⟨#[120]⟩, .string ⟨#[46, 46, 46]⟩, .string ⟨#[40, 49, 32, 46, 46, 46, 41]⟩, .string ⟨#[40, 97, 32, 46, 46, 46, 32, 120, 32, 46, 46, 46, 41]⟩, .string ⟨#[95]⟩] : Array Value)[k]? = some (.string (tT k)) := by
  rcases (show k = 0 ∨ k = 1 ∨ k = 2 ∨ k = 3 ∨ k = 4 ∨ k = 5 ∨ k = 6 ∨ k = 7 ∨ k = 8 ∨ k = 9 ∨ k = 10 ∨ k = 11 ∨ k = 12 ∨ k = 13 ∨ k = 14 ∨ k = 15 ∨ k = 16 by omega) with rfl | rfl | rfl | rfl | rfl | rfl | rfl | rfl | rfl | rfl | rfl | rfl | rfl | rfl | rfl | rfl | rfl <;> rfl
theorem se_at (k : Nat) (hk : k < 17) : (#[.int .i64 7, .int .i64 7, .int .i64 7, .int .i64 9, .int .i64 9, .int .i64 7, .int .i64 7, .int .i64 7, .int .i64 7, .int .i64 7, .int .i64 7, .int .i64 0, .int .i64 7, .int .i64 7, .int .i64 7, .int .i64 7, .int .i64 0] : Array Value)[k]? = some (.int .i64 (tE k)) := by
  rcases (show k = 0 ∨ k = 1 ∨ k = 2 ∨ k = 3 ∨ k = 4 ∨ k = 5 ∨ k = 6 ∨ k = 7 ∨ k = 8 ∨ k = 9 ∨ k = 10 ∨ k = 11 ∨ k = 12 ∨ k = 13 ∨ k = 14 ∨ k = 15 ∨ k = 16 by omega) with rfl | rfl | rfl | rfl | rfl | rfl | rfl | rfl | rfl | rfl | rfl | rfl | rfl | rfl | rfl | rfl | rfl <;> rfl
set_option maxHeartbeats 8000000 in
set_option maxRecDepth 100000 in
theorem errs_any (a : Int) (h1 : -9223372036854775808 ≤ a) (h2 : a ≤ 9223372036854775807) (w : World) : Calls Try.prog 9 #[.int .i64 a] w (RetBool true w) := by
  go_enter Try.func9, Try.ntmps9
  go_wp2_with fail
  refine (known_any _).mono ?_
  rintro e w1 ⟨rfl, hb1⟩
  have hs1 := hb1.size
  have HB1 := Lib.hid hb1
  clear hb1
  go_wp2_with fail
  refine (within4_any a 17 _ h1 h2 (by decide) (by decide)).mono ?_
  rintro e w2 ⟨rfl, rfl⟩
  have hr0 := Int.emod_nonneg a (show (17 : Int) ≠ 0 by decide)
  have hr1 := Int.emod_lt_of_pos a (show (0 : Int) < 17 by decide)
  obtain ⟨k, hk⟩ : ∃ k : Nat, (k : Int) = a % 17 := ⟨(a % 17).toNat, by omega⟩
  rw [← hk]
  have hk17 : k < 17 := by omega
  clear hr0 hr1 hk h1 h2
  go_upto_region 7 with fail
  have hb2 : Below w1.heap.size w1 (((w1.alloc (.cells #[.string ⟨#[120]⟩, .string ⟨#[40, 46, 46, 46, 32, 120, 41]⟩, .string ⟨#[40, 120, 32, 46, 46, 46, 32, 121, 32, 46, 46, 46, 41]⟩, .string ⟨#[40, 120, 32, 120, 41]⟩, .string ⟨#[40, 120, 32, 40, 121, 32, 120, 41, 41]⟩, .string ⟨#[40, 120, 32, 46, 46, 46, 41]⟩, .string ⟨#[40, 120, 41]⟩, .string ⟨#[40, 120, 32, 46, 46, 46, 41]⟩, .string ⟨#[40, 120, 41]⟩, .string ⟨#[40, 40, 120, 32, 46, 46, 46, 41, 32, 46, 46, 46, 41]⟩, .string ⟨#[40, 120, 32, 46, 46, 46, 41]⟩, .string ⟨#[40, 120, 32, 121, 32, 46, 46, 46, 41]⟩, .string ⟨#[46, 46, 46]⟩, .string ⟨#[40, 120, 41]⟩, .string ⟨#[40, 120, 41]⟩, .string ⟨#[40, 120, 32, 46, 46, 46, 41]⟩, .string ⟨#[40, 95, 32, 95, 41]⟩] 9)).alloc (.cells #[.string ⟨#[120]⟩, .string ⟨#[120]⟩, .string ⟨#[120]⟩, .string ⟨#[120]⟩, .string ⟨#[120]⟩, .string ⟨#[120]⟩, .string ⟨#[40, 120, 32, 46, 46, 46, 41]⟩, .string ⟨#[40, 40, 120, 32, 46, 46, 46, 41, 32, 46, 46, 46, 41]⟩, .string ⟨#[40, 46, 46, 46, 32, 120, 41]⟩, .string ⟨#[40, 120, 32, 46, 46, 46, 41]⟩, .string ⟨#[40, 120, 32, 46, 46, 46, 32, 46, 46, 46, 41]⟩, .string ⟨#[40, 40, 120, 32, 121, 41, 32, 46, 46, 46, 41]⟩, .string ⟨#[120]⟩, .string ⟨#[46, 46, 46]⟩, .string ⟨#[40, 49, 32, 46, 46, 46, 41]⟩, .string ⟨#[40, 97, 32, 46, 46, 46, 32, 120, 32, 46, 46, 46, 41]⟩, .string ⟨#[95]⟩] 9)).alloc (.cells #[.int .i64 7, .int .i64 7, .int .i64 7, .int .i64 9, .int .i64 9, .int .i64 7, .int .i64 7, .int .i64 7, .int .i64 7, .int .i64 7, .int .i64 7, .int .i64 0, .int .i64 7, .int .i64 7, .int .i64 7, .int .i64 7, .int .i64 0] 32)) := (((Below.refl _ _).alloc (Nat.le_refl _) _).alloc (by simp) _).alloc (by simp <;> omega) _
  have hx0 : (((w1.alloc (.cells #[.string ⟨#[120]⟩, .string ⟨#[40, 46, 46, 46, 32, 120, 41]⟩, .string ⟨#[40, 120, 32, 46, 46, 46, 32, 121, 32, 46, 46, 46, 41]⟩, .string ⟨#[40, 120, 32, 120, 41]⟩, .string ⟨#[40, 120, 32, 40, 121, 32, 120, 41, 41]⟩, .string ⟨#[40, 120, 32, 46, 46, 46, 41]⟩, .string ⟨#[40, 120, 41]⟩, .string ⟨#[40, 120, 32, 46, 46, 46, 41]⟩, .string ⟨#[40, 120, 41]⟩, .string ⟨#[40, 40, 120, 32, 46, 46, 46, 41, 32, 46, 46, 46, 41]⟩, .string ⟨#[40, 120, 32, 46, 46, 46, 41]⟩, .string ⟨#[40, 120, 32, 121, 32, 46, 46, 46, 41]⟩, .string ⟨#[46, 46, 46]⟩, .string ⟨#[40, 120, 41]⟩, .string ⟨#[40, 120, 41]⟩, .string ⟨#[40, 120, 32, 46, 46, 46, 41]⟩, .string ⟨#[40, 95, 32, 95, 41]⟩] 9)).alloc (.cells #[.string ⟨#[120]⟩, .string ⟨#[120]⟩, .string ⟨#[120]⟩, .string ⟨#[120]⟩, .string ⟨#[120]⟩, .string ⟨#[120]⟩, .string ⟨#[40, 120, 32, 46, 46, 46, 41]⟩, .string ⟨#[40, 40, 120, 32, 46, 46, 46, 41, 32, 46, 46, 46, 41]⟩, .string ⟨#[40, 46, 46, 46, 32, 120, 41]⟩, .string ⟨#[40, 120, 32, 46, 46, 46, 41]⟩, .string ⟨#[40, 120, 32, 46, 46, 46, 32, 46, 46, 46, 41]⟩, .string ⟨#[40, 40, 120, 32, 121, 41, 32, 46, 46, 46, 41]⟩, .string ⟨#[120]⟩, .string ⟨#[46, 46, 46]⟩, .string ⟨#[40, 49, 32, 46, 46, 46, 41]⟩, .string ⟨#[40, 97, 32, 46, 46, 46, 32, 120, 32, 46, 46, 46, 41]⟩, .string ⟨#[95]⟩] 9)).alloc (.cells #[.int .i64 7, .int .i64 7, .int .i64 7, .int .i64 9, .int .i64 9, .int .i64 7, .int .i64 7, .int .i64 7, .int .i64 7, .int .i64 7, .int .i64 7, .int .i64 0, .int .i64 7, .int .i64 7, .int .i64 7, .int .i64 7, .int .i64 0] 32)).heap[w1.heap.size]? = some (Obj.cells #[.string ⟨#[120]⟩, .string ⟨#[40, 46, 46, 46, 32, 120, 41]⟩, .string ⟨#[40, 120, 32, 46, 46, 46, 32, 121, 32, 46, 46, 46, 41]⟩, .string ⟨#[40, 120, 32, 120, 41]⟩, .string ⟨#[40, 120, 32, 40, 121, 32, 120, 41, 41]⟩, .string ⟨#[40, 120, 32, 46, 46, 46, 41]⟩, .string ⟨#[40, 120, 41]⟩, .string ⟨#[40, 120, 32, 46, 46, 46, 41]⟩, .string ⟨#[40, 120, 41]⟩, .string ⟨#[40, 40, 120, 32, 46, 46, 46, 41, 32, 46, 46, 46, 41]⟩, .string ⟨#[40, 120, 32, 46, 46, 46, 41]⟩, .string ⟨#[40, 120, 32, 121, 32, 46, 46, 46, 41]⟩, .string ⟨#[46, 46, 46]⟩, .string ⟨#[40, 120, 41]⟩, .string ⟨#[40, 120, 41]⟩, .string ⟨#[40, 120, 32, 46, 46, 46, 41]⟩, .string ⟨#[40, 95, 32, 95, 41]⟩] 9 (0, 0)) := (Lib.alloc_old _ _ _ (by simp <;> omega)).trans ((Lib.alloc_old _ _ _ (by simp)).trans (alloc_at _ _))
  have hx1 : (((w1.alloc (.cells #[.string ⟨#[120]⟩, .string ⟨#[40, 46, 46, 46, 32, 120, 41]⟩, .string ⟨#[40, 120, 32, 46, 46, 46, 32, 121, 32, 46, 46, 46, 41]⟩, .string ⟨#[40, 120, 32, 120, 41]⟩, .string ⟨#[40, 120, 32, 40, 121, 32, 120, 41, 41]⟩, .string ⟨#[40, 120, 32, 46, 46, 46, 41]⟩, .string ⟨#[40, 120, 41]⟩, .string ⟨#[40, 120, 32, 46, 46, 46, 41]⟩, .string ⟨#[40, 120, 41]⟩, .string ⟨#[40, 40, 120, 32, 46, 46, 46, 41, 32, 46, 46, 46, 41]⟩, .string ⟨#[40, 120, 32, 46, 46, 46, 41]⟩, .string ⟨#[40, 120, 32, 121, 32, 46, 46, 46, 41]⟩, .string ⟨#[46, 46, 46]⟩, .string ⟨#[40, 120, 41]⟩, .string ⟨#[40, 120, 41]⟩, .string ⟨#[40, 120, 32, 46, 46, 46, 41]⟩, .string ⟨#[40, 95, 32, 95, 41]⟩] 9)).alloc (.cells #[.string ⟨#[120]⟩, .string ⟨#[120]⟩, .string ⟨#[120]⟩, .string ⟨#[120]⟩, .string ⟨#[120]⟩, .string ⟨#[120]⟩, .string ⟨#[40, 120, 32, 46, 46, 46, 41]⟩, .string ⟨#[40, 40, 120, 32, 46, 46, 46, 41, 32, 46, 46, 46, 41]⟩, .string ⟨#[40, 46, 46, 46, 32, 120, 41]⟩, .string ⟨#[40, 120, 32, 46, 46, 46, 41]⟩, .string ⟨#[40, 120, 32, 46, 46, 46, 32, 46, 46, 46, 41]⟩, .string ⟨#[40, 40, 120, 32, 121, 41, 32, 46, 46, 46, 41]⟩, .string ⟨#[120]⟩, .string ⟨#[46, 46, 46]⟩, .string ⟨#[40, 49, 32, 46, 46, 46, 41]⟩, .string ⟨#[40, 97, 32, 46, 46, 46, 32, 120, 32, 46, 46, 46, 41]⟩, .string ⟨#[95]⟩] 9)).alloc (.cells #[.int .i64 7, .int .i64 7, .int .i64 7, .int .i64 9, .int .i64 9, .int .i64 7, .int .i64 7, .int .i64 7, .int .i64 7, .int .i64 7, .int .i64 7, .int .i64 0, .int .i64 7, .int .i64 7, .int .i64 7, .int .i64 7, .int .i64 0] 32)).heap[w1.heap.size + 1]? = some (Obj.cells #[.string ⟨#[120]⟩, .string ⟨#[120]⟩, .string ⟨#[120]⟩, .string ⟨#[120]⟩, .string ⟨#[120]⟩, .string ⟨#[120]⟩, .string ⟨#[40, 120, 32, 46, 46, 46, 41]⟩, .string ⟨#[40, 40, 120, 32, 46, 46, 46, 41, 32, 46, 46, 46, 41]⟩, .string ⟨#[40, 46, 46, 46, 32, 120, 41]⟩, .string ⟨#[40, 120, 32, 46, 46, 46, 41]⟩, .string ⟨#[40, 120, 32, 46, 46, 46, 32, 46, 46, 46, 41]⟩, .string ⟨#[40, 40, 120, 32, 121, 41, 32, 46, 46, 46, 41]⟩, .string ⟨#[120]⟩, .string ⟨#[46, 46, 46]⟩, .string ⟨#[40, 49, 32, 46, 46, 46, 41]⟩, .string ⟨#[40, 97, 32, 46, 46, 46, 32, 120, 32, 46, 46, 46, 41]⟩, .string ⟨#[95]⟩] 9 (0, 0)) := (Lib.alloc_old _ _ _ (by simp <;> omega)).trans (second2 _ _ _)
  have hx2 : (((w1.alloc (.cells #[.string ⟨#[120]⟩, .string ⟨#[40, 46, 46, 46, 32, 120, 41]⟩, .string ⟨#[40, 120, 32, 46, 46, 46, 32, 121, 32, 46, 46, 46, 41]⟩, .string ⟨#[40, 120, 32, 120, 41]⟩, .string ⟨#[40, 120, 32, 40, 121, 32, 120, 41, 41]⟩, .string ⟨#[40, 120, 32, 46, 46, 46, 41]⟩, .string ⟨#[40, 120, 41]⟩, .string ⟨#[40, 120, 32, 46, 46, 46, 41]⟩, .string ⟨#[40, 120, 41]⟩, .string ⟨#[40, 40, 120, 32, 46, 46, 46, 41, 32, 46, 46, 46, 41]⟩, .string ⟨#[40, 120, 32, 46, 46, 46, 41]⟩, .string ⟨#[40, 120, 32, 121, 32, 46, 46, 46, 41]⟩, .string ⟨#[46, 46, 46]⟩, .string ⟨#[40, 120, 41]⟩, .string ⟨#[40, 120, 41]⟩, .string ⟨#[40, 120, 32, 46, 46, 46, 41]⟩, .string ⟨#[40, 95, 32, 95, 41]⟩] 9)).alloc (.cells #[.string ⟨#[120]⟩, .string ⟨#[120]⟩, .string ⟨#[120]⟩, .string ⟨#[120]⟩, .string ⟨#[120]⟩, .string ⟨#[120]⟩, .string ⟨#[40, 120, 32, 46, 46, 46, 41]⟩, .string ⟨#[40, 40, 120, 32, 46, 46, 46, 41, 32, 46, 46, 46, 41]⟩, .string ⟨#[40, 46, 46, 46, 32, 120, 41]⟩, .string ⟨#[40, 120, 32, 46, 46, 46, 41]⟩, .string ⟨#[40, 120, 32, 46, 46, 46, 32, 46, 46, 46, 41]⟩, .string ⟨#[40, 40, 120, 32, 121, 41, 32, 46, 46, 46, 41]⟩, .string ⟨#[120]⟩, .string ⟨#[46, 46, 46]⟩, .string ⟨#[40, 49, 32, 46, 46, 46, 41]⟩, .string ⟨#[40, 97, 32, 46, 46, 46, 32, 120, 32, 46, 46, 46, 41]⟩, .string ⟨#[95]⟩] 9)).alloc (.cells #[.int .i64 7, .int .i64 7, .int .i64 7, .int .i64 9, .int .i64 9, .int .i64 7, .int .i64 7, .int .i64 7, .int .i64 7, .int .i64 7, .int .i64 7, .int .i64 0, .int .i64 7, .int .i64 7, .int .i64 7, .int .i64 7, .int .i64 0] 32)).heap[w1.heap.size + 1 + 1]? = some (Obj.cells #[.int .i64 7, .int .i64 7, .int .i64 7, .int .i64 9, .int .i64 9, .int .i64 7, .int .i64 7, .int .i64 7, .int .i64 7, .int .i64 7, .int .i64 7, .int .i64 0, .int .i64 7, .int .i64 7, .int .i64 7, .int .i64 7, .int .i64 0] 32 (0, 0)) := by
    have s2 : ((w1.alloc (.cells #[.string ⟨#[120]⟩, .string ⟨#[40, 46, 46, 46, 32, 120, 41]⟩, .string ⟨#[40, 120, 32, 46, 46, 46, 32, 121, 32, 46, 46, 46, 41]⟩, .string ⟨#[40, 120, 32, 120, 41]⟩, .string ⟨#[40, 120, 32, 40, 121, 32, 120, 41, 41]⟩, .string ⟨#[40, 120, 32, 46, 46, 46, 41]⟩, .string ⟨#[40, 120, 41]⟩, .string ⟨#[40, 120, 32, 46, 46, 46, 41]⟩, .string ⟨#[40, 120, 41]⟩, .string ⟨#[40, 40, 120, 32, 46, 46, 46, 41, 32, 46, 46, 46, 41]⟩, .string ⟨#[40, 120, 32, 46, 46, 46, 41]⟩, .string ⟨#[40, 120, 32, 121, 32, 46, 46, 46, 41]⟩, .string ⟨#[46, 46, 46]⟩, .string ⟨#[40, 120, 41]⟩, .string ⟨#[40, 120, 41]⟩, .string ⟨#[40, 120, 32, 46, 46, 46, 41]⟩, .string ⟨#[40, 95, 32, 95, 41]⟩] 9)).alloc (.cells #[.string ⟨#[120]⟩, .string ⟨#[120]⟩, .string ⟨#[120]⟩, .string ⟨#[120]⟩, .string ⟨#[120]⟩, .string ⟨#[120]⟩, .string ⟨#[40, 120, 32, 46, 46, 46, 41]⟩, .string ⟨#[40, 40, 120, 32, 46, 46, 46, 41, 32, 46, 46, 46, 41]⟩, .string ⟨#[40, 46, 46, 46, 32, 120, 41]⟩, .string ⟨#[40, 120, 32, 46, 46, 46, 41]⟩, .string ⟨#[40, 120, 32, 46, 46, 46, 32, 46, 46, 46, 41]⟩, .string ⟨#[40, 40, 120, 32, 121, 41, 32, 46, 46, 46, 41]⟩, .string ⟨#[120]⟩, .string ⟨#[46, 46, 46]⟩, .string ⟨#[40, 49, 32, 46, 46, 46, 41]⟩, .string ⟨#[40, 97, 32, 46, 46, 46, 32, 120, 32, 46, 46, 46, 41]⟩, .string ⟨#[95]⟩] 9)).heap.size = w1.heap.size + 1 + 1 := by simp
    have h := alloc_at ((w1.alloc (.cells #[.string ⟨#[120]⟩, .string ⟨#[40, 46, 46, 46, 32, 120, 41]⟩, .string ⟨#[40, 120, 32, 46, 46, 46, 32, 121, 32, 46, 46, 46, 41]⟩, .string ⟨#[40, 120, 32, 120, 41]⟩, .string ⟨#[40, 120, 32, 40, 121, 32, 120, 41, 41]⟩, .string ⟨#[40, 120, 32, 46, 46, 46, 41]⟩, .string ⟨#[40, 120, 41]⟩, .string ⟨#[40, 120, 32, 46, 46, 46, 41]⟩, .string ⟨#[40, 120, 41]⟩, .string ⟨#[40, 40, 120, 32, 46, 46, 46, 41, 32, 46, 46, 46, 41]⟩, .string ⟨#[40, 120, 32, 46, 46, 46, 41]⟩, .string ⟨#[40, 120, 32, 121, 32, 46, 46, 46, 41]⟩, .string ⟨#[46, 46, 46]⟩, .string ⟨#[40, 120, 41]⟩, .string ⟨#[40, 120, 41]⟩, .string ⟨#[40, 120, 32, 46, 46, 46, 41]⟩, .string ⟨#[40, 95, 32, 95, 41]⟩] 9)).alloc (.cells #[.string ⟨#[120]⟩, .string ⟨#[120]⟩, .string ⟨#[120]⟩, .string ⟨#[120]⟩, .string ⟨#[120]⟩, .string ⟨#[120]⟩, .string ⟨#[40, 120, 32, 46, 46, 46, 41]⟩, .string ⟨#[40, 40, 120, 32, 46, 46, 46, 41, 32, 46, 46, 46, 41]⟩, .string ⟨#[40, 46, 46, 46, 32, 120, 41]⟩, .string ⟨#[40, 120, 32, 46, 46, 46, 41]⟩, .string ⟨#[40, 120, 32, 46, 46, 46, 32, 46, 46, 46, 41]⟩, .string ⟨#[40, 40, 120, 32, 121, 41, 32, 46, 46, 46, 41]⟩, .string ⟨#[120]⟩, .string ⟨#[46, 46, 46]⟩, .string ⟨#[40, 49, 32, 46, 46, 46, 41]⟩, .string ⟨#[40, 97, 32, 46, 46, 46, 32, 120, 32, 46, 46, 46, 41]⟩, .string ⟨#[95]⟩] 9)) (.cells #[.int .i64 7, .int .i64 7, .int .i64 7, .int .i64 9, .int .i64 9, .int .i64 7, .int .i64 7, .int .i64 7, .int .i64 7, .int .i64 7, .int .i64 7, .int .i64 0, .int .i64 7, .int .i64 7, .int .i64 7, .int .i64 7, .int .i64 0] 32)
    rw [s2] at h; exact h
  generalize (((w1.alloc (.cells #[.string ⟨#[120]⟩, .string ⟨#[40, 46, 46, 46, 32, 120, 41]⟩, .string ⟨#[40, 120, 32, 46, 46, 46, 32, 121, 32, 46, 46, 46, 41]⟩, .string ⟨#[40, 120, 32, 120, 41]⟩, .string ⟨#[40, 120, 32, 40, 121, 32, 120, 41, 41]⟩, .string ⟨#[40, 120, 32, 46, 46, 46, 41]⟩, .string ⟨#[40, 120, 41]⟩, .string ⟨#[40, 120, 32, 46, 46, 46, 41]⟩, .string ⟨#[40, 120, 41]⟩, .string ⟨#[40, 40, 120, 32, 46, 46, 46, 41, 32, 46, 46, 46, 41]⟩, .string ⟨#[40, 120, 32, 46, 46, 46, 41]⟩, .string ⟨#[40, 120, 32, 121, 32, 46, 46, 46, 41]⟩, .string ⟨#[46, 46, 46]⟩, .string ⟨#[40, 120, 41]⟩, .string ⟨#[40, 120, 41]⟩, .string ⟨#[40, 120, 32, 46, 46, 46, 41]⟩, .string ⟨#[40, 95, 32, 95, 41]⟩] 9)).alloc (.cells #[.string ⟨#[120]⟩, .string ⟨#[120]⟩, .string ⟨#[120]⟩, .string ⟨#[120]⟩, .string ⟨#[120]⟩, .string ⟨#[120]⟩, .string ⟨#[40, 120, 32, 46, 46, 46, 41]⟩, .string ⟨#[40, 40, 120, 32, 46, 46, 46, 41, 32, 46, 46, 46, 41]⟩, .string ⟨#[40, 46, 46, 46, 32, 120, 41]⟩, .string ⟨#[40, 120, 32, 46, 46, 46, 41]⟩, .string ⟨#[40, 120, 32, 46, 46, 46, 32, 46, 46, 46, 41]⟩, .string ⟨#[40, 40, 120, 32, 121, 41, 32, 46, 46, 46, 41]⟩, .string ⟨#[120]⟩, .string ⟨#[46, 46, 46]⟩, .string ⟨#[40, 49, 32, 46, 46, 46, 41]⟩, .string ⟨#[40, 97, 32, 46, 46, 46, 32, 120, 32, 46, 46, 46, 41]⟩, .string ⟨#[95]⟩] 9)).alloc (.cells #[.int .i64 7, .int .i64 7, .int .i64 7, .int .i64 9, .int .i64 9, .int .i64 7, .int .i64 7, .int .i64 7, .int .i64 7, .int .i64 7, .int .i64 7, .int .i64 0, .int .i64 7, .int .i64 7, .int .i64 7, .int .i64 7, .int .i64 0] 32)) = X at hb2 hx0 hx1 hx2 ⊢
  have HBX := Lib.hid (HB1.out.trans (hb2.mono hs1))
  have hsx := hb2.size
  have hlx := (Array.getElem?_eq_some_iff.1 hx2).1
  have HC : Hid (∀ W, Below X.heap.size X W → W.cell? ⟨w1.heap.size, k, none⟩ = some (.string (tP k)) ∧ W.cell? ⟨w1.heap.size + 1, k, none⟩ = some (.string (tT k)) ∧ W.cell? ⟨w1.heap.size + 1 + 1, k, none⟩ = some (.int .i64 (tE k))) := by
    intro W h
    exact ⟨by rw [Lib.cell_of_heap ((h.block _ (by omega)).trans hx0)]; exact sp_at k hk17, by rw [Lib.cell_of_heap ((h.block _ (by omega)).trans hx1)]; exact st_at k hk17, by rw [Lib.cell_of_heap ((h.block _ hlx).trans hx2)]; exact se_at k hk17⟩
  obtain ⟨hE, hw1, hw2, hz1, hz2⟩ := err_at k hk17
  have o1 := oneOf_size (tP k)
  have o2 := oneOf_size (tT k)
  have F1 := Lib.hid (fun W => one_any (tP k) W (by omega))
  have F2 := Lib.hid (fun W => one_any (tT k) W (by omega))
  have HW1 := Lib.hid hw1
  have HW2 := Lib.hid hw2
  have HE := Lib.hid hE
  have s1 : (oneOf (tP k)).size ≤ 9000 := by omega
  have s2 : (oneOf (tT k)).size ≤ 9000 := by omega
  clear hb2 hx0 hx1 hx2 hw1 hw2 hE
  refine wp_region_noPanic ?_
  refine wp_region_held_drew (S := Below X.heap.size X) (by kernel_rfl) ((Below.refl _ _).drew) (fun hHeld => ?_)
  have qk : (k : Int) < 17 := by omega
  have hsd : X.drew.heap.size = X.heap.size := rfl
  generalize X.drew = V at hHeld hsd ⊢
  refine wpAnyH_take (i := 0) (v := ?v0) rfl (by kernel_rfl) (by kernel_rfl) (by kernel_rfl) (fun _ _ _ h => h) (Or.inl ⟨rfl, fun w' hw' => ?h0⟩) hHeld ?r0
  case h0 =>
    (go_simp; try rw [if_pos qk])
    try with_reducible rfl
  simp only [zt, zs, zz, Act.put, zi, zy, zx]
  refine wpAnyH_take (i := 1) (v := ?v1) rfl (by kernel_rfl) (by kernel_rfl) (by kernel_rfl) (fun _ _ _ h => h) (Or.inl ⟨rfl, fun w' hw' => ?h1⟩) hHeld ?r1
  case h1 =>
    (go_simp; try rw [if_pos qk])
    try with_reducible rfl
  simp only [zt, zs, zz, Act.put, zi, zy, zx]
  refine wpAnyH_take (i := 2) (v := ?v2) rfl (by kernel_rfl) (by kernel_rfl) (by kernel_rfl) (fun _ _ _ h => h) (Or.inl ⟨rfl, fun w' hw' => ?h2⟩) hHeld ?r2
  case h2 =>
    (go_simp; try rw [if_pos qk])
    try with_reducible rfl
  simp only [zt, zs, zz, Act.put, zi, zy, zx]
  refine wpAnyH_take (i := 3) (v := ?v3) rfl (by kernel_rfl) (by kernel_rfl) (by kernel_rfl) (fun _ _ _ h => h) (Or.inl ⟨rfl, fun w' hw' => ?h3⟩) hHeld ?r3
  case h3 =>
    (obtain ⟨e0, e1, e2⟩ := HC.out w' hw'; go_simp)
    try with_reducible rfl
  simp only [zt, zs, zz, Act.put, zi, zy, zx]
  refine wpAnyH_take (i := 5) (v := ?v4) rfl (by kernel_rfl) (by kernel_rfl) (by kernel_rfl) (fun _ _ _ h => h) (Or.inl ⟨rfl, fun w' hw' => ?h4⟩) hHeld ?r4
  case h4 =>
    (go_simp; try rw [if_pos qk])
    try with_reducible rfl
  simp only [zt, zs, zz, Act.put, zi, zy, zx]
  refine wpAnyH_take (i := 6) (v := ?v5) rfl (by kernel_rfl) (by kernel_rfl) (by kernel_rfl) (fun _ _ _ h => h) (Or.inl ⟨rfl, fun w' hw' => ?h5⟩) hHeld ?r5
  case h5 =>
    (go_simp; try rw [if_pos qk])
    try with_reducible rfl
  simp only [zt, zs, zz, Act.put, zi, zy, zx]
  refine wpAnyH_take (i := 7) (v := ?v6) rfl (by kernel_rfl) (by kernel_rfl) (by kernel_rfl) (fun _ _ _ h => h) (Or.inl ⟨rfl, fun w' hw' => ?h6⟩) hHeld ?r6
  case h6 =>
    (go_simp; try rw [if_pos qk])
    try with_reducible rfl
  simp only [zt, zs, zz, Act.put, zi, zy, zx]
  refine wpAnyH_take (i := 8) (v := ?v7) rfl (by kernel_rfl) (by kernel_rfl) (by kernel_rfl) (fun _ _ _ h => h) (Or.inl ⟨rfl, fun w' hw' => ?h7⟩) hHeld ?r7
  case h7 =>
    (obtain ⟨e0, e1, e2⟩ := HC.out w' hw'; go_simp)
    try with_reducible rfl
  simp only [zt, zs, zz, Act.put, zi, zy, zx]
  refine wpAnyH_take (i := 11) (v := ?v8) rfl (by kernel_rfl) (by kernel_rfl) (by kernel_rfl) (fun _ _ _ h => h) (Or.inl ⟨rfl, fun w' hw' => ?h8⟩) hHeld ?r8
  case h8 =>
    (go_simp; try rw [if_pos qk])
    try with_reducible rfl
  simp only [zt, zs, zz, Act.put, zi, zy, zx]
  refine wpAnyH_take (i := 12) (v := ?v9) rfl (by kernel_rfl) (by kernel_rfl) (by kernel_rfl) (fun _ _ _ h => h) (Or.inl ⟨rfl, fun w' hw' => ?h9⟩) hHeld ?r9
  case h9 =>
    (go_simp; try rw [if_pos qk])
    try with_reducible rfl
  simp only [zt, zs, zz, Act.put, zi, zy, zx]
  refine wpAnyH_take (i := 13) (v := ?v10) rfl (by kernel_rfl) (by kernel_rfl) (by kernel_rfl) (fun _ _ _ h => h) (Or.inl ⟨rfl, fun w' hw' => ?h10⟩) hHeld ?r10
  case h10 =>
    (go_simp; try rw [if_pos qk])
    try with_reducible rfl
  simp only [zt, zs, zz, Act.put, zi, zy, zx]
  refine wpAnyH_take (i := 14) (v := ?v11) rfl (by kernel_rfl) (by kernel_rfl) (by kernel_rfl) (fun _ _ _ h => h) (Or.inl ⟨rfl, fun w' hw' => ?h11⟩) hHeld ?r11
  case h11 =>
    (obtain ⟨e0, e1, e2⟩ := HC.out w' hw'; go_simp)
    try with_reducible rfl
  simp only [zt, zs, zz, Act.put, zi, zy, zx]
  refine wpAnyH_ready (rs := [4]) (by kernel_rfl) (by simp) ?_
  refine (AllReadyH.cons rfl (fun K hK => ?_) AllReadyH.nil)
  go_simp
  refine (F1.out V).mono ?_
  rintro e w4 ⟨c4, rfl, h4, hb4⟩
  have hHeld := hHeld.trans (hb4.mono (by omega))
  have hs4 := hb4.size
  have H4 := Lib.hid h4
  clear h4 hb4
  refine hK.out _ _ hHeld (fun hHeld => ?_)
  clear hK K
  try simp only [zt, zs, zz, Act.put, zi, zy, zx]
  refine wpAnyH_ready (rs := [9]) (by kernel_rfl) (by simp) ?_
  refine (AllReadyH.cons rfl (fun K hK => ?_) AllReadyH.nil)
  go_simp
  refine (F2.out w4).mono ?_
  rintro e w9 ⟨c9, rfl, h9, hb9⟩
  have hHeld := hHeld.trans (hb9.mono (by omega))
  have hs9 := hb9.size
  have H9 := Lib.hid h9
  have H49 := Lib.hid (Dt.At.keeps (Keeps.of_below hb9) _ _ H4.out)
  clear h9 hb9
  refine hK.out _ _ hHeld (fun hHeld => ?_)
  clear hK K
  try simp only [zt, zs, zz, Act.put, zi, zy, zx]
  refine wpAnyH_ready (rs := [10]) (by kernel_rfl) (by simp) ?_
  refine (AllReadyH.cons rfl (fun K hK => ?_) AllReadyH.nil)
  go_simp
  refine (check_any [] (.slice none 0 0) _ _ c4 c9 w9 (.inl ⟨rfl, rfl⟩) (by simp) (fun s h => by cases h) (Dt.At.low _ _ H49.out) (Dt.At.low _ _ H9.out) HW1.out HW2.out s1 s2).mono ?_
  rintro e w6 ⟨rfl, hb6⟩
  rw [HE.out]
  have hHeld := hHeld.trans (hb6.mono (by omega))
  clear hb6
  refine hK.out _ _ hHeld (fun hHeld => ?_)
  clear hK K
  try simp only [zt, zs, zz, Act.put, zi, zy, zx]
  refine wpAnyH_take (i := 15) (v := ?v12) rfl (by kernel_rfl) (by kernel_rfl) (by kernel_rfl) (fun _ _ _ h => h) (Or.inl ⟨rfl, fun w' hw' => ?h12⟩) hHeld ?r12
  case h12 =>
    (go_simp; try rw [if_pos qk])
    try with_reducible rfl
  simp only [zt, zs, zz, Act.put, zi, zy, zx]
  refine wpAnyH_take (i := 16) (v := ?v13) rfl (by kernel_rfl) (by kernel_rfl) (by kernel_rfl) (fun _ _ _ h => h) (Or.inl ⟨rfl, fun w' hw' => ?h13⟩) hHeld ?r13
  case h13 =>
    (go_simp; try rw [if_pos qk])
    try with_reducible rfl
  simp only [zt, zs, zz, Act.put, zi, zy, zx]
  refine wpAnyH_done (by kernel_rfl) ?_ _
  refine NoPanic.normal ?_
  have hEnd := hHeld
  clear hHeld
  go_wp2_with fail
  go_ret
  exact ⟨by simp, HBX.out.trans (hEnd.mono (by have := HBX.out.size; omega))⟩
end Go.Proofs.Ythhaegncnoekbaa
