/- Free's contract. -/
import Derived.Test.YtcalbcllmmoldaaFR2
import Derived.Test.YtcalbcllmmoldaaSHL
namespace Go.Proofs.Ytcalbcllmmoldaa
open Go.RowKit
open Go.Maps
set_option linter.unusedVariables false
set_option linter.unusedSimpArgs false
/-- Names in rising order of bytes, none twice. -/
def Srt (l : List ByteArray) : Prop := l.Pairwise fun a b => a.data.toList < b.data.toList
theorem srt_ext : ∀ {a b : List ByteArray}, Srt a → Srt b → (∀ s, s ∈ a ↔ s ∈ b) → a = b := by
  intro a b ha hb h
  have h1 : ∀ {l : List ByteArray}, Srt l → l.Nodup := fun {l} hl => hl.imp fun {x y} hxy e => by subst e; exact absurd hxy (List.lt_irrefl _)
  exact List.Perm.eq_of_pairwise (le := fun (a b : ByteArray) => a.data.toList < b.data.toList) (fun x y _ _ hx hy => absurd (List.lt_trans (show x.data.toList < y.data.toList from hx) (show y.data.toList < x.data.toList from hy)) (List.lt_irrefl _)) ha hb ((List.perm_ext_iff_of_nodup (h1 ha) (h1 hb)).2 h)
def RetFree (e : Et) (w : World) (r : Ending) (w' : World) : Prop :=
  ∃ v L, r = .returned v ∧ NAt (fun g => w.heap.size ≤ g) w' v L ∧ Srt L ∧ (∀ s, s ∈ L ↔ e.fr s) ∧ Below w.heap.size w w'
theorem ba_of (x : List UInt8) : (⟨x.toArray⟩ : ByteArray).data.toList = x := by simp
theorem free_list {w W : World} {mf n B : Nat} {F : ByteArray → Prop} {D : DataW Unit} {v : Value} {ss : List (List UInt8)} (hown : w.ownsMap Try.prog 9 (unitElem (H := Unit)) mf n D) (hD : ∀ s, has D (litS s) = true ↔ F s) (hp : ss.Perm (strKeys D))
    (hrow : W.ownsRow B 9 1 v ss.length ((ss.mergeSort (fun x y => decide (x ≤ y))).map encStr)) : ∃ L, NAt (fun g => B ≤ g) W v L ∧ Srt L ∧ ∀ s, s ∈ L ↔ F s := by
  obtain ⟨es, hDe, hpw, _⟩ := hown.entries law9
  obtain ⟨es', hDe', hko⟩ := hown.keysOf
  obtain rfl : es = es' := by rw [hDe] at hDe'; simpa using hDe'
  have hmem : ∀ x, x ∈ strKeys D ↔ has D (.string x) = true := by
    intro x
    rw [hDe, has_eq, List.any_eq_true]
    show x ∈ es.map (fun p => strOf p.1) ↔ _
    rw [List.mem_map]
    constructor
    · rintro ⟨p, hp', rfl⟩
      obtain ⟨v, hv⟩ := hko p hp'
      obtain ⟨y, _, hy, _⟩ := Maps.keyOf_str Try.underlying9 hv
      exact ⟨p, hp', by rw [hy]; simp [Lit.sameKey, strOf]⟩
    · rintro ⟨p, hp', h⟩
      obtain ⟨v, hv⟩ := hko p hp'
      obtain ⟨y, _, hy, _⟩ := Maps.keyOf_str Try.underlying9 hv
      rw [hy] at h
      exact ⟨p, hp', by rw [hy]; simpa [Lit.sameKey, strOf] using h⟩
  have hnd : (strKeys D).Nodup := by
    rw [hDe]
    show (es.map fun p => strOf p.1).Nodup
    refine List.pairwise_map.2 (hpw.imp_of_mem fun {p q} hp' hq' hne e => hne ?_)
    obtain ⟨v, hv⟩ := hko p hp'
    obtain ⟨y, _, hy, _⟩ := Maps.keyOf_str Try.underlying9 hv
    obtain ⟨v2, hv2⟩ := hko q hq'
    obtain ⟨y2, _, hy2, _⟩ := Maps.keyOf_str Try.underlying9 hv2
    rw [hy, hy2] at e ⊢
    exact congrArg _ e
  obtain ⟨so, hso⟩ : ∃ so, so = ss.mergeSort (fun x y => decide (x ≤ y)) := ⟨_, rfl⟩
  have hsp : so.Perm ss := by rw [hso]; exact List.mergeSort_perm _ _
  have hlen : so.length = ss.length := hsp.length_eq
  have tr : ∀ a b c : List UInt8, decide (a ≤ b) = true → decide (b ≤ c) = true → decide (a ≤ c) = true := fun a b c h1 h2 => by simp only [decide_eq_true_eq] at *; exact List.le_trans h1 h2
  have to : ∀ a b : List UInt8, (decide (a ≤ b) || decide (b ≤ a)) = true := fun a b => by simp only [Bool.or_eq_true, decide_eq_true_eq]; exact List.le_total a b
  have hsorted : so.Pairwise (fun a b => decide (a ≤ b) = true) := by rw [hso]; exact List.pairwise_mergeSort tr to ss
  have hson : so.Nodup := (hsp.trans hp).nodup_iff.2 hnd
  rw [← hso] at hrow
  refine ⟨so.map (fun x => ⟨x.toArray⟩), ?_, ?_, ?_⟩
  · rcases hrow.2 with ⟨rfl, hz⟩ | ⟨g, cap, cur, rfl, hbg, hg, hnc, hcm, hcs, htake⟩
    · exact .inl ⟨rfl, by rw [List.map_eq_nil_iff]; exact List.length_eq_zero_iff.1 (by omega)⟩
    · refine .inr ⟨g, 0, cap, cur, (0, 0), by rw [List.length_map, hlen], hbg, hg, fun j hj => ?_, by rw [List.length_map]; omega⟩
      rw [List.length_map] at hj
      have h5 : (cur.toList.take (ss.length * 1))[j]? = (so.map encStr)[j]? := by rw [htake]
      rw [List.getElem?_take, if_pos (by omega), List.getElem?_map, List.getElem?_eq_getElem hj] at h5
      rw [Nat.zero_add, List.getElem_map]
      simpa [encStr] using h5
  · unfold Srt
    rw [List.pairwise_map]
    refine (List.Pairwise.and hsorted hson).imp fun {a b} h => ?_
    simp only [decide_eq_true_eq] at h
    rw [ba_of, ba_of]
    exact Classical.byContradiction fun hn => h.2 (List.le_antisymm h.1 (List.not_lt.1 hn))
  · intro s
    rw [List.mem_map, ← hD s]
    constructor
    · rintro ⟨x, hx, rfl⟩
      have h1 := (hmem x).1 ((hsp.trans hp).mem_iff.1 hx)
      unfold litS; rw [ba_of]; exact h1
    · intro h
      refine ⟨s.data.toList, (hsp.trans hp).mem_iff.2 ((hmem _).2 h), ?_⟩
      exact ByteArray.ext (Array.toList_inj.1 (by simp))
/-- What the finder starts with. -/
theorem free_start (w : World) (k : Int) (t : ByteArray) (nv av : Value) :
    Below w.heap.size w ((((w.alloc (.cells #[.int .i64 k, .string t, nv, av] 28)).alloc (.map #[] 0)).alloc (.map #[] 0)).alloc (.cells #[.map (some (w.heap.size + 1)), .map (some (w.heap.size + 1 + 1))] 70)) ∧
    EB ((((w.alloc (.cells #[.int .i64 k, .string t, nv, av] 28)).alloc (.map #[] 0)).alloc (.map #[] 0)).alloc (.cells #[.map (some (w.heap.size + 1)), .map (some (w.heap.size + 1 + 1))] 70)) w.heap.size k t nv av ∧
    ArAt ((((w.alloc (.cells #[.int .i64 k, .string t, nv, av] 28)).alloc (.map #[] 0)).alloc (.map #[] 0)).alloc (.cells #[.map (some (w.heap.size + 1)), .map (some (w.heap.size + 1 + 1))] 70)) (w.heap.size + 1) 0 (fun _ => 0) ∧
    FrAt ((((w.alloc (.cells #[.int .i64 k, .string t, nv, av] 28)).alloc (.map #[] 0)).alloc (.map #[] 0)).alloc (.cells #[.map (some (w.heap.size + 1)), .map (some (w.heap.size + 1 + 1))] 70)) (w.heap.size + 1 + 1) 0 (fun _ => False) ∧
    ((((w.alloc (.cells #[.int .i64 k, .string t, nv, av] 28)).alloc (.map #[] 0)).alloc (.map #[] 0)).alloc (.cells #[.map (some (w.heap.size + 1)), .map (some (w.heap.size + 1 + 1))] 70)).heap[w.heap.size + 1 + 1 + 1]? = some (.cells #[.map (some (w.heap.size + 1)), .map (some (w.heap.size + 1 + 1))] 70 (0, 0)) := by
  have e1 : (w.alloc (.cells #[.int .i64 k, .string t, nv, av] 28)).heap.size = w.heap.size + 1 := by simp
  have e2 : ((w.alloc (.cells #[.int .i64 k, .string t, nv, av] 28)).alloc (.map #[] 0)).heap.size = w.heap.size + 1 + 1 := by simp
  have e3 : (((w.alloc (.cells #[.int .i64 k, .string t, nv, av] 28)).alloc (.map #[] 0)).alloc (.map #[] 0)).heap.size = w.heap.size + 1 + 1 + 1 := by simp
  have b1 := (Below.refl w.heap.size w).alloc (Nat.le_refl _) (.cells #[.int .i64 k, .string t, nv, av] 28)
  have b2 := b1.alloc b1.size (.map #[] 0)
  have b3 := b2.alloc b2.size (.map #[] 0)
  have b4 := b3.alloc b3.size (.cells #[.map (some (w.heap.size + 1)), .map (some (w.heap.size + 1 + 1))] 70)
  have m1 := World.ownsMap_made (w.alloc (.cells #[.int .i64 k, .string t, nv, av] 28)) Try.prog 9 (plainElem (H := Unit) Try.prog 3)
  have m2 := World.ownsMap_made ((w.alloc (.cells #[.int .i64 k, .string t, nv, av] 28)).alloc (.map #[] 0)) Try.prog 9 (unitElem (H := Unit))
  rw [e1] at m1
  rw [e2] at m2
  refine ⟨b4, ?_, ⟨_, (m1.alloc _).alloc _, fun s => rfl, fun s => Nat.le_refl _⟩, ⟨_, m2.alloc _, fun s => by simp [has]⟩, ?_⟩
  · exact (Lib.alloc_old _ _ _ (by rw [e3]; omega)).trans ((Lib.alloc_old _ _ _ (by rw [e2]; omega)).trans ((Lib.alloc_old _ _ _ (by rw [e1]; omega)).trans (alloc_at w _)))
  · have h := alloc_at (((w.alloc (.cells #[.int .i64 k, .string t, nv, av] 28)).alloc (.map #[] 0)).alloc (.map #[] 0)) (.cells #[.map (some (w.heap.size + 1)), .map (some (w.heap.size + 1 + 1))] 70)
    rw [e3] at h; exact h
set_option maxHeartbeats 8000000 in
set_option maxRecDepth 100000 in
theorem free_any (e : Et) (hf : e.fine) (hs : e.size ≤ 10000) (S : Nat → Prop) (cs : Array Value) (w : World) (hat : Et.At S w e cs) : Calls Try.prog 22 #[.agg cs] w (RetFree e w) := by
  obtain ⟨k, t, nv, av, rfl, o1, o2⟩ := EAt_form hat
  have z0 : (#[.int .i64 k, .string t, nv, av] : Array Value).all (·.oneCell') = true := by simp [Value.oneCell'] at o1 o2 ⊢; exact ⟨o1, o2⟩
  obtain ⟨hb, hE, hAR, hFR, hBX⟩ := free_start w k t nv av
  have HB := Lib.hid hb
  have HE := Lib.hid hE
  have HAR := Lib.hid hAR
  have HFR := Lib.hid hFR
  have HBX := Lib.hid hBX
  have HAT := Lib.hid (Et.At.keeps (Keeps.of_below hb) _ _ hat)
  have HFC := Lib.hid (finder_tree e.size e (Nat.le_refl _) (by omega) hf)
  have hm1 := @run_makeMap Try.prog
  clear hat hb hE hAR hFR hBX
  go_enter Try.func22, Try.ntmps22
  go_upto_region 2 with fail
  clear hm1
  obtain ⟨ga, hga⟩ : ∃ ga, ga = w.heap.size := ⟨_, rfl⟩
  obtain ⟨ma, hma⟩ : ∃ ma, ma = ga + 1 := ⟨_, rfl⟩
  obtain ⟨mf, hmf⟩ : ∃ mf, mf = ma + 1 := ⟨_, rfl⟩
  obtain ⟨gb, hgb⟩ : ∃ gb, gb = mf + 1 := ⟨_, rfl⟩
  simp only [← hga, ← hma, ← hmf, ← hgb] at HB HE HAR HFR HBX HAT ⊢
  generalize (((w.alloc (.cells #[.int .i64 k, .string t, nv, av] 28)).alloc (.map #[] 0)).alloc (.map #[] 0)).alloc (.cells #[.map (some ma), .map (some mf)] 70) = W at HB HE HAR HFR HBX HAT ⊢
  have hmm : ma ≠ mf := by omega
  have hwa : w.heap.size ≤ ma := by omega
  have hwf : w.heap.size ≤ mf := by omega
  have hgbm : gb ≠ ma := by omega
  have hgbf : gb ≠ mf := by omega
  have HWF := Lib.hid hwf
  have HWA := Lib.hid hwa
  have HB0 : Hid (Below w.heap.size w W) := by show Below w.heap.size w W; rw [← hga]; exact HB.out
  clear HB
  have HB := HB0
  clear HB0 hga hma hmf hgb hwa hwf
  have b0 : W.cell? ⟨gb, 0, none⟩ = some (.map (some ma)) := by rw [Lib.cell_of_heap HBX.out]; rfl
  have b1 : W.cell? ⟨gb, 1, none⟩ = some (.map (some mf)) := by rw [Lib.cell_of_heap HBX.out]; rfl
  have HC := Lib.hid (HFC.out S _ W ma mf 0 _ _ HAR.out HFR.out hmm HAT.out (by omega))
  go_wp2_with (refine wpList_load_row rfl 28 _ rfl ga rfl 28 #[.int .i64 k, .string t, nv, av] (0, 0) _ HE.out Try.underlying28 rfl info28 ?_)
  refine HC.out.mono ?_
  rintro r w1 ⟨rfl, har, hfr, hbu⟩
  have HBX1 := Lib.hid (row_but2 hbu HBX.out hgbm hgbf)
  have hb1 : Below w.heap.size w w1 := HB.out.trans ⟨hbu.os, hbu.tape, hbu.output, hbu.size, fun i hi => hbu.block i (Nat.lt_of_lt_of_le hi HB.out.size) (fun e => by have := HWA.out; omega) (fun e => by have := HWF.out; omega)⟩
  have HB1 := Lib.hid hb1
  obtain ⟨D, hown, hD⟩ := hfr
  have hsz := hown.size_le
  have b2 : w1.cell? ⟨gb, 1, none⟩ = some (.map (some mf)) := by rw [Lib.cell_of_heap HBX1.out]; rfl
  have HKEY := Lib.hid ((callsIn_wide.1 (Try.maps_Keys_47 (some mf) w1)))
  have HSRT := Lib.hid ((callsIn_wide.1 (Try.slices_Sorted_keys_46_47 mf _ D (unitElem (H := Unit)) w1 hown (by unfold maxLen; omega) (by omega))))
  have HLS := Lib.hid (fun (W : World) (B : Nat) (v : Value) (ss : List (List UInt8)) (hp : ss.Perm (strKeys D)) hrow => free_list (W := W) (B := B) (v := v) hown hD hp hrow)
  clear har hbu hb1 hown hD hsz b0 b1 HC
  go_wp2_with fail
  refine HKEY.out.mono ?_
  rintro r w2 ⟨rfl, rfl⟩
  go_wp2_with fail
  refine HSRT.out.mono ?_
  rintro r w3 ⟨v, ss, rfl, hp, hrow, -, hb3⟩
  obtain ⟨L, hL1, hL2, hL3⟩ := HLS.out w3 _ v ss hp hrow
  have A2 := (Below.refl w1.heap.size w1).alloc (Nat.le_refl _) (.cells #[.map (some mf)] 68)
  have hs1 := HB1.out.size
  have HFIN : Hid (RetFree e w (.returned v) w3) := ⟨v, L, rfl, hL1.mono (fun g hg => by have : (w1.alloc (.cells #[.map (some mf)] 68)).heap.size ≤ g := hg; simp at this; omega), hL2, fun s => (hL3 s).trans (by simp), HB1.out.trans ((A2.trans (hb3.mono A2.size)).mono hs1)⟩
  obtain ⟨vo, vc, rfl⟩ := hL1.form
  clear hp hrow hb3 hL1 hL2 hL3 A2
  go_wp2_with fail
  go_ret
  exact HFIN.out
end Go.Proofs.Ytcalbcllmmoldaa
