/- The finder goes through a term. -/
import Derived.Test.YtcalbcllmmoldaaFR1
import Derived.Test.YtcalbcllmmoldaaMK3
import Derived.Test.YtcalbcllmmoldaaT0
namespace Go.Proofs.Ytcalbcllmmoldaa
open Go.RowKit
open Go.Maps
open Go.WideMaps (keyOf_string_mk)
set_option linter.unusedVariables false
set_option linter.unusedSimpArgs false
/-- Block mf is a set of names. -/
def FrAt (w : World) (mf n : Nat) (F : ByteArray → Prop) : Prop := ∃ D : DataW Unit, w.ownsMap Try.prog 9 (unitElem (H := Unit)) mf n D ∧ ∀ s, has D (litS s) = true ↔ F s
theorem FrAt.heap {w w' : World} {mf n : Nat} {F : ByteArray → Prop} (h : FrAt w mf n F) (hb : w'.heap[mf]? = w.heap[mf]?) : FrAt w' mf n F := by
  obtain ⟨D, h1, h2⟩ := h
  exact ⟨D, own_heap h1 hb, h2⟩
theorem FrAt.lt {w : World} {mf n : Nat} {F : ByteArray → Prop} (h : FrAt w mf n F) : mf < w.heap.size := by obtain ⟨D, h, _⟩ := h; exact h.lt
theorem FrAt.map {w : World} {mf n : Nat} {F : ByteArray → Prop} (h : FrAt w mf n F) : ∃ es clock, w.heap[mf]? = some (.map es clock) := by
  obtain ⟨D, ⟨es, clock, h, _⟩, _⟩ := h; exact ⟨es, clock, h⟩
theorem FrAt.mono {w : World} {mf n n' : Nat} {F F' : ByteArray → Prop} (h : FrAt w mf n F) (hn : n ≤ n') (hF : ∀ s, F s ↔ F' s) : FrAt w mf n' F' := by
  obtain ⟨D, h1, h2⟩ := h
  exact ⟨D, h1.mono hn, fun s => (h2 s).trans (hF s)⟩
theorem ArAt.mono {w : World} {ma n n' : Nat} {c c' : ByteArray → Nat} (h : ArAt w ma n c) (hn : n ≤ n') (hc : ∀ s, c s = c' s) : ArAt w ma n' c' := by
  obtain ⟨D, h1, h2, h3⟩ := h
  exact ⟨D, h1.mono hn, fun s => by rw [h2, hc], fun s => by rw [← hc]; exact Nat.le_trans (h3 s) hn⟩
theorem FrAt.put {w w' : World} {mf n : Nat} {F F' : ByteArray → Prop} {D : DataW Unit} {x : ByteArray} (hD : w.ownsMap Try.prog 9 (unitElem (H := Unit)) mf n D) (hc : ∀ s, has D (litS s) = true ↔ F s)
    (ho : w'.ownsMap Try.prog 9 (unitElem (H := Unit)) mf (n + 1) (D.put (litS x) (.agg []))) (h : ∀ s, F' s ↔ (s = x ∨ F s)) : FrAt w' mf (n + 1) F' := by
  refine ⟨_, ho, fun s => ?_⟩
  rw [h]
  by_cases hs : s = x
  · subst hs; rw [has_put_same hD.isMap (litS_key _)]; simp
  · rw [has_put_other (fun e => hs (litS_inj e)), hc]; simp [hs]
theorem keeps_maps {S : Nat → Prop} {w w' : World} {ma mf : Nat} (hm : ∃ es clock, w.heap[ma]? = some (.map es clock)) (hf : ∃ es clock, w.heap[mf]? = some (.map es clock)) (h : But2 w.heap.size ma mf w w') : Keeps S w w' := by
  intro g c T fz _ hg _
  obtain ⟨es, clock, hm⟩ := hm
  obtain ⟨es2, clock2, hf⟩ := hf
  refine ⟨fz, ?_⟩
  rw [h.block g (Array.getElem?_eq_some_iff.1 hg).1 (by rintro rfl; rw [hm] at hg; cases hg) (by rintro rfl; rw [hf] at hg; cases hg)]; exact hg
theorem row_but2 {w w' : World} {ma mf : Nat} (h : But2 w.heap.size ma mf w w') {g : Nat} {c : Array Value} {T : TypeId} {fz : Nat × Nat} (hg : w.heap[g]? = some (.cells c T fz)) (h1 : g ≠ ma) (h2 : g ≠ mf) : w'.heap[g]? = some (.cells c T fz) := by
  rw [h.block g (Array.getElem?_eq_some_iff.1 hg).1 h1 h2]; exact hg
def RetF (e : Et) (ma mf n : Nat) (c : ByteArray → Nat) (F : ByteArray → Prop) (w : World) (r : Ending) (w' : World) : Prop :=
  r = .returned (.tuple #[]) ∧ ArAt w' ma (n + 300 * e.size) c ∧ FrAt w' mf (n + 300 * e.size) (fun s => F s ∨ (e.fr s ∧ c s = 0)) ∧ But2 w.heap.size ma mf w w'
def FC (e : Et) : Prop := ∀ (S : Nat → Prop) (cs : Array Value) (w : World) (ma mf n : Nat) (c : ByteArray → Nat) (F : ByteArray → Prop), ArAt w ma n c → FrAt w mf n F → ma ≠ mf → Et.At S w e cs → n + 300 * e.size ≤ 100000000 →
  Calls Try.prog 45 #[.agg #[.map (some ma), .map (some mf)], .agg cs] w (RetF e ma mf n c F w)
/-- The loop over the parts. -/
def FnInv (a : List Et) (ma mf n : Nat) (c : ByteArray → Nat) (F : ByteArray → Prop) (w : World) (iv : Value) (wr : World) : Prop :=
  ∃ j : Nat, j ≤ a.length ∧ iv = .int .i64 (j : Int) ∧ ArAt wr ma (n + 300 * Et.sizes (a.take j)) c ∧ FrAt wr mf (n + 300 * Et.sizes (a.take j)) (fun s => F s ∨ (Et.frs s (a.take j) ∧ c s = 0)) ∧ But2 w.heap.size ma mf w wr
theorem frs_snoc (s : ByteArray) (l : List Et) (e : Et) : Et.frs s (l ++ [e]) ↔ Et.frs s l ∨ e.fr s := by
  rw [frs_iff, frs_iff]; simp [or_and_right, exists_or]
set_option maxHeartbeats 8000000 in
set_option maxRecDepth 100000 in
theorem finder_any (k : Int) (t : ByteArray) (ns : List ByteArray) (a : List Et) (ih : ∀ e ∈ a, FC e) (hl : a.length ≤ 100000) (hnl : ns.length ≤ 100) (hns : ∀ s ∈ ns, s.size ≤ 100) (hts : t.size ≤ 100) : FC (.mk k t ns a) := by
  intro S cs w ma mf n c F har hfr hmm hat hn
  simp only [Et.size] at hn
  rw [EAt_mk] at hat
  obtain ⟨nv, av, rfl, hm, hla⟩ := hat
  have o1 := hm.one
  have o2 := hla.one
  obtain ⟨no, nc, rfl⟩ := hm.form
  obtain ⟨ao, ac, rfl⟩ := hla.form
  have hma := har.lt
  have hmf := hfr.lt
  have A1 := (Below.refl w.heap.size w).alloc (Nat.le_refl _) (.cells #[.map (some ma), .map (some mf)] 70)
  have A2 := A1.alloc A1.size (.cells #[.int .i64 k, .string t, .slice no ns.length nc, .slice ao a.length ac] 28)
  have hs2 : (w.alloc (.cells #[.map (some ma), .map (some mf)] 70)).heap.size = w.heap.size + 1 := by simp
  have HBX : Hid (((w.alloc (.cells #[.map (some ma), .map (some mf)] 70)).alloc (.cells #[.int .i64 k, .string t, .slice no ns.length nc, .slice ao a.length ac] 28)).heap[w.heap.size]? = some (.cells #[.map (some ma), .map (some mf)] 70 (0, 0))) := (Lib.alloc_old _ _ _ (by simp)).trans (alloc_at w _)
  have HE : Hid (EB ((w.alloc (.cells #[.map (some ma), .map (some mf)] 70)).alloc (.cells #[.int .i64 k, .string t, .slice no ns.length nc, .slice ao a.length ac] 28)) (w.heap.size + 1) k t (.slice no ns.length nc) (.slice ao a.length ac)) := by
    show EB _ _ _ _ _ _
    have h := alloc_at (w.alloc (.cells #[.map (some ma), .map (some mf)] 70)) (.cells #[.int .i64 k, .string t, .slice no ns.length nc, .slice ao a.length ac] 28)
    rw [hs2] at h; exact h
  have HAR : Hid (ArAt ((w.alloc (.cells #[.map (some ma), .map (some mf)] 70)).alloc (.cells #[.int .i64 k, .string t, .slice no ns.length nc, .slice ao a.length ac] 28)) ma n c) := har.heap (A2.block ma hma)
  have HFR : Hid (FrAt ((w.alloc (.cells #[.map (some ma), .map (some mf)] 70)).alloc (.cells #[.int .i64 k, .string t, .slice no ns.length nc, .slice ao a.length ac] 28)) mf n F) := hfr.heap (A2.block mf hmf)
  have HM := Lib.hid (hm.keeps (Keeps.of_below A2))
  have HA := Lib.hid (hla.keeps (Keeps.of_below A2))
  have HU : Hid (But2 w.heap.size ma mf w ((w.alloc (.cells #[.map (some ma), .map (some mf)] 70)).alloc (.cells #[.int .i64 k, .string t, .slice no ns.length nc, .slice ao a.length ac] 28))) := But2.of (But.of A2)
  have hga : w.heap.size ≠ ma := by omega
  have hgf : w.heap.size ≠ mf := by omega
  have hea : w.heap.size + 1 ≠ ma := by omega
  have hef : w.heap.size + 1 ≠ mf := by omega
  have IH := Lib.hid ih
  have HNS := Lib.hid hns
  have HHAS := Lib.hid (fun w har => has_any t w ma n c har (by omega))
  clear har hfr hm hla A1 A2 hs2 ih hns hma hmf
  go_enter Try.func45, Try.ntmps45
  go_upto_region 1 with fail
  generalize (w.alloc (.cells #[.map (some ma), .map (some mf)] 70)).alloc (.cells #[.int .i64 k, .string t, .slice no ns.length nc, .slice ao a.length ac] 28) = W1 at HBX HE HAR HFR HM HA HU ⊢
  obtain ⟨gs, hgs⟩ : ∃ gs, gs = w.heap.size := ⟨_, rfl⟩
  obtain ⟨ge, hge⟩ : ∃ ge, ge = gs + 1 := ⟨_, rfl⟩
  rw [← hgs] at HBX HE hga hgf hea hef
  rw [← hge] at HE hea hef
  simp only [← hgs]
  simp only [← hge]
  clear hgs hge
  obtain ⟨c0, c1, c2, c3⟩ := EB.cell _ _ _ _ _ _ HE.out
  have b0 : W1.cell? ⟨gs, 0, none⟩ = some (.map (some ma)) := by rw [Lib.cell_of_heap HBX.out]; rfl
  have b1 : W1.cell? ⟨gs, 1, none⟩ = some (.map (some mf)) := by rw [Lib.cell_of_heap HBX.out]; rfl
  by_cases hk5 : k = 5
  · subst hk5
    have HH := Lib.hid (HHAS.out W1 HAR.out)
    by_cases hct : c t = 0
    · have q0 : decide (0 < c t) = false := decide_eq_false (by omega)
      rw [q0] at HH
      obtain ⟨D, hown, hD⟩ := HFR.out
      have hkey : keyOf Try.prog 9 (.string t) = some (litS t) := keyOf_string_mk Try.underlying9 (by unfold maxLen; omega)
      have hmax : n < maxLen := by unfold maxLen; omega
      obtain ⟨F1, hF1⟩ : ∃ F1 : ByteArray → Prop, F1 = fun s => F s ∨ ((t = s) ∧ c s = 0) := ⟨_, rfl⟩
      obtain ⟨n1, hn1⟩ : ∃ n1, n1 = n + 1 := ⟨_, rfl⟩
      have HPUT : Hid (∀ w1, w1.ownsMap Try.prog 9 (unitElem (H := Unit)) mf (n + 1) (D.put (litS t) (.agg [])) → FrAt w1 mf n1 F1) := by
        show ∀ w1, _ → _
        intro w1 h1
        rw [hn1]
        refine FrAt.put hown hD h1 (fun s => ?_)
        rw [hF1]
        constructor
        · rintro (h | ⟨rfl, h⟩)
          · exact .inr h
          · exact .inl rfl
        · rintro (rfl | h)
          · exact .inr ⟨rfl, hct⟩
          · exact .inl h
      have HF1 : Hid (∀ s, F1 s ↔ (F s ∨ (((5 : Int) = 5 ∧ t = s) ∧ c s = 0))) := by show ∀ s, _; intro s; rw [hF1]; simp
      have hn1' : n1 + 300 * Et.sizes a + 250 ≤ 100000000 := by omega
      have hnn : n1 ≤ n + 1 := by omega
      have hnn2 : n ≤ n1 := by omega
      clear hF1 hD hct hn1
      go_wp2_with fail
      refine HH.out.mono ?_
      rintro e' w2 ⟨rfl, rfl⟩
      go_upto_region 3 with (first
        | (at_mapUpdate; refine wpList_mapUpdate_own _ rfl _ _ _ 68 rfl 9 75 law9 Try.underlying68 (unitElem (H := Unit)) mf n _ rfl hown hmax _ _ _ rfl rfl hkey _ [] unitElem_mk ?_; intro W3 hown1 hgrow1)
        | go_in)
      have HFR3 := Lib.hid (HPUT.out W3 hown1)
      have HAR3 : Hid (ArAt W3 ma n1 c) := (HAR.out.heap (hgrow1.block ma HAR.out.lt (fun e => by injection e with e; exact hmm e))).mono (by omega) (fun _ => rfl)
      have hu3 : But2 W1.heap.size ma mf W1 W3 := ⟨hgrow1.os, hgrow1.tape, hgrow1.output, hgrow1.size, fun i hi _ h2 => hgrow1.block i hi (fun e => by injection e with e; exact h2 e)⟩
      have HU3 := Lib.hid (HU.out.trans ⟨hu3.os, hu3.tape, hu3.output, hu3.size, fun i hi h1 h2 => hu3.block i (Nat.lt_of_lt_of_le hi HU.out.size) h1 h2⟩)
      have HBX3 := Lib.hid (row_but2 hu3 HBX.out hga hgf)
      have HE3 : Hid (EB W3 ge 5 t (.slice no ns.length nc) (.slice ao a.length ac)) := row_but2 hu3 HE.out hea hef
      have HM3 := Lib.hid (HM.out.keeps (keeps_maps HAR.out.map HFR.out.map hu3))
      have HA3 := Lib.hid (HA.out.keeps (keeps_maps HAR.out.map HFR.out.map hu3))
      clear hown1 hgrow1 hu3 hown HPUT HFR HAR HBX HE HM HA HU c0 c1 c2 c3 b0 b1 HH hkey hmax
      have HEN := Lib.hid (enter_any ns S (.slice no ns.length nc) W3 ma n1 c HM3.out HAR3.out (fun s hs => by have := HNS.out s hs; omega) (by omega))
      obtain ⟨d0, d1, d2, d3⟩ := EB.cell _ _ _ _ _ _ HE3.out
      have b0 : W3.cell? ⟨gs, 0, none⟩ = some (.map (some ma)) := by rw [Lib.cell_of_heap HBX3.out]; rfl
      go_wp2_with fail
      refine HEN.out.mono ?_
      rintro e' w4 ⟨rfl, har4, hbu4⟩
      have hu4 : But2 W3.heap.size ma mf W3 w4 := But2.of hbu4
      have HAR4 := Lib.hid har4
      have HFR4 := Lib.hid (HFR3.out.heap (hbu4.block mf HFR3.out.lt (fun e => hmm e.symm)))
      have HBX4 := Lib.hid (row_but2 hu4 HBX3.out hga hgf)
      have HE4 : Hid (EB w4 ge 5 t (.slice no ns.length nc) (.slice ao a.length ac)) := row_but2 hu4 HE3.out hea hef
      have HM4 := Lib.hid (HM3.out.keeps (keeps_maps HAR3.out.map HFR3.out.map hu4))
      have HA4 := Lib.hid (HA3.out.keeps (keeps_maps HAR3.out.map HFR3.out.map hu4))
      have HU4 := Lib.hid (HU3.out.trans ⟨hu4.os, hu4.tape, hu4.output, hu4.size, fun i hi h1 h2 => hu4.block i (Nat.lt_of_lt_of_le hi HU3.out.size) h1 h2⟩)
      clear har4 hbu4 hu4 HEN d0 d1 d2 d3 b0
      obtain ⟨c', hc'⟩ : ∃ c' : ByteArray → Nat, c' = fun s => c s + cnt s ns := ⟨_, rfl⟩
      have HCC := Lib.hid hc'
      rw [← hc'] at HAR4
      clear hc'
      obtain ⟨d0, d1, d2, d3⟩ := EB.cell _ _ _ _ _ _ HE4.out
      go_wp2_with fail
      go_loopw [30] (fun iv wr => FnInv a ma mf (n1 + ns.length) c' F1 w4 iv wr) (fun iv _ => a.length - (intOf iv).toNat)
      case atStart => exact ⟨0, Nat.zero_le _, rfl, by simpa [Et.sizes] using HAR4.out, HFR4.out.mono (by omega) (fun s => by simp [Et.frs]), But2.refl _ _ _ _⟩
      case round =>
        clear d0 d1 d2 d3
        obtain ⟨j, hj, rfl, harj, hfrj, hbuj⟩ := hrel
        have HARJ := Lib.hid harj
        have HFRJ := Lib.hid hfrj
        have HBJ := Lib.hid hbuj
        have HBXJ := Lib.hid (row_but2 hbuj HBX4.out hga hgf)
        have HEJ : Hid (EB wr ge 5 t (.slice no ns.length nc) (.slice ao a.length ac)) := row_but2 hbuj HE4.out hea hef
        have HAJ := Lib.hid (HA4.out.keeps (keeps_maps HAR4.out.map HFR4.out.map hbuj))
        have HMJ := Lib.hid (HM4.out.keeps (keeps_maps HAR4.out.map HFR4.out.map hbuj))
        have hle := esizes_take_le a j
        clear harj hfrj hbuj
        by_cases hlt : j < a.length
        · have q1 : decide ((j : Int) < (a.length : Int)) = true := decide_eq_true (by omega)
          obtain ⟨g, o, k5, t5, nv5, av5, rfl, hS5, -, hat5, e0, e1, e2, e3, o5, o6⟩ := HAJ.out.get j hlt
          have z0 : (#[.int .i64 k5, .string t5, nv5, av5] : Array Value).all (·.oneCell') = true := by simp [Value.oneCell'] at o5 o6 ⊢; exact ⟨o5, o6⟩
          have hst := esizes_take a j hlt
          have hle2 := esizes_take_le a (j + 1)
          have HST := Lib.hid hst
          have A5 := Lib.hid ((Below.refl wr.heap.size wr).alloc (Nat.le_refl _) (.cells #[.int .i64 k5, .string t5, nv5, av5] 28))
          have HAR5 : Hid (ArAt (wr.alloc (.cells #[.int .i64 k5, .string t5, nv5, av5] 28)) ma (n1 + ns.length + 300 * Et.sizes (a.take j)) c') := HARJ.out.heap (A5.out.block ma HARJ.out.lt)
          have HFR5 : Hid (FrAt (wr.alloc (.cells #[.int .i64 k5, .string t5, nv5, av5] 28)) mf (n1 + ns.length + 300 * Et.sizes (a.take j)) (fun s => F1 s ∨ (Et.frs s (a.take j) ∧ c' s = 0))) := HFRJ.out.heap (A5.out.block mf HFRJ.out.lt)
          have HP5 : Hid (EB (wr.alloc (.cells #[.int .i64 k5, .string t5, nv5, av5] 28)) wr.heap.size k5 t5 nv5 av5) := alloc_at _ _
          have HBX5 := Lib.hid (row_below A5.out HBXJ.out)
          have HC := Lib.hid (IH.out _ (List.getElem_mem hlt) S _ (wr.alloc (.cells #[.int .i64 k5, .string t5, nv5, av5] 28)) ma mf (n1 + ns.length + 300 * Et.sizes (a.take j)) c' _ HAR5.out HFR5.out hmm (Et.At.keeps (Keeps.of_below A5.out) _ _ hat5) (by omega))
          have HNX : Hid (∀ w6, RetF a[j] ma mf (n1 + ns.length + 300 * Et.sizes (a.take j)) c' (fun s => F1 s ∨ (Et.frs s (a.take j) ∧ c' s = 0)) (wr.alloc (.cells #[.int .i64 k5, .string t5, nv5, av5] 28)) (.returned (.tuple #[])) w6 → FnInv a ma mf (n1 + ns.length) c' F1 w4 (.int .i64 ((j : Int) + 1)) w6) := by
            show ∀ w6, _ → _
            rintro w6 ⟨-, h1, h2, h3⟩
            have hw := A5.out.size
            refine ⟨j + 1, by omega, by go_num, h1.mono (by rw [HST.out]; omega) (fun _ => rfl), h2.mono (by rw [HST.out]; omega) (fun s => ?_), HBJ.out.trans ⟨h3.os.trans A5.out.os, h3.tape.trans A5.out.tape, h3.output.trans A5.out.output, Nat.le_trans hw h3.size, fun i hi h5 h6 => ?_⟩⟩
            · rw [take_snoc_et a j hlt, frs_snoc, or_and_right, or_assoc]
            · have hs4 := HBJ.out.size
              rw [h3.block i (by omega) h5 h6, A5.out.block i (by omega)]
          have hgp : wr.heap.size < (wr.alloc (.cells #[.int .i64 k5, .string t5, nv5, av5] 28)).heap.size := by simp
          clear hst hat5 hS5 hle2
          go_upto_region 7 with (refine wpList_store_row rfl 28 _ _ rfl wr.heap.size #[.int .i64 k5, .string t5, nv5, av5] rfl rfl 28 Z4 (alloc_at _ _) info28 rfl z0 ?_)
          try simp only [Act.put]
          have E0 : (wr.alloc (.cells #[.int .i64 0, .string ⟨#[]⟩, .slice none 0 0, .slice none 0 0] 28)).setRow wr.heap.size #[.int .i64 k5, .string t5, nv5, av5] = wr.alloc (.cells #[.int .i64 k5, .string t5, nv5, av5] 28) := setRow_new _ _ _ _
          try rw [E0]
          clear E0 e0 e1 e2 e3
          generalize wr.alloc (.cells #[.int .i64 k5, .string t5, nv5, av5] 28) = W5 at A5 HAR5 HFR5 HP5 HBX5 HC HNX hgp ⊢
          have b0 : W5.cell? ⟨gs, 0, none⟩ = some (.map (some ma)) := by rw [Lib.cell_of_heap HBX5.out]; rfl
          have b1 : W5.cell? ⟨gs, 1, none⟩ = some (.map (some mf)) := by rw [Lib.cell_of_heap HBX5.out]; rfl
          have A6 := Lib.hid A5.out
          clear A5
          generalize wr.heap.size = gp at HP5 hgp A6 ⊢
          go_wp2_with (refine wpList_load_row rfl 28 _ rfl gp rfl 28 #[.int .i64 k5, .string t5, nv5, av5] (0, 0) _ HP5.out Try.underlying28 rfl info28 ?_)
          refine HC.out.mono ?_
          rintro e' w6 hret
          have HN6 := Lib.hid (HNX.out w6 (by have h := hret; rw [hret.1] at h; exact h))
          obtain ⟨rfl, -⟩ := hret
          clear HC HNX
          go_wp2_with fail
          go_roundw
          case rel => exact HN6.out
          case measure => simp [intOf]; omega
        · have q1 : decide ((j : Int) < (a.length : Int)) = false := decide_eq_false (by omega)
          obtain rfl : j = a.length := by omega
          have hta : a.take a.length = a := List.take_length
          rw [hta] at hle
          have HARE : Hid (ArAt wr ma (n1 + ns.length + 300 * Et.sizes a) (fun s => c s + cnt s ns)) := by
            show ArAt wr ma (n1 + ns.length + 300 * Et.sizes a) (fun s => c s + cnt s ns)
            have h := HARJ.out; rw [hta, HCC.out] at h; exact h
          have HFRE : Hid (FrAt wr mf (n1 + ns.length + 300 * Et.sizes a) (fun s => F1 s ∨ (Et.frs s a ∧ c' s = 0))) := by
            show FrAt wr mf (n1 + ns.length + 300 * Et.sizes a) (fun s => F1 s ∨ (Et.frs s a ∧ c' s = 0))
            have h := HFRJ.out; rw [hta] at h; exact h
          have HLV := Lib.hid (leave_any ns S (.slice no ns.length nc) wr ma (n1 + ns.length + 300 * Et.sizes a) c HMJ.out HARE.out (fun s hs => by have := HNS.out s hs; omega) (by omega))
          have b0 : wr.cell? ⟨gs, 0, none⟩ = some (.map (some ma)) := by rw [Lib.cell_of_heap HBXJ.out]; rfl
          obtain ⟨d0, d1, d2, d3⟩ := EB.cell _ _ _ _ _ _ HEJ.out
          have HEND : Hid (∀ w9, RetAr ma (n1 + ns.length + 300 * Et.sizes a + ns.length) c wr (.returned (.tuple #[])) w9 → RetF (.mk 5 t ns a) ma mf n c F w (.returned (.tuple #[])) w9) := by
            show ∀ w9, _ → _
            rintro w9 ⟨-, h1, h2⟩
            have hs4 := HBJ.out.size
            have hs3 := HU4.out.size
            refine ⟨rfl, h1.mono (by simp only [Et.size]; omega) (fun _ => rfl), (HFRE.out.heap (h2.block mf HFRE.out.lt (fun e => hmm e.symm))).mono (by simp only [Et.size]; omega) (fun s => ?_), (HU4.out.trans ⟨HBJ.out.os, HBJ.out.tape, HBJ.out.output, HBJ.out.size, fun i hi h5 h6 => HBJ.out.block i (by omega) h5 h6⟩).trans ⟨h2.os, h2.tape, h2.output, h2.size, fun i hi h5 h6 => h2.block i (by omega) h5⟩⟩
            rw [HF1.out s, HCC.out]
            unfold Et.fr
            have h9 : c s + cnt s ns = 0 ↔ c s = 0 ∧ s ∉ ns := by rw [← cnt_zero]; omega
            rw [h9]
            constructor
            · rintro ((h | ⟨h5, h6⟩) | ⟨h5, h6, h7⟩)
              · exact .inl h
              · exact .inr ⟨.inl ⟨by first | exact h5.1 | rfl, h5.2⟩, h6⟩
              · exact .inr ⟨.inr ⟨h5, h7⟩, h6⟩
            · rintro (h | ⟨h5 | ⟨h5, h7⟩, h6⟩)
              · exact .inl (.inl h)
              · exact .inl (.inr ⟨⟨by first | exact h5.1 | trivial, h5.2⟩, h6⟩)
              · exact .inr ⟨h5, h6, h7⟩
          clear hta hle HAJ HMJ HARJ HFRJ
          go_wp2_with fail
          refine HLV.out.mono ?_
          rintro e' w9 hret
          have HFIN := Lib.hid (HEND.out w9 (by have h := hret; rw [hret.1] at h; exact h))
          obtain ⟨rfl, -⟩ := hret
          go_wp2_with fail
          go_end0
          exact HFIN.out
    · have q0 : decide (0 < c t) = true := decide_eq_true (by omega)
      rw [q0] at HH
      obtain ⟨F1, hF1⟩ : ∃ F1 : ByteArray → Prop, F1 = F := ⟨_, rfl⟩
      obtain ⟨n1, hn1⟩ : ∃ n1, n1 = n := ⟨_, rfl⟩
      have HF1 : Hid (∀ s, F1 s ↔ (F s ∨ (((5 : Int) = 5 ∧ t = s) ∧ c s = 0))) := by
        show ∀ s, _
        intro s
        rw [hF1]
        constructor
        · exact .inl
        · rintro (h | ⟨⟨_, rfl⟩, h⟩)
          · exact h
          · exact absurd h hct
      have hn1' : n1 + 300 * Et.sizes a + 250 ≤ 100000000 := by omega
      have hnn : n1 ≤ n + 1 := by omega
      rw [← hF1] at HFR
      rw [← hn1] at HFR HAR
      clear hF1 hct hn1
      go_wp2_with fail
      refine HH.out.mono ?_
      rintro e' w2 ⟨rfl, rfl⟩
      go_upto_region 3 with fail
      obtain ⟨W3, hW3⟩ : ∃ W3, W3 = W1 := ⟨_, rfl⟩
      rw [← hW3] at HFR HAR HBX HE HM HA HU ⊢
      have HFR3 := HFR
      have HAR3 := HAR
      have HU3 := HU
      have HBX3 := HBX
      have HE3 := HE
      have HM3 := HM
      have HA3 := HA
      clear hW3 HFR HAR HBX HE HM HA HU c0 c1 c2 c3 b0 b1 HH
      have HEN := Lib.hid (enter_any ns S (.slice no ns.length nc) W3 ma n1 c HM3.out HAR3.out (fun s hs => by have := HNS.out s hs; omega) (by omega))
      obtain ⟨d0, d1, d2, d3⟩ := EB.cell _ _ _ _ _ _ HE3.out
      have b0 : W3.cell? ⟨gs, 0, none⟩ = some (.map (some ma)) := by rw [Lib.cell_of_heap HBX3.out]; rfl
      go_wp2_with fail
      refine HEN.out.mono ?_
      rintro e' w4 ⟨rfl, har4, hbu4⟩
      have hu4 : But2 W3.heap.size ma mf W3 w4 := But2.of hbu4
      have HAR4 := Lib.hid har4
      have HFR4 := Lib.hid (HFR3.out.heap (hbu4.block mf HFR3.out.lt (fun e => hmm e.symm)))
      have HBX4 := Lib.hid (row_but2 hu4 HBX3.out hga hgf)
      have HE4 : Hid (EB w4 ge 5 t (.slice no ns.length nc) (.slice ao a.length ac)) := row_but2 hu4 HE3.out hea hef
      have HM4 := Lib.hid (HM3.out.keeps (keeps_maps HAR3.out.map HFR3.out.map hu4))
      have HA4 := Lib.hid (HA3.out.keeps (keeps_maps HAR3.out.map HFR3.out.map hu4))
      have HU4 := Lib.hid (HU3.out.trans ⟨hu4.os, hu4.tape, hu4.output, hu4.size, fun i hi h1 h2 => hu4.block i (Nat.lt_of_lt_of_le hi HU3.out.size) h1 h2⟩)
      clear har4 hbu4 hu4 HEN d0 d1 d2 d3 b0
      obtain ⟨c', hc'⟩ : ∃ c' : ByteArray → Nat, c' = fun s => c s + cnt s ns := ⟨_, rfl⟩
      have HCC := Lib.hid hc'
      rw [← hc'] at HAR4
      clear hc'
      obtain ⟨d0, d1, d2, d3⟩ := EB.cell _ _ _ _ _ _ HE4.out
      go_wp2_with fail
      go_loopw [30] (fun iv wr => FnInv a ma mf (n1 + ns.length) c' F1 w4 iv wr) (fun iv _ => a.length - (intOf iv).toNat)
      case atStart => exact ⟨0, Nat.zero_le _, rfl, by simpa [Et.sizes] using HAR4.out, HFR4.out.mono (by omega) (fun s => by simp [Et.frs]), But2.refl _ _ _ _⟩
      case round =>
        clear d0 d1 d2 d3
        obtain ⟨j, hj, rfl, harj, hfrj, hbuj⟩ := hrel
        have HARJ := Lib.hid harj
        have HFRJ := Lib.hid hfrj
        have HBJ := Lib.hid hbuj
        have HBXJ := Lib.hid (row_but2 hbuj HBX4.out hga hgf)
        have HEJ : Hid (EB wr ge 5 t (.slice no ns.length nc) (.slice ao a.length ac)) := row_but2 hbuj HE4.out hea hef
        have HAJ := Lib.hid (HA4.out.keeps (keeps_maps HAR4.out.map HFR4.out.map hbuj))
        have HMJ := Lib.hid (HM4.out.keeps (keeps_maps HAR4.out.map HFR4.out.map hbuj))
        have hle := esizes_take_le a j
        clear harj hfrj hbuj
        by_cases hlt : j < a.length
        · have q1 : decide ((j : Int) < (a.length : Int)) = true := decide_eq_true (by omega)
          obtain ⟨g, o, k5, t5, nv5, av5, rfl, hS5, -, hat5, e0, e1, e2, e3, o5, o6⟩ := HAJ.out.get j hlt
          have z0 : (#[.int .i64 k5, .string t5, nv5, av5] : Array Value).all (·.oneCell') = true := by simp [Value.oneCell'] at o5 o6 ⊢; exact ⟨o5, o6⟩
          have hst := esizes_take a j hlt
          have hle2 := esizes_take_le a (j + 1)
          have HST := Lib.hid hst
          have A5 := Lib.hid ((Below.refl wr.heap.size wr).alloc (Nat.le_refl _) (.cells #[.int .i64 k5, .string t5, nv5, av5] 28))
          have HAR5 : Hid (ArAt (wr.alloc (.cells #[.int .i64 k5, .string t5, nv5, av5] 28)) ma (n1 + ns.length + 300 * Et.sizes (a.take j)) c') := HARJ.out.heap (A5.out.block ma HARJ.out.lt)
          have HFR5 : Hid (FrAt (wr.alloc (.cells #[.int .i64 k5, .string t5, nv5, av5] 28)) mf (n1 + ns.length + 300 * Et.sizes (a.take j)) (fun s => F1 s ∨ (Et.frs s (a.take j) ∧ c' s = 0))) := HFRJ.out.heap (A5.out.block mf HFRJ.out.lt)
          have HP5 : Hid (EB (wr.alloc (.cells #[.int .i64 k5, .string t5, nv5, av5] 28)) wr.heap.size k5 t5 nv5 av5) := alloc_at _ _
          have HBX5 := Lib.hid (row_below A5.out HBXJ.out)
          have HC := Lib.hid (IH.out _ (List.getElem_mem hlt) S _ (wr.alloc (.cells #[.int .i64 k5, .string t5, nv5, av5] 28)) ma mf (n1 + ns.length + 300 * Et.sizes (a.take j)) c' _ HAR5.out HFR5.out hmm (Et.At.keeps (Keeps.of_below A5.out) _ _ hat5) (by omega))
          have HNX : Hid (∀ w6, RetF a[j] ma mf (n1 + ns.length + 300 * Et.sizes (a.take j)) c' (fun s => F1 s ∨ (Et.frs s (a.take j) ∧ c' s = 0)) (wr.alloc (.cells #[.int .i64 k5, .string t5, nv5, av5] 28)) (.returned (.tuple #[])) w6 → FnInv a ma mf (n1 + ns.length) c' F1 w4 (.int .i64 ((j : Int) + 1)) w6) := by
            show ∀ w6, _ → _
            rintro w6 ⟨-, h1, h2, h3⟩
            have hw := A5.out.size
            refine ⟨j + 1, by omega, by go_num, h1.mono (by rw [HST.out]; omega) (fun _ => rfl), h2.mono (by rw [HST.out]; omega) (fun s => ?_), HBJ.out.trans ⟨h3.os.trans A5.out.os, h3.tape.trans A5.out.tape, h3.output.trans A5.out.output, Nat.le_trans hw h3.size, fun i hi h5 h6 => ?_⟩⟩
            · rw [take_snoc_et a j hlt, frs_snoc, or_and_right, or_assoc]
            · have hs4 := HBJ.out.size
              rw [h3.block i (by omega) h5 h6, A5.out.block i (by omega)]
          have hgp : wr.heap.size < (wr.alloc (.cells #[.int .i64 k5, .string t5, nv5, av5] 28)).heap.size := by simp
          clear hst hat5 hS5 hle2
          go_upto_region 7 with (refine wpList_store_row rfl 28 _ _ rfl wr.heap.size #[.int .i64 k5, .string t5, nv5, av5] rfl rfl 28 Z4 (alloc_at _ _) info28 rfl z0 ?_)
          try simp only [Act.put]
          have E0 : (wr.alloc (.cells #[.int .i64 0, .string ⟨#[]⟩, .slice none 0 0, .slice none 0 0] 28)).setRow wr.heap.size #[.int .i64 k5, .string t5, nv5, av5] = wr.alloc (.cells #[.int .i64 k5, .string t5, nv5, av5] 28) := setRow_new _ _ _ _
          try rw [E0]
          clear E0 e0 e1 e2 e3
          generalize wr.alloc (.cells #[.int .i64 k5, .string t5, nv5, av5] 28) = W5 at A5 HAR5 HFR5 HP5 HBX5 HC HNX hgp ⊢
          have b0 : W5.cell? ⟨gs, 0, none⟩ = some (.map (some ma)) := by rw [Lib.cell_of_heap HBX5.out]; rfl
          have b1 : W5.cell? ⟨gs, 1, none⟩ = some (.map (some mf)) := by rw [Lib.cell_of_heap HBX5.out]; rfl
          have A6 := Lib.hid A5.out
          clear A5
          generalize wr.heap.size = gp at HP5 hgp A6 ⊢
          go_wp2_with (refine wpList_load_row rfl 28 _ rfl gp rfl 28 #[.int .i64 k5, .string t5, nv5, av5] (0, 0) _ HP5.out Try.underlying28 rfl info28 ?_)
          refine HC.out.mono ?_
          rintro e' w6 hret
          have HN6 := Lib.hid (HNX.out w6 (by have h := hret; rw [hret.1] at h; exact h))
          obtain ⟨rfl, -⟩ := hret
          clear HC HNX
          go_wp2_with fail
          go_roundw
          case rel => exact HN6.out
          case measure => simp [intOf]; omega
        · have q1 : decide ((j : Int) < (a.length : Int)) = false := decide_eq_false (by omega)
          obtain rfl : j = a.length := by omega
          have hta : a.take a.length = a := List.take_length
          rw [hta] at hle
          have HARE : Hid (ArAt wr ma (n1 + ns.length + 300 * Et.sizes a) (fun s => c s + cnt s ns)) := by
            show ArAt wr ma (n1 + ns.length + 300 * Et.sizes a) (fun s => c s + cnt s ns)
            have h := HARJ.out; rw [hta, HCC.out] at h; exact h
          have HFRE : Hid (FrAt wr mf (n1 + ns.length + 300 * Et.sizes a) (fun s => F1 s ∨ (Et.frs s a ∧ c' s = 0))) := by
            show FrAt wr mf (n1 + ns.length + 300 * Et.sizes a) (fun s => F1 s ∨ (Et.frs s a ∧ c' s = 0))
            have h := HFRJ.out; rw [hta] at h; exact h
          have HLV := Lib.hid (leave_any ns S (.slice no ns.length nc) wr ma (n1 + ns.length + 300 * Et.sizes a) c HMJ.out HARE.out (fun s hs => by have := HNS.out s hs; omega) (by omega))
          have b0 : wr.cell? ⟨gs, 0, none⟩ = some (.map (some ma)) := by rw [Lib.cell_of_heap HBXJ.out]; rfl
          obtain ⟨d0, d1, d2, d3⟩ := EB.cell _ _ _ _ _ _ HEJ.out
          have HEND : Hid (∀ w9, RetAr ma (n1 + ns.length + 300 * Et.sizes a + ns.length) c wr (.returned (.tuple #[])) w9 → RetF (.mk 5 t ns a) ma mf n c F w (.returned (.tuple #[])) w9) := by
            show ∀ w9, _ → _
            rintro w9 ⟨-, h1, h2⟩
            have hs4 := HBJ.out.size
            have hs3 := HU4.out.size
            refine ⟨rfl, h1.mono (by simp only [Et.size]; omega) (fun _ => rfl), (HFRE.out.heap (h2.block mf HFRE.out.lt (fun e => hmm e.symm))).mono (by simp only [Et.size]; omega) (fun s => ?_), (HU4.out.trans ⟨HBJ.out.os, HBJ.out.tape, HBJ.out.output, HBJ.out.size, fun i hi h5 h6 => HBJ.out.block i (by omega) h5 h6⟩).trans ⟨h2.os, h2.tape, h2.output, h2.size, fun i hi h5 h6 => h2.block i (by omega) h5⟩⟩
            rw [HF1.out s, HCC.out]
            unfold Et.fr
            have h9 : c s + cnt s ns = 0 ↔ c s = 0 ∧ s ∉ ns := by rw [← cnt_zero]; omega
            rw [h9]
            constructor
            · rintro ((h | ⟨h5, h6⟩) | ⟨h5, h6, h7⟩)
              · exact .inl h
              · exact .inr ⟨.inl ⟨by first | exact h5.1 | rfl, h5.2⟩, h6⟩
              · exact .inr ⟨.inr ⟨h5, h7⟩, h6⟩
            · rintro (h | ⟨h5 | ⟨h5, h7⟩, h6⟩)
              · exact .inl (.inl h)
              · exact .inl (.inr ⟨⟨by first | exact h5.1 | trivial, h5.2⟩, h6⟩)
              · exact .inr ⟨h5, h6, h7⟩
          clear hta hle HAJ HMJ HARJ HFRJ
          go_wp2_with fail
          refine HLV.out.mono ?_
          rintro e' w9 hret
          have HFIN := Lib.hid (HEND.out w9 (by have h := hret; rw [hret.1] at h; exact h))
          obtain ⟨rfl, -⟩ := hret
          go_wp2_with fail
          go_end0
          exact HFIN.out
  · have q0 : ((k : Int) == 5) = false := by simpa using hk5
    obtain ⟨F1, hF1⟩ : ∃ F1 : ByteArray → Prop, F1 = F := ⟨_, rfl⟩
    obtain ⟨n1, hn1⟩ : ∃ n1, n1 = n := ⟨_, rfl⟩
    have HF1 : Hid (∀ s, F1 s ↔ (F s ∨ (((k : Int) = 5 ∧ t = s) ∧ c s = 0))) := by
      show ∀ s, _
      intro s
      rw [hF1]
      simp [hk5]
    have hn1' : n1 + 300 * Et.sizes a + 250 ≤ 100000000 := by omega
    have hnn : n1 ≤ n + 1 := by omega
    rw [← hF1] at HFR
    rw [← hn1] at HFR HAR
    clear hF1 hn1
    go_upto_region 3 with fail
    obtain ⟨W3, hW3⟩ : ∃ W3, W3 = W1 := ⟨_, rfl⟩
    rw [← hW3] at HFR HAR HBX HE HM HA HU ⊢
    have HFR3 := HFR
    have HAR3 := HAR
    have HU3 := HU
    have HBX3 := HBX
    have HE3 := HE
    have HM3 := HM
    have HA3 := HA
    clear hW3 HFR HAR HBX HE HM HA HU c0 c1 c2 c3 b0 b1
    have HEN := Lib.hid (enter_any ns S (.slice no ns.length nc) W3 ma n1 c HM3.out HAR3.out (fun s hs => by have := HNS.out s hs; omega) (by omega))
    obtain ⟨d0, d1, d2, d3⟩ := EB.cell _ _ _ _ _ _ HE3.out
    have b0 : W3.cell? ⟨gs, 0, none⟩ = some (.map (some ma)) := by rw [Lib.cell_of_heap HBX3.out]; rfl
    go_wp2_with fail
    refine HEN.out.mono ?_
    rintro e' w4 ⟨rfl, har4, hbu4⟩
    have hu4 : But2 W3.heap.size ma mf W3 w4 := But2.of hbu4
    have HAR4 := Lib.hid har4
    have HFR4 := Lib.hid (HFR3.out.heap (hbu4.block mf HFR3.out.lt (fun e => hmm e.symm)))
    have HBX4 := Lib.hid (row_but2 hu4 HBX3.out hga hgf)
    have HE4 : Hid (EB w4 ge k t (.slice no ns.length nc) (.slice ao a.length ac)) := row_but2 hu4 HE3.out hea hef
    have HM4 := Lib.hid (HM3.out.keeps (keeps_maps HAR3.out.map HFR3.out.map hu4))
    have HA4 := Lib.hid (HA3.out.keeps (keeps_maps HAR3.out.map HFR3.out.map hu4))
    have HU4 := Lib.hid (HU3.out.trans ⟨hu4.os, hu4.tape, hu4.output, hu4.size, fun i hi h1 h2 => hu4.block i (Nat.lt_of_lt_of_le hi HU3.out.size) h1 h2⟩)
    clear har4 hbu4 hu4 HEN d0 d1 d2 d3 b0
    obtain ⟨c', hc'⟩ : ∃ c' : ByteArray → Nat, c' = fun s => c s + cnt s ns := ⟨_, rfl⟩
    have HCC := Lib.hid hc'
    rw [← hc'] at HAR4
    clear hc'
    obtain ⟨d0, d1, d2, d3⟩ := EB.cell _ _ _ _ _ _ HE4.out
    go_wp2_with fail
    go_loopw [30] (fun iv wr => FnInv a ma mf (n1 + ns.length) c' F1 w4 iv wr) (fun iv _ => a.length - (intOf iv).toNat)
    case atStart => exact ⟨0, Nat.zero_le _, rfl, by simpa [Et.sizes] using HAR4.out, HFR4.out.mono (by omega) (fun s => by simp [Et.frs]), But2.refl _ _ _ _⟩
    case round =>
      clear d0 d1 d2 d3
      obtain ⟨j, hj, rfl, harj, hfrj, hbuj⟩ := hrel
      have HARJ := Lib.hid harj
      have HFRJ := Lib.hid hfrj
      have HBJ := Lib.hid hbuj
      have HBXJ := Lib.hid (row_but2 hbuj HBX4.out hga hgf)
      have HEJ : Hid (EB wr ge k t (.slice no ns.length nc) (.slice ao a.length ac)) := row_but2 hbuj HE4.out hea hef
      have HAJ := Lib.hid (HA4.out.keeps (keeps_maps HAR4.out.map HFR4.out.map hbuj))
      have HMJ := Lib.hid (HM4.out.keeps (keeps_maps HAR4.out.map HFR4.out.map hbuj))
      have hle := esizes_take_le a j
      clear harj hfrj hbuj
      by_cases hlt : j < a.length
      · have q1 : decide ((j : Int) < (a.length : Int)) = true := decide_eq_true (by omega)
        obtain ⟨g, o, k5, t5, nv5, av5, rfl, hS5, -, hat5, e0, e1, e2, e3, o5, o6⟩ := HAJ.out.get j hlt
        have z0 : (#[.int .i64 k5, .string t5, nv5, av5] : Array Value).all (·.oneCell') = true := by simp [Value.oneCell'] at o5 o6 ⊢; exact ⟨o5, o6⟩
        have hst := esizes_take a j hlt
        have hle2 := esizes_take_le a (j + 1)
        have HST := Lib.hid hst
        have A5 := Lib.hid ((Below.refl wr.heap.size wr).alloc (Nat.le_refl _) (.cells #[.int .i64 k5, .string t5, nv5, av5] 28))
        have HAR5 : Hid (ArAt (wr.alloc (.cells #[.int .i64 k5, .string t5, nv5, av5] 28)) ma (n1 + ns.length + 300 * Et.sizes (a.take j)) c') := HARJ.out.heap (A5.out.block ma HARJ.out.lt)
        have HFR5 : Hid (FrAt (wr.alloc (.cells #[.int .i64 k5, .string t5, nv5, av5] 28)) mf (n1 + ns.length + 300 * Et.sizes (a.take j)) (fun s => F1 s ∨ (Et.frs s (a.take j) ∧ c' s = 0))) := HFRJ.out.heap (A5.out.block mf HFRJ.out.lt)
        have HP5 : Hid (EB (wr.alloc (.cells #[.int .i64 k5, .string t5, nv5, av5] 28)) wr.heap.size k5 t5 nv5 av5) := alloc_at _ _
        have HBX5 := Lib.hid (row_below A5.out HBXJ.out)
        have HC := Lib.hid (IH.out _ (List.getElem_mem hlt) S _ (wr.alloc (.cells #[.int .i64 k5, .string t5, nv5, av5] 28)) ma mf (n1 + ns.length + 300 * Et.sizes (a.take j)) c' _ HAR5.out HFR5.out hmm (Et.At.keeps (Keeps.of_below A5.out) _ _ hat5) (by omega))
        have HNX : Hid (∀ w6, RetF a[j] ma mf (n1 + ns.length + 300 * Et.sizes (a.take j)) c' (fun s => F1 s ∨ (Et.frs s (a.take j) ∧ c' s = 0)) (wr.alloc (.cells #[.int .i64 k5, .string t5, nv5, av5] 28)) (.returned (.tuple #[])) w6 → FnInv a ma mf (n1 + ns.length) c' F1 w4 (.int .i64 ((j : Int) + 1)) w6) := by
          show ∀ w6, _ → _
          rintro w6 ⟨-, h1, h2, h3⟩
          have hw := A5.out.size
          refine ⟨j + 1, by omega, by go_num, h1.mono (by rw [HST.out]; omega) (fun _ => rfl), h2.mono (by rw [HST.out]; omega) (fun s => ?_), HBJ.out.trans ⟨h3.os.trans A5.out.os, h3.tape.trans A5.out.tape, h3.output.trans A5.out.output, Nat.le_trans hw h3.size, fun i hi h5 h6 => ?_⟩⟩
          · rw [take_snoc_et a j hlt, frs_snoc, or_and_right, or_assoc]
          · have hs4 := HBJ.out.size
            rw [h3.block i (by omega) h5 h6, A5.out.block i (by omega)]
        have hgp : wr.heap.size < (wr.alloc (.cells #[.int .i64 k5, .string t5, nv5, av5] 28)).heap.size := by simp
        clear hst hat5 hS5 hle2
        go_upto_region 7 with (refine wpList_store_row rfl 28 _ _ rfl wr.heap.size #[.int .i64 k5, .string t5, nv5, av5] rfl rfl 28 Z4 (alloc_at _ _) info28 rfl z0 ?_)
        try simp only [Act.put]
        have E0 : (wr.alloc (.cells #[.int .i64 0, .string ⟨#[]⟩, .slice none 0 0, .slice none 0 0] 28)).setRow wr.heap.size #[.int .i64 k5, .string t5, nv5, av5] = wr.alloc (.cells #[.int .i64 k5, .string t5, nv5, av5] 28) := setRow_new _ _ _ _
        try rw [E0]
        clear E0 e0 e1 e2 e3
        generalize wr.alloc (.cells #[.int .i64 k5, .string t5, nv5, av5] 28) = W5 at A5 HAR5 HFR5 HP5 HBX5 HC HNX hgp ⊢
        have b0 : W5.cell? ⟨gs, 0, none⟩ = some (.map (some ma)) := by rw [Lib.cell_of_heap HBX5.out]; rfl
        have b1 : W5.cell? ⟨gs, 1, none⟩ = some (.map (some mf)) := by rw [Lib.cell_of_heap HBX5.out]; rfl
        have A6 := Lib.hid A5.out
        clear A5
        generalize wr.heap.size = gp at HP5 hgp A6 ⊢
        go_wp2_with (refine wpList_load_row rfl 28 _ rfl gp rfl 28 #[.int .i64 k5, .string t5, nv5, av5] (0, 0) _ HP5.out Try.underlying28 rfl info28 ?_)
        refine HC.out.mono ?_
        rintro e' w6 hret
        have HN6 := Lib.hid (HNX.out w6 (by have h := hret; rw [hret.1] at h; exact h))
        obtain ⟨rfl, -⟩ := hret
        clear HC HNX
        go_wp2_with fail
        go_roundw
        case rel => exact HN6.out
        case measure => simp [intOf]; omega
      · have q1 : decide ((j : Int) < (a.length : Int)) = false := decide_eq_false (by omega)
        obtain rfl : j = a.length := by omega
        have hta : a.take a.length = a := List.take_length
        rw [hta] at hle
        have HARE : Hid (ArAt wr ma (n1 + ns.length + 300 * Et.sizes a) (fun s => c s + cnt s ns)) := by
          show ArAt wr ma (n1 + ns.length + 300 * Et.sizes a) (fun s => c s + cnt s ns)
          have h := HARJ.out; rw [hta, HCC.out] at h; exact h
        have HFRE : Hid (FrAt wr mf (n1 + ns.length + 300 * Et.sizes a) (fun s => F1 s ∨ (Et.frs s a ∧ c' s = 0))) := by
          show FrAt wr mf (n1 + ns.length + 300 * Et.sizes a) (fun s => F1 s ∨ (Et.frs s a ∧ c' s = 0))
          have h := HFRJ.out; rw [hta] at h; exact h
        have HLV := Lib.hid (leave_any ns S (.slice no ns.length nc) wr ma (n1 + ns.length + 300 * Et.sizes a) c HMJ.out HARE.out (fun s hs => by have := HNS.out s hs; omega) (by omega))
        have b0 : wr.cell? ⟨gs, 0, none⟩ = some (.map (some ma)) := by rw [Lib.cell_of_heap HBXJ.out]; rfl
        obtain ⟨d0, d1, d2, d3⟩ := EB.cell _ _ _ _ _ _ HEJ.out
        have HEND : Hid (∀ w9, RetAr ma (n1 + ns.length + 300 * Et.sizes a + ns.length) c wr (.returned (.tuple #[])) w9 → RetF (.mk k t ns a) ma mf n c F w (.returned (.tuple #[])) w9) := by
          show ∀ w9, _ → _
          rintro w9 ⟨-, h1, h2⟩
          have hs4 := HBJ.out.size
          have hs3 := HU4.out.size
          refine ⟨rfl, h1.mono (by simp only [Et.size]; omega) (fun _ => rfl), (HFRE.out.heap (h2.block mf HFRE.out.lt (fun e => hmm e.symm))).mono (by simp only [Et.size]; omega) (fun s => ?_), (HU4.out.trans ⟨HBJ.out.os, HBJ.out.tape, HBJ.out.output, HBJ.out.size, fun i hi h5 h6 => HBJ.out.block i (by omega) h5 h6⟩).trans ⟨h2.os, h2.tape, h2.output, h2.size, fun i hi h5 h6 => h2.block i (by omega) h5⟩⟩
          rw [HF1.out s, HCC.out]
          unfold Et.fr
          have h9 : c s + cnt s ns = 0 ↔ c s = 0 ∧ s ∉ ns := by rw [← cnt_zero]; omega
          rw [h9]
          constructor
          · rintro ((h | ⟨h5, h6⟩) | ⟨h5, h6, h7⟩)
            · exact .inl h
            · exact .inr ⟨.inl ⟨by first | exact h5.1 | rfl, h5.2⟩, h6⟩
            · exact .inr ⟨.inr ⟨h5, h7⟩, h6⟩
          · rintro (h | ⟨h5 | ⟨h5, h7⟩, h6⟩)
            · exact .inl (.inl h)
            · exact .inl (.inr ⟨⟨by first | exact h5.1 | trivial, h5.2⟩, h6⟩)
            · exact .inr ⟨h5, h6, h7⟩
        clear hta hle HAJ HMJ HARJ HFRJ
        go_wp2_with fail
        refine HLV.out.mono ?_
        rintro e' w9 hret
        have HFIN := Lib.hid (HEND.out w9 (by have h := hret; rw [hret.1] at h; exact h))
        obtain ⟨rfl, -⟩ := hret
        go_wp2_with fail
        go_end0
        exact HFIN.out
theorem finder_tree (N : Nat) : ∀ (e : Et), e.size ≤ N → N ≤ 100000 → e.fine → FC e := by
  induction N with
  | zero => intro e he; cases e; simp [Et.size] at he
  | succ N IH =>
    intro e he hN hf
    obtain ⟨k, t, ns, a⟩ := e
    have hsz : Et.sizes a ≤ N := by simp only [Et.size] at he; omega
    have hl := length_esizes a
    rw [fine_mk] at hf
    obtain ⟨hf1, hf2, hf3, hf4⟩ := hf
    refine finder_any k t ns a ?_ (by omega) hf2 hf3 hf1
    intro e hm
    obtain ⟨j, hj, rfl⟩ := List.getElem_of_mem hm
    exact IH _ (by have := esize_get a j hj; omega) (by omega) (hf4 _ hm)
end Go.Proofs.Ytcalbcllmmoldaa
