/- The document's reader: next: a row of signs; what is nothing; all of it. -/
import Derived.Test.YtahdiknkcgnieaaDoorQ13
import Derived.Test.YtahdiknkcgnieaaDoorQ14
import Derived.Test.YtahdiknkcgnieaaDoorQ15A
import Derived.Test.YtahdiknkcgnieaaDoorQ15B
import Derived.Test.YtahdiknkcgnieaaDoorQ15C1
import Derived.Test.YtahdiknkcgnieaaDoorQ15C2
import Derived.Test.YtahdiknkcgnieaaDoorQ15C3
import Derived.Test.YtahdiknkcgnieaaDoorQ15D1
import Derived.Test.YtahdiknkcgnieaaDoorQ15D2
import Derived.Test.YtahdiknkcgnieaaDoorQ15D3
namespace Go.Proofs.YtahdiknkcgnieaaDoor
open Go.RowKit Go.BigM
set_option linter.unusedVariables false
set_option linter.unusedSimpArgs false
set_option maxHeartbeats 16000000 in
set_option maxRecDepth 100000 in
theorem next_sign {D : Nat → Prop} (g : Nat) (s : ByteArray) (p : Nat) (es : List En) (out : List Dt) (b : UInt8) (w : World) (h : RdAt D w.heap.size w g s p es out) (hgN : g < w.heap.size) (hp : p < s.size) (hb : s[p] = b) (hs : s.size ≤ 8000) (hB : Bnd es out p) (hne : b ≠ 40 ∧ b ≠ 39 ∧ b ≠ 41 ∧ b ≠ 35) (hsg : sset.contains b = true) :
    Calls Tryd.prog 36 #[.pointer (some ⟨g, 0, none⟩)] w (RetNx g s p b es out w) := by
  obtain ⟨ao, c, bo, dd, hf⟩ := h.form
  obtain ⟨dv, hdv⟩ : ∃ v, v = Value.slice bo out.length dd := ⟨_, rfl⟩
  rw [← hdv] at hf
  have HS := Lib.hid (Stt.start h)
  have HR := Lib.hid hf
  have HB := Lib.hid hB
  have HBB := Lib.hid hb
  have hel : es.length ≤ 60 := hB.2.2
  clear h hB hdv hf hb
  have HNE : Hid (b ≠ 40 ∧ b ≠ 39 ∧ b ≠ 41 ∧ b ≠ 35) := hne
  have n1 : b.toNat ≠ 40 := fun e => hne.1 (u8_is b 40 e)
  have n2 : b.toNat ≠ 39 := fun e => hne.2.1 (u8_is b 39 e)
  have n3 : b.toNat ≠ 41 := fun e => hne.2.2.1 (u8_is b 41 e)
  have n4 : b.toNat ≠ 35 := fun e => hne.2.2.2 (u8_is b 35 e)
  have E40 : ((b.toNat : Int) == 40) = false := by simpa using (show ¬ (b.toNat : Int) = 40 by omega)
  have E39 : ((b.toNat : Int) == 39) = false := by simpa using (show ¬ (b.toNat : Int) = 39 by omega)
  have E41 : ((b.toNat : Int) == 41) = false := by simpa using (show ¬ (b.toNat : Int) = 41 by omega)
  have E35 : ((b.toNat : Int) == 35) = false := by simpa using (show ¬ (b.toNat : Int) = 35 by omega)
  clear hne n1 n2 n3 n4
  go_enter Tryd.func36, Tryd.ntmps36
  go_upto_region 1 with fail
  have HC : Hid (∀ w', Below w.heap.size w w' → w'.cell? ⟨g, 0, none⟩ = some (.string s) ∧ w'.cell? ⟨g, 1, none⟩ = some (.int .i64 (p : Int)) ∧ w'.cell? ⟨g, 2, none⟩ = some (.slice ao es.length c) ∧ w'.cell? ⟨g, 3, none⟩ = some dv) := fun w' hw' => by
    have h9 : w'.heap[g]? = some (.cells #[.string s, .int .i64 (p : Int), .slice ao es.length c, dv] 71 (0, 0)) := by rw [hw'.block g HR.out.lt]; exact HR.out
    exact Rs3.cells (p := p) h9
  have HS0 : Hid (Below w.heap.size w w.drew) := (Below.refl _ _).drew
  replace HS : Hid (Stt D g s p es out w w.drew) := HS.out.drew HR.out.lt
  replace HR : Hid (Rs3 w.drew g s p (.slice ao es.length c) dv) := HR.out
  refine wp_region_noPanic ?_
  refine wp_region_held_drew (S := Below w.heap.size w) (by kernel_rfl) HS0.out (fun hHeld => ?_)
  generalize w.drew = X1 at HS0 HS HR hHeld ⊢
  refine wpAnyH_take (i := 0) (v := ?v740) rfl (by kernel_rfl) (by kernel_rfl) (by kernel_rfl) (fun _ _ _ h => h) (Or.inl ⟨rfl, fun w' hw' => ?h740⟩) hHeld ?r740
  case h740 =>
    go_simp
    try with_reducible rfl
  simp only [List.getElem_toArray, List.getElem_cons_succ, List.getElem_cons_zero, Act.put, List.setIfInBounds_toArray, List.set_cons_zero, List.set_cons_succ]
  refine wpAnyH_take (i := 1) (v := ?v741) rfl (by kernel_rfl) (by kernel_rfl) (by kernel_rfl) (fun _ _ _ h => h) (Or.inl ⟨rfl, fun w' hw' => ?h741⟩) hHeld ?r741
  case h741 =>
    go_simp
    try with_reducible rfl
  simp only [List.getElem_toArray, List.getElem_cons_succ, List.getElem_cons_zero, Act.put, List.setIfInBounds_toArray, List.set_cons_zero, List.set_cons_succ]
  refine wpAnyH_take (i := 2) (v := ?v742) rfl (by kernel_rfl) (by kernel_rfl) (by kernel_rfl) (fun _ _ _ h => h) (Or.inl ⟨rfl, fun w' hw' => ?h742⟩) hHeld ?r742
  case h742 =>
    go_simp
    try with_reducible rfl
  simp only [List.getElem_toArray, List.getElem_cons_succ, List.getElem_cons_zero, Act.put, List.setIfInBounds_toArray, List.set_cons_zero, List.set_cons_succ]
  refine wpAnyH_take (i := 3) (v := ?v743) rfl (by kernel_rfl) (by kernel_rfl) (by kernel_rfl) (fun _ _ _ h => h) (Or.inl ⟨rfl, fun w' hw' => ?h743⟩) hHeld ?r743
  case h743 =>
    (obtain ⟨d0, d1, d2, d3⟩ := HC.out w' hw'; go_simp)
    try with_reducible rfl
  simp only [List.getElem_toArray, List.getElem_cons_succ, List.getElem_cons_zero, Act.put, List.setIfInBounds_toArray, List.set_cons_zero, List.set_cons_succ]
  refine wpAnyH_take (i := 4) (v := ?v744) rfl (by kernel_rfl) (by kernel_rfl) (by kernel_rfl) (fun _ _ _ h => h) (Or.inl ⟨rfl, fun w' hw' => ?h744⟩) hHeld ?r744
  case h744 =>
    go_simp
    try with_reducible rfl
  simp only [List.getElem_toArray, List.getElem_cons_succ, List.getElem_cons_zero, Act.put, List.setIfInBounds_toArray, List.set_cons_zero, List.set_cons_succ]
  refine wpAnyH_take (i := 5) (v := ?v745) rfl (by kernel_rfl) (by kernel_rfl) (by kernel_rfl) (fun _ _ _ h => h) (Or.inl ⟨rfl, fun w' hw' => ?h745⟩) hHeld ?r745
  case h745 =>
    go_simp
    try with_reducible rfl
  simp only [List.getElem_toArray, List.getElem_cons_succ, List.getElem_cons_zero, Act.put, List.setIfInBounds_toArray, List.set_cons_zero, List.set_cons_succ]
  refine wpAnyH_take (i := 6) (v := ?v746) rfl (by kernel_rfl) (by kernel_rfl) (by kernel_rfl) (fun _ _ _ h => h) (Or.inl ⟨rfl, fun w' hw' => ?h746⟩) hHeld ?r746
  case h746 =>
    go_simp
    try with_reducible rfl
  simp only [List.getElem_toArray, List.getElem_cons_succ, List.getElem_cons_zero, Act.put, List.setIfInBounds_toArray, List.set_cons_zero, List.set_cons_succ]
  refine wpAnyH_take (i := 7) (v := ?v747) rfl (by kernel_rfl) (by kernel_rfl) (by kernel_rfl) (fun _ _ _ h => h) (Or.inl ⟨rfl, fun w' hw' => ?h747⟩) hHeld ?r747
  case h747 =>
    (obtain ⟨d0, d1, d2, d3⟩ := HC.out w' hw'; go_simp)
    try with_reducible rfl
  simp only [List.getElem_toArray, List.getElem_cons_succ, List.getElem_cons_zero, Act.put, List.setIfInBounds_toArray, List.set_cons_zero, List.set_cons_succ]
  refine wpAnyH_take (i := 8) (v := Value.int .u8 ((s[p]'hp).toNat : Int)) rfl (by kernel_rfl) (by kernel_rfl) (by kernel_rfl) (fun _ _ _ h => h) (Or.inl ⟨rfl, fun w' hw' => ?_⟩) hHeld ?_
  · go_simp
  simp only [List.getElem_toArray, List.getElem_cons_succ, List.getElem_cons_zero, Act.put, List.setIfInBounds_toArray, List.set_cons_zero, List.set_cons_succ]
  refine wpAnyH_take (i := 9) (v := ?v749) rfl (by kernel_rfl) (by kernel_rfl) (by kernel_rfl) (fun _ _ _ h => h) (Or.inl ⟨rfl, fun w' hw' => ?h749⟩) hHeld ?r749
  case h749 =>
    go_simp
    try with_reducible rfl
  simp only [List.getElem_toArray, List.getElem_cons_succ, List.getElem_cons_zero, Act.put, List.setIfInBounds_toArray, List.set_cons_zero, List.set_cons_succ]
  refine wpAnyH_done (by kernel_rfl) ?_ _
  refine NoPanic.normal ?_
  clear hHeld
  clear HC HS0
  rw [HBB.out]
  have FR := Lib.hid (row3_any g s p es out b X1 HS.out.rd HR.out.lt hp HBB.out hsg hs HB.out)
  have HSG := Lib.hid hsg
  have FS : Hid (∀ w, Calls Tryd.prog 51 #[.int .u8 (b.toNat : Int)] w fun e w' => e = .returned (.bool true) ∧ w = w') := fun w => hsg ▸ sign_any b w
  clear hsg
  go_wp2_with fail
  refine (FS.out _).mono ?_
  rintro e w' ⟨rfl, rfl⟩
  go_wp2_with fail
  refine FR.out.mono ?_
  rintro e7 w7 ⟨rfl, hbl, hsz, hz0, hz1⟩
  have HB7 := Lib.hid hbl
  have HZ7 := Lib.hid hsz
  have HA := Lib.hid hz0
  have HBZ := Lib.hid hz1
  obtain ⟨ec, hec⟩ : ∃ ec, ec = (nxt s p b es out).1 := ⟨_, rfl⟩
  rw [← hec]
  have HEC := Lib.hid hec
  clear hbl hsz hz0 hz1 hec
  go_wp2_with fail
  go_ret
  unfold RetNx
  rw [← HEC.out]
  exact ⟨rfl, HS.out.low.trans HB7.out, by have h1 := HS.out.size; have h2 := HZ7.out; omega, fun h => HA.out (by rw [← HEC.out]; exact h), fun h => HBZ.out (by rw [← HEC.out]; exact h)⟩
set_option maxHeartbeats 16000000 in
set_option maxRecDepth 100000 in
theorem next_none {D : Nat → Prop} (g : Nat) (s : ByteArray) (p : Nat) (es : List En) (out : List Dt) (b : UInt8) (w : World) (h : RdAt D w.heap.size w g s p es out) (hgN : g < w.heap.size) (hp : p < s.size) (hb : s[p] = b) (hs : s.size ≤ 8000) (hB : Bnd es out p) (hne : b ≠ 40 ∧ b ≠ 39 ∧ b ≠ 41 ∧ b ≠ 35) (hsg : sset.contains b = false) :
    Calls Tryd.prog 36 #[.pointer (some ⟨g, 0, none⟩)] w (RetNx g s p b es out w) := by
  obtain ⟨ao, c, bo, dd, hf⟩ := h.form
  obtain ⟨dv, hdv⟩ : ∃ v, v = Value.slice bo out.length dd := ⟨_, rfl⟩
  rw [← hdv] at hf
  have HS := Lib.hid (Stt.start h)
  have HR := Lib.hid hf
  have HB := Lib.hid hB
  have HBB := Lib.hid hb
  have hel : es.length ≤ 60 := hB.2.2
  clear h hB hdv hf hb
  have HNE : Hid (b ≠ 40 ∧ b ≠ 39 ∧ b ≠ 41 ∧ b ≠ 35) := hne
  have n1 : b.toNat ≠ 40 := fun e => hne.1 (u8_is b 40 e)
  have n2 : b.toNat ≠ 39 := fun e => hne.2.1 (u8_is b 39 e)
  have n3 : b.toNat ≠ 41 := fun e => hne.2.2.1 (u8_is b 41 e)
  have n4 : b.toNat ≠ 35 := fun e => hne.2.2.2 (u8_is b 35 e)
  have E40 : ((b.toNat : Int) == 40) = false := by simpa using (show ¬ (b.toNat : Int) = 40 by omega)
  have E39 : ((b.toNat : Int) == 39) = false := by simpa using (show ¬ (b.toNat : Int) = 39 by omega)
  have E41 : ((b.toNat : Int) == 41) = false := by simpa using (show ¬ (b.toNat : Int) = 41 by omega)
  have E35 : ((b.toNat : Int) == 35) = false := by simpa using (show ¬ (b.toNat : Int) = 35 by omega)
  clear hne n1 n2 n3 n4
  go_enter Tryd.func36, Tryd.ntmps36
  go_upto_region 1 with fail
  have HC : Hid (∀ w', Below w.heap.size w w' → w'.cell? ⟨g, 0, none⟩ = some (.string s) ∧ w'.cell? ⟨g, 1, none⟩ = some (.int .i64 (p : Int)) ∧ w'.cell? ⟨g, 2, none⟩ = some (.slice ao es.length c) ∧ w'.cell? ⟨g, 3, none⟩ = some dv) := fun w' hw' => by
    have h9 : w'.heap[g]? = some (.cells #[.string s, .int .i64 (p : Int), .slice ao es.length c, dv] 71 (0, 0)) := by rw [hw'.block g HR.out.lt]; exact HR.out
    exact Rs3.cells (p := p) h9
  have HS0 : Hid (Below w.heap.size w w.drew) := (Below.refl _ _).drew
  replace HS : Hid (Stt D g s p es out w w.drew) := HS.out.drew HR.out.lt
  replace HR : Hid (Rs3 w.drew g s p (.slice ao es.length c) dv) := HR.out
  refine wp_region_noPanic ?_
  refine wp_region_held_drew (S := Below w.heap.size w) (by kernel_rfl) HS0.out (fun hHeld => ?_)
  generalize w.drew = X1 at HS0 HS HR hHeld ⊢
  refine wpAnyH_take (i := 0) (v := ?v750) rfl (by kernel_rfl) (by kernel_rfl) (by kernel_rfl) (fun _ _ _ h => h) (Or.inl ⟨rfl, fun w' hw' => ?h750⟩) hHeld ?r750
  case h750 =>
    go_simp
    try with_reducible rfl
  simp only [List.getElem_toArray, List.getElem_cons_succ, List.getElem_cons_zero, Act.put, List.setIfInBounds_toArray, List.set_cons_zero, List.set_cons_succ]
  refine wpAnyH_take (i := 1) (v := ?v751) rfl (by kernel_rfl) (by kernel_rfl) (by kernel_rfl) (fun _ _ _ h => h) (Or.inl ⟨rfl, fun w' hw' => ?h751⟩) hHeld ?r751
  case h751 =>
    go_simp
    try with_reducible rfl
  simp only [List.getElem_toArray, List.getElem_cons_succ, List.getElem_cons_zero, Act.put, List.setIfInBounds_toArray, List.set_cons_zero, List.set_cons_succ]
  refine wpAnyH_take (i := 2) (v := ?v752) rfl (by kernel_rfl) (by kernel_rfl) (by kernel_rfl) (fun _ _ _ h => h) (Or.inl ⟨rfl, fun w' hw' => ?h752⟩) hHeld ?r752
  case h752 =>
    go_simp
    try with_reducible rfl
  simp only [List.getElem_toArray, List.getElem_cons_succ, List.getElem_cons_zero, Act.put, List.setIfInBounds_toArray, List.set_cons_zero, List.set_cons_succ]
  refine wpAnyH_take (i := 3) (v := ?v753) rfl (by kernel_rfl) (by kernel_rfl) (by kernel_rfl) (fun _ _ _ h => h) (Or.inl ⟨rfl, fun w' hw' => ?h753⟩) hHeld ?r753
  case h753 =>
    (obtain ⟨d0, d1, d2, d3⟩ := HC.out w' hw'; go_simp)
    try with_reducible rfl
  simp only [List.getElem_toArray, List.getElem_cons_succ, List.getElem_cons_zero, Act.put, List.setIfInBounds_toArray, List.set_cons_zero, List.set_cons_succ]
  refine wpAnyH_take (i := 4) (v := ?v754) rfl (by kernel_rfl) (by kernel_rfl) (by kernel_rfl) (fun _ _ _ h => h) (Or.inl ⟨rfl, fun w' hw' => ?h754⟩) hHeld ?r754
  case h754 =>
    go_simp
    try with_reducible rfl
  simp only [List.getElem_toArray, List.getElem_cons_succ, List.getElem_cons_zero, Act.put, List.setIfInBounds_toArray, List.set_cons_zero, List.set_cons_succ]
  refine wpAnyH_take (i := 5) (v := ?v755) rfl (by kernel_rfl) (by kernel_rfl) (by kernel_rfl) (fun _ _ _ h => h) (Or.inl ⟨rfl, fun w' hw' => ?h755⟩) hHeld ?r755
  case h755 =>
    go_simp
    try with_reducible rfl
  simp only [List.getElem_toArray, List.getElem_cons_succ, List.getElem_cons_zero, Act.put, List.setIfInBounds_toArray, List.set_cons_zero, List.set_cons_succ]
  refine wpAnyH_take (i := 6) (v := ?v756) rfl (by kernel_rfl) (by kernel_rfl) (by kernel_rfl) (fun _ _ _ h => h) (Or.inl ⟨rfl, fun w' hw' => ?h756⟩) hHeld ?r756
  case h756 =>
    go_simp
    try with_reducible rfl
  simp only [List.getElem_toArray, List.getElem_cons_succ, List.getElem_cons_zero, Act.put, List.setIfInBounds_toArray, List.set_cons_zero, List.set_cons_succ]
  refine wpAnyH_take (i := 7) (v := ?v757) rfl (by kernel_rfl) (by kernel_rfl) (by kernel_rfl) (fun _ _ _ h => h) (Or.inl ⟨rfl, fun w' hw' => ?h757⟩) hHeld ?r757
  case h757 =>
    (obtain ⟨d0, d1, d2, d3⟩ := HC.out w' hw'; go_simp)
    try with_reducible rfl
  simp only [List.getElem_toArray, List.getElem_cons_succ, List.getElem_cons_zero, Act.put, List.setIfInBounds_toArray, List.set_cons_zero, List.set_cons_succ]
  refine wpAnyH_take (i := 8) (v := Value.int .u8 ((s[p]'hp).toNat : Int)) rfl (by kernel_rfl) (by kernel_rfl) (by kernel_rfl) (fun _ _ _ h => h) (Or.inl ⟨rfl, fun w' hw' => ?_⟩) hHeld ?_
  · go_simp
  simp only [List.getElem_toArray, List.getElem_cons_succ, List.getElem_cons_zero, Act.put, List.setIfInBounds_toArray, List.set_cons_zero, List.set_cons_succ]
  refine wpAnyH_take (i := 9) (v := ?v759) rfl (by kernel_rfl) (by kernel_rfl) (by kernel_rfl) (fun _ _ _ h => h) (Or.inl ⟨rfl, fun w' hw' => ?h759⟩) hHeld ?r759
  case h759 =>
    go_simp
    try with_reducible rfl
  simp only [List.getElem_toArray, List.getElem_cons_succ, List.getElem_cons_zero, Act.put, List.setIfInBounds_toArray, List.set_cons_zero, List.set_cons_succ]
  refine wpAnyH_done (by kernel_rfl) ?_ _
  refine NoPanic.normal ?_
  clear hHeld
  clear HC HS0
  rw [HBB.out]
  have HN : Hid (nxt s p b es out = (3, p, es, out)) := by
    show _ = _
    have hl := drop_at s p hp
    rw [HBB.out] at hl
    refine nxt_tok HNE.out.1 HNE.out.2.1 HNE.out.2.2.1 (r := none) ?_
    rw [hl]
    unfold tokOf
    have h35 : (35 : UInt8) ≠ b := fun e => HNE.out.2.2.2 e.symm
    rw [if_neg (by simp [Lib.hasPrefix, List.isPrefixOf, h35])]
    rw [if_pos (by unfold rowOf; rw [List.takeWhile_cons, hsg]; rfl)]
  have FS : Hid (∀ w, Calls Tryd.prog 51 #[.int .u8 (b.toNat : Int)] w fun e w' => e = .returned (.bool false) ∧ w = w') := fun w => hsg ▸ sign_any b w
  clear hsg
  go_wp2_with fail
  refine (FS.out _).mono ?_
  rintro e w' ⟨rfl, rfl⟩
  go_wp2_with fail
  go_ret
  have hn := HN.out
  unfold RetNx
  rw [hn]
  exact ⟨rfl, HS.out.low, HS.out.size, fun h => absurd h (by simp), fun _ => ⟨_, _, HR.out⟩⟩
theorem next_any {D : Nat → Prop} (g : Nat) (s : ByteArray) (p : Nat) (es : List En) (out : List Dt) (b : UInt8) (w : World) (h : RdAt D w.heap.size w g s p es out) (hgN : g < w.heap.size) (hp : p < s.size) (hb : s[p] = b) (hs : s.size ≤ 8000) (hB : Bnd es out p) :
    Calls Tryd.prog 36 #[.pointer (some ⟨g, 0, none⟩)] w (RetNx g s p b es out w) := by
  by_cases h1 : b = 40
  · exact next_open40 g s p es out b w h hgN hp hb hs hB h1
  by_cases h2 : b = 39
  · exact next_open39 g s p es out b w h hgN hp hb hs hB h2
  by_cases h3 : b = 41
  · exact next_close g s p es out b w h hgN hp hb hs hB h3
  by_cases h4 : b = 35
  · by_cases hp1 : p + 1 < s.size
    · by_cases h116 : (s[p + 1]'hp1).toNat = 116
      · by_cases hp2 : p + 2 < s.size
        · cases hsg : sset.contains (s[p + 2]'hp2) with
          | true => exact next_hash_C1 g s p es out b w h hgN hp hb hs hB h4 hp1 h116 hp2 hsg
          | false => exact next_hash_C2 g s p es out b w h hgN hp hb hs hB h4 hp1 h116 hp2 hsg
        · exact next_hash_C3 g s p es out b w h hgN hp hb hs hB h4 hp1 h116 hp2
      · by_cases h102 : (s[p + 1]'hp1).toNat = 102
        · by_cases hp2 : p + 2 < s.size
          · cases hsg : sset.contains (s[p + 2]'hp2) with
            | true => exact next_hash_D1 g s p es out b w h hgN hp hb hs hB h4 hp1 h116 h102 hp2 hsg
            | false => exact next_hash_D2 g s p es out b w h hgN hp hb hs hB h4 hp1 h116 h102 hp2 hsg
          · exact next_hash_D3 g s p es out b w h hgN hp hb hs hB h4 hp1 h116 h102 hp2
        · exact next_hash_B g s p es out b w h hgN hp hb hs hB h4 hp1 h116 h102
    · exact next_hash_A g s p es out b w h hgN hp hb hs hB h4 hp1
  cases h5 : sset.contains b with
  | true => exact next_sign g s p es out b w h hgN hp hb hs hB ⟨h1, h2, h3, h4⟩ h5
  | false => exact next_none g s p es out b w h hgN hp hb hs hB ⟨h1, h2, h3, h4⟩ h5
end Go.Proofs.YtahdiknkcgnieaaDoor
