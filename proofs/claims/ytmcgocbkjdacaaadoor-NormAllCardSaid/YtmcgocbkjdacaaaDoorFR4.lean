/- The document's sets of names: With, Without, Texts. -/
import Derived.Test.YtmcgocbkjdacaaaDoorZC
import Derived.Test.YtmcgocbkjdacaaaDoorZD
import Derived.Sort.Walk0
namespace Go.Proofs.YtmcgocbkjdacaaaDoor
open Go.RowKit
set_option linter.unusedVariables false
set_option linter.unusedSimpArgs false
theorem blt_not {a b : ByteArray} (h : ¬ a.data.toList < b.data.toList) (hne : a ≠ b) : b.data.toList < a.data.toList :=
  Classical.byContradiction fun hn => hne (ByteArray.ext (Array.toList_inj.1 (List.le_antisymm (List.not_lt.1 hn) (List.not_lt.1 h))))
theorem srt_ins {l : List ByteArray} {s : ByteArray} {k : Nat} (hl : Srt l) (hs : s ∉ l) (hk : k ≤ l.length) (h1 : ∀ i (h : i < l.length), i < k → l[i].data.toList < s.data.toList) (h2 : ∀ h : k < l.length, ¬ l[k].data.toList < s.data.toList) :
    Srt (l.take k ++ [s] ++ l.drop k) ∧ ∀ x, x ∈ l.take k ++ [s] ++ l.drop k ↔ x = s ∨ x ∈ l := by
  have ht : ∀ x ∈ l.take k, x.data.toList < s.data.toList := by
    intro x hx
    obtain ⟨i, hi, rfl⟩ := List.getElem_of_mem hx
    rw [List.length_take] at hi
    rw [List.getElem_take]
    exact h1 i (by omega) (by omega)
  have hd : ∀ x ∈ l.drop k, s.data.toList < x.data.toList := by
    intro x hx
    obtain ⟨i, hi, rfl⟩ := List.getElem_of_mem hx
    rw [List.length_drop] at hi
    rw [List.getElem_drop]
    have hkl : k < l.length := by omega
    have h3 := blt_not (h2 hkl) (fun e => hs (by rw [← e]; exact List.getElem_mem hkl))
    by_cases hi0 : i = 0
    · subst hi0; exact h3
    · exact List.lt_trans h3 (List.pairwise_iff_getElem.1 hl k (k + i) hkl (by omega) (by omega))
  refine ⟨?_, fun x => ?_⟩
  · unfold Srt
    rw [List.append_assoc, List.pairwise_append]
    refine ⟨hl.sublist (List.take_sublist _ _), ?_, fun a ha b hb => ?_⟩
    · rw [List.singleton_append, List.pairwise_cons]
      exact ⟨hd, hl.sublist (List.drop_sublist _ _)⟩
    · rcases List.mem_append.1 hb with hb | hb
      · simp at hb; subst hb; exact ht a ha
      · exact List.lt_trans (ht a ha) (hd b hb)
  · simp only [List.mem_append, List.mem_singleton]
    have h3 : x ∈ l ↔ x ∈ l.take k ∨ x ∈ l.drop k := by rw [← List.mem_append, List.take_append_drop]
    rw [h3]
    constructor
    · rintro ((h | h) | h)
      · exact .inr (.inl h)
      · exact .inl h
      · exact .inr (.inr h)
    · rintro (h | h | h)
      · exact .inl (.inr h)
      · exact .inl (.inl h)
      · exact .inr h
theorem NAt.drop {S : Nat → Prop} {w : World} {g o cap : Nat} {n : Nat} {ns : List ByteArray} (h : NAt S w (.slice (some ⟨g, o, none⟩) n cap) ns) (k : Nat) (hk : k ≤ ns.length) (o' c' : Nat) (ho : c' = 0 ∨ o' = o + k) (hc : c' + k = cap) : NAt S w (.slice (some ⟨g, o', none⟩) (ns.length - k) c') (ns.drop k) := by
  rcases h with ⟨h, _⟩ | ⟨g2, o2, cap2, arr, fz, e, hS, hg, hd, hc2⟩
  · cases h
  · injection e with e1 e2 e3
    injection e1 with e1
    injection e1 with e4 e5
    subst e4 e5 e3
    refine .inr ⟨g, o', c', arr, fz, by rw [List.length_drop], hS, hg, fun i hi => ?_, by rw [List.length_drop]; omega⟩
    rw [List.length_drop] at hi
    rw [List.getElem_drop]
    have ho' : o' = o + k := by rcases ho with h | h <;> omega
    rw [ho', Nat.add_assoc]
    exact hd (k + i) (by omega)
/-- append of many names to a row that the call owns. -/
theorem wp_appNm {o : Oper} {a : Act} {w : World} {K : Act → World → Prop} {Q : Exit → Act → World → Prop} (s x : Operand)
    (ho : o.op = .call { callee := .builtin .append, args := #[s, x], argTypes := #[25, 25] }) (B : Nat) (v : Value) (L : List ByteArray) (hs : a.eval s = v) (hown : OwnN B w v L) (hL : 0 < L.length)
    {S : Nat → Prop} (u : Value) (R : List ByteArray) (hx : a.eval x = u) (hu : NAt S w u R) (hb : L.length + R.length ≤ 100000) (hB : B ≤ w.heap.size)
    (h : ∀ v' w', OwnN B w' v' (L ++ R) → w.grownBy w' v.ownBlock → K (a.put o.dst v') w') : o.wp Tryd.prog a w K Q := by
  obtain ⟨i, hi, hz, hsz, hby⟩ := info_parts infoS
  rcases hu with ⟨rfl, rfl⟩ | ⟨g1, o1, cap, arr, fz, rfl, h1, h2, h3, h4⟩
  · rcases hown.2 with ⟨_, h0⟩ | ⟨g, c, cur, rfl, hbg, hg, hnc, hcm, hcs, htake⟩
    · omega
    · have hr := run_append_room_src (P := Tryd.prog) w 25 25 o.type 9 i Tryd.underlying25 hi g 0 L.length c (.slice none 0 0) 0 [] (Src.ofNil w Tryd.underlying25 0) (by omega) (fun j hj => by simp at hj) (fun j hj => by simp at hj)
      unfold Oper.wp execOp
      simp only [ho, resolve, invoke, builtin, Sem.run_bind, Sem.run_pure, Result.andThen_ok, List.map_toArray, List.map_cons, List.map_nil, hs, hx, hr]
      exact h _ _ (by rw [List.append_nil]; exact hown) ⟨rfl, rfl, rfl, Nat.le_refl _, fun _ _ _ => rfl⟩
  · refine wp_append_own w s x 25 ho B 9 i (.string ⟨#[]⟩) 1 16 Tryd.underlying25 hi hz hsz hby rfl (by decide) v L.length _ hs hown ⟨g1, o1, none⟩ R.length cap (R.map Value.string) hx (by simp) (fun j t hj => ?_) (fun t ht => ?_) (by unfold maxLen; omega) (by omega) hB ?_
    · have hl : j < R.length := by
        rcases Nat.lt_or_ge j R.length with h | h
        · exact h
        · rw [List.getElem?_eq_none (by simpa using h)] at hj; cases hj
      rw [List.getElem?_map, List.getElem?_eq_getElem hl] at hj
      simp only [Option.map_some, Option.some.injEq] at hj
      subst hj
      have e2 : (⟨g1, o1, none⟩ : Addr).add j = ⟨g1, o1 + j, none⟩ := by unfold Addr.add; split <;> simp_all
      rw [e2, Lib.cell_of_heap h2]; exact h3 j hl
    · obtain ⟨_, _, rfl⟩ := List.mem_map.1 ht; rfl
    · intro v' w' h5 h6 _
      refine h v' w' ?_ h6
      unfold OwnN
      rw [List.map_append, List.length_append]; exact h5
/-- A set with one name more. -/
def RetWith (B : Nat) (l : List ByteArray) (s : ByteArray) (w : World) (r : Ending) (w' : World) : Prop :=
  ∃ v L, r = .returned v ∧ NAt (fun g => B ≤ g) w' v L ∧ Srt L ∧ (∀ x, x ∈ L ↔ x = s ∨ x ∈ l) ∧ L.length ≤ l.length + 1 ∧ Below w.heap.size w w'
def WhInv (l : List ByteArray) (s : ByteArray) (w : World) (iv : Value) (wr : World) : Prop :=
  ∃ k : Nat, k ≤ l.length ∧ iv = .int .i64 (k : Int) ∧ (∀ i (h : i < l.length), i < k → l[i].data.toList < s.data.toList) ∧ w = wr
theorem less_eq (a b : ByteArray) : Op.bytesLess a.toList b.toList = decide (a.data.toList < b.data.toList) := by rw [bytesLess_eq, Lib.toList_data, Lib.toList_data]
set_option maxHeartbeats 8000000 in
set_option maxRecDepth 100000 in
theorem with_any (l : List ByteArray) (hl : Srt l) (s : ByteArray) (B : Nat) (lv : Value) (w : World) (h : NAt (fun g => B ≤ g) w lv l) (hn : l.length ≤ 50000) (hB : B ≤ w.heap.size) : Calls Tryd.prog 42 #[lv, .string s] w (RetWith B l s w) := by
  obtain ⟨S, hS⟩ : ∃ S : Nat → Prop, S = fun g => B ≤ g := ⟨_, rfl⟩
  rw [← hS] at h
  have HIN := Lib.hid (in_any s l S lv w h (by omega))
  by_cases hin : s ∈ l
  · have HRET : Hid (RetWith B l s w (.returned lv) w) := ⟨lv, l, rfl, hS ▸ h, hl, fun x => ⟨.inr, fun h => h.elim (fun e => e ▸ hin) id⟩, by omega, Below.refl _ _⟩
    rw [decide_eq_true hin] at HIN
    obtain ⟨no, nc, rfl⟩ := h.form
    clear h hS
    go_enter Tryd.func42, Tryd.ntmps42
    go_wp2_with fail
    refine HIN.out.mono ?_
    rintro e w' ⟨rfl, rfl⟩
    go_wp2_with fail
    go_ret
    exact HRET.out
  · rw [decide_eq_false hin] at HIN
    have HRS : Hid (∀ k, k ≤ l.length → (∀ i (h : i < l.length), i < k → l[i].data.toList < s.data.toList) → (∀ h : k < l.length, ¬ l[k].data.toList < s.data.toList) → ∀ v' w', OwnN w.heap.size w' v' (l.take k ++ [s] ++ l.drop k) → Below w.heap.size w w' → RetWith B l s w (.returned v') w') := by
      show ∀ k, _
      intro k hk h1 h2 v' w' ho hb
      obtain ⟨h3, h4⟩ := srt_ins hl hin hk h1 h2
      refine ⟨v', _, rfl, ho.at.mono (fun g hg => by have := hg.1; omega), h3, h4, ?_, hb⟩
      simp; omega
    have HN := Lib.hid h
    rcases h with ⟨rfl, rfl⟩ | ⟨g, o, nc, arr, fz, rfl, hSg, hg, hd, hc⟩
    · have HRES := Lib.hid (HRS.out 0 (Nat.le_refl _) (fun i h => by simp at h) (fun h => by simp at h))
      simp only [List.take_nil, List.drop_nil] at HRES
      clear HRS
      go_enter Tryd.func42, Tryd.ntmps42
      go_wp2_with fail
      refine HIN.out.mono ?_
      rintro e w' ⟨rfl, rfl⟩
      go_wp2_with fail
      go_loopw [5] (fun iv wr => iv = .int .i64 0 ∧ w = wr) (fun iv _ => 0)
      case atStart => exact ⟨rfl, rfl⟩
      case round =>
        obtain ⟨rfl, rfl⟩ := hrel
        go_upto_region 6 with fail
        have HS0 : Hid (Below w.heap.size w w.drew) := (Below.refl _ _).drew
        refine wp_region_noPanic ?_
        refine wp_region_held_drew (S := Below w.heap.size w) (by kernel_rfl) HS0.out (fun hHeld => ?_)
        generalize w.drew = X at HS0 hHeld ⊢
        refine wpAnyH_take (i := 1) (v := Value.slice none 0 0) rfl (by kernel_rfl) (by kernel_rfl) (by kernel_rfl) (fun _ _ _ h => h) (Or.inl ⟨rfl, fun w' hw' => ?_⟩) hHeld ?_
        · go_simp
        simp only [List.getElem_toArray, List.getElem_cons_succ, List.getElem_cons_zero, Act.put, List.setIfInBounds_toArray, List.set_cons_zero, List.set_cons_succ]
        refine wpAnyH_take (i := 2) (v := Value.int .i64 0) rfl (by kernel_rfl) (by kernel_rfl) (by kernel_rfl) (fun _ _ _ h => h) (Or.inl ⟨rfl, fun w' hw' => ?_⟩) hHeld ?_
        · go_simp
        simp only [List.getElem_toArray, List.getElem_cons_succ, List.getElem_cons_zero, Act.put, List.setIfInBounds_toArray, List.set_cons_zero, List.set_cons_succ]
        refine wpAnyH_take (i := 3) (v := Value.slice none 0 0) rfl (by kernel_rfl) (by kernel_rfl) (by kernel_rfl) (fun _ _ _ h => h) (Or.inl ⟨rfl, fun w' hw' => ?_⟩) hHeld ?_
        · go_simp
        simp only [List.getElem_toArray, List.getElem_cons_succ, List.getElem_cons_zero, Act.put, List.setIfInBounds_toArray, List.set_cons_zero, List.set_cons_succ]
        refine wpAnyH_take (i := 5) (v := Value.string s) rfl (by kernel_rfl) (by kernel_rfl) (by kernel_rfl) (fun _ _ _ h => h) (Or.inl ⟨rfl, fun w' hw' => ?_⟩) hHeld ?_
        · go_simp
        simp only [List.getElem_toArray, List.getElem_cons_succ, List.getElem_cons_zero, Act.put, List.setIfInBounds_toArray, List.set_cons_zero, List.set_cons_succ]
        refine wpAnyH_take (i := 8) (v := Value.slice none 0 0) rfl (by kernel_rfl) (by kernel_rfl) (by kernel_rfl) (fun _ _ _ h => h) (Or.inl ⟨rfl, fun w' hw' => ?_⟩) hHeld ?_
        · go_simp
        simp only [List.getElem_toArray, List.getElem_cons_succ, List.getElem_cons_zero, Act.put, List.setIfInBounds_toArray, List.set_cons_zero, List.set_cons_succ]
        refine wpAnyH_take (i := 9) (v := Value.int .i64 0) rfl (by kernel_rfl) (by kernel_rfl) (by kernel_rfl) (fun _ _ _ h => h) (Or.inl ⟨rfl, fun w' hw' => ?_⟩) hHeld ?_
        · go_simp
        simp only [List.getElem_toArray, List.getElem_cons_succ, List.getElem_cons_zero, Act.put, List.setIfInBounds_toArray, List.set_cons_zero, List.set_cons_succ]
        refine wpAnyH_take (i := 10) (v := Value.slice none 0 0) rfl (by kernel_rfl) (by kernel_rfl) (by kernel_rfl) (fun _ _ _ h => h) (Or.inl ⟨rfl, fun w' hw' => ?_⟩) hHeld ?_
        · go_simp
        simp only [List.getElem_toArray, List.getElem_cons_succ, List.getElem_cons_zero, Act.put, List.setIfInBounds_toArray, List.set_cons_zero, List.set_cons_succ]
        refine wpAnyH_ready (rs := [0, 6]) (by kernel_rfl) (by simp) ?_
        refine (AllReadyH.cons rfl (fun K hK => ?_) (AllReadyH.cons rfl (fun K hK => ?_) AllReadyH.nil))
        · skip
          go_simp
          have HS0a : Hid (Below w.heap.size w (X.alloc (.cells #[] 9))) := HS0.out.alloc HS0.out.size _
          have HO0 := Lib.hid (OwnN.lit w.heap.size X HS0.out.size)
          refine hK.out _ _ HS0a.out (fun hHeld => ?_)
          clear hK K
          try simp only [List.getElem_toArray, List.getElem_cons_succ, List.getElem_cons_zero, Act.put, List.setIfInBounds_toArray, List.set_cons_zero, List.set_cons_succ]
          generalize X.alloc (.cells #[] 9) = w0 at HS0a HO0 hHeld ⊢
          have hg0 : w.heap.size ≤ X.heap.size := HS0.out.size
          have hgl0 : X.heap.size < w0.heap.size := (HO0.out.lt rfl).2
          have HS0 := HS0a
          obtain ⟨g0, hg0e⟩ : ∃ g0, g0 = X.heap.size := ⟨_, rfl⟩
          rw [← hg0e] at HO0 hg0 hgl0
          simp only [← hg0e]
          have HG0 := Lib.hid hg0e
          clear hg0e
          refine wpAnyH_ready (rs := [4, 6]) (by kernel_rfl) (by simp) ?_
          refine (AllReadyH.cons rfl (fun K hK => ?_) (AllReadyH.cons rfl (fun K hK => ?_) AllReadyH.nil))
          · skip
            refine wp_appNs (S := S) (Operand.tmp 24) (Operand.tmp 27) rfl w.heap.size g0 0 (by go_simp) HO0.out _ [] rfl (.inl ⟨rfl, rfl⟩) (by simp) HS0.out.size ?_
            intro v' w4 hown4 hg4
            have HS4 : Hid (Below w.heap.size w w4) := HS0.out.grown hg4 HS0.out.size (fun x hx => by injection hx with hx; subst hx; exact hg0)
            have HO4 := Lib.hid hown4
            obtain ⟨ao4, ac4, rfl⟩ := own_form hown4
            clear hown4 hg4
            refine hK.out _ _ HS4.out (fun hHeld => ?_)
            clear hK K
            try simp only [List.getElem_toArray, List.getElem_cons_succ, List.getElem_cons_zero, Act.put, List.setIfInBounds_toArray, List.set_cons_zero, List.set_cons_succ]
            refine wpAnyH_ready (rs := [6]) (by kernel_rfl) (by simp) ?_
            refine (AllReadyH.cons rfl (fun K hK => ?_) AllReadyH.nil)
            go_simp
            have HS6a : Hid (Below w.heap.size w (w4.alloc (.cells #[.string s] 9))) := HS4.out.alloc HS4.out.size _
            have HC6 : Hid ((w4.alloc (.cells #[.string s] 9)).cell? ⟨w4.heap.size, 0, none⟩ = some (.string s)) := (by show _ = _; rw [Lib.cell_of_heap (alloc_at _ _)]; rfl)
            have A6 := Lib.hid ((Below.refl w4.heap.size w4).alloc (Nat.le_refl _) (.cells #[.string s] 9))
            have HO4b := Lib.hid (HO4.out.below A6.out)
            refine hK.out _ _ HS6a.out (fun hHeld => ?_)
            clear hK K
            try simp only [List.getElem_toArray, List.getElem_cons_succ, List.getElem_cons_zero, Act.put, List.setIfInBounds_toArray, List.set_cons_zero, List.set_cons_succ]
            generalize w4.alloc (.cells #[.string s] 9) = w6 at HS6a HC6 A6 HO4b hHeld ⊢
            have hg6 : w4.heap.size < w6.heap.size := (World.block_lt_of_cell? w6 ⟨w4.heap.size, 0, none⟩ HC6.out)
            have HS6 := HS6a
            obtain ⟨g6, hg6e⟩ : ∃ g6, g6 = w4.heap.size := ⟨_, rfl⟩
            rw [← hg6e] at HC6 hg6
            simp only [← hg6e]
            clear hg6e
            refine wpAnyH_ready (rs := [7]) (by kernel_rfl) (by simp) ?_
            refine (AllReadyH.cons rfl (fun K hK => ?_) AllReadyH.nil)
            refine wp_appN1 (Operand.tmp 28) (Operand.tmp 30) rfl w.heap.size (.slice ao4 ([] : List ByteArray).length ac4) [] (by go_simp) HO4b.out g6 (by go_simp) s HC6.out (by simp) HS6.out.size ?_
            intro v' w7 hown7 hg7
            have HS7 : Hid (Below w.heap.size w w7) := HS6.out.grown hg7 HS6.out.size (fun x hx => (HO4b.out.lt hx).1)
            have HO7 := Lib.hid hown7
            obtain ⟨ao7, ac7, rfl⟩ := own_form hown7
            clear hown7 hg7
            refine hK.out _ _ HS7.out (fun hHeld => ?_)
            clear hK K
            try simp only [List.getElem_toArray, List.getElem_cons_succ, List.getElem_cons_zero, Act.put, List.setIfInBounds_toArray, List.set_cons_zero, List.set_cons_succ]
            refine wpAnyH_ready (rs := [11]) (by kernel_rfl) (by simp) ?_
            refine (AllReadyH.cons rfl (fun K hK => ?_) AllReadyH.nil)
            refine wp_appNm (S := S) (Operand.tmp 31) (Operand.tmp 34) rfl w.heap.size (.slice ao7 ([] ++ [s]).length ac7) ([] ++ [s]) (by go_simp) HO7.out (by simp) _ [] (by go_simp) (.inl ⟨rfl, rfl⟩) (by simp) HS7.out.size ?_
            intro v' w11 hown11 hg11
            have HS11 : Hid (Below w.heap.size w w11) := HS7.out.grown hg11 HS7.out.size (fun x hx => (HO7.out.lt hx).1)
            have HFIN := Lib.hid (HRES.out v' w11 hown11 HS11.out)
            obtain ⟨n9, hn9⟩ : ∃ n9, n9 = (([] ++ [s]) ++ []).length := ⟨_, rfl⟩
            obtain ⟨ao9, ac9, e9⟩ := own_form hown11
            rw [← hn9] at e9
            subst e9
            clear hown11 hg11 hn9
            refine hK.out _ _ HS11.out (fun hHeld => ?_)
            clear hK K
            try simp only [List.getElem_toArray, List.getElem_cons_succ, List.getElem_cons_zero, Act.put, List.setIfInBounds_toArray, List.set_cons_zero, List.set_cons_succ]
            refine wpAnyH_take (i := 12) (v := Value.slice ao9 n9 ac9) rfl (by kernel_rfl) (by kernel_rfl) (by kernel_rfl) (fun _ _ _ h => h) (Or.inl ⟨rfl, fun w' hw' => ?_⟩) hHeld ?_
            · go_simp
            simp only [List.getElem_toArray, List.getElem_cons_succ, List.getElem_cons_zero, Act.put, List.setIfInBounds_toArray, List.set_cons_zero, List.set_cons_succ]
            refine wpAnyH_done (by kernel_rfl) ?_ _
            refine NoPanic.normal ?_
            clear hHeld
            go_wp2_with fail
            go_ret
            exact HFIN.out
          · skip
            go_simp
            have HS6a : Hid (Below w.heap.size w (w0.alloc (.cells #[.string s] 9))) := HS0.out.alloc HS0.out.size _
            have HC6 : Hid ((w0.alloc (.cells #[.string s] 9)).cell? ⟨w0.heap.size, 0, none⟩ = some (.string s)) := (by show _ = _; rw [Lib.cell_of_heap (alloc_at _ _)]; rfl)
            have A6 := Lib.hid ((Below.refl w0.heap.size w0).alloc (Nat.le_refl _) (.cells #[.string s] 9))
            have HO0b := Lib.hid (HO0.out.below A6.out)
            refine hK.out _ _ HS6a.out (fun hHeld => ?_)
            clear hK K
            try simp only [List.getElem_toArray, List.getElem_cons_succ, List.getElem_cons_zero, Act.put, List.setIfInBounds_toArray, List.set_cons_zero, List.set_cons_succ]
            generalize w0.alloc (.cells #[.string s] 9) = w6 at HS6a HC6 A6 HO0b hHeld ⊢
            have hg6 : w0.heap.size < w6.heap.size := (World.block_lt_of_cell? w6 ⟨w0.heap.size, 0, none⟩ HC6.out)
            have HS6 := HS6a
            obtain ⟨g6, hg6e⟩ : ∃ g6, g6 = w0.heap.size := ⟨_, rfl⟩
            rw [← hg6e] at HC6 hg6
            simp only [← hg6e]
            have hne : g6 ≠ g0 := by omega
            clear hg6e
            refine wpAnyH_ready (rs := [4]) (by kernel_rfl) (by simp) ?_
            refine (AllReadyH.cons rfl (fun K hK => ?_) AllReadyH.nil)
            refine wp_appNs (S := S) (Operand.tmp 24) (Operand.tmp 27) rfl w.heap.size g0 0 (by go_simp) HO0b.out _ [] rfl (.inl ⟨rfl, rfl⟩) (by simp) HS6.out.size ?_
            intro v' w4 hown4 hg4
            have HS4 : Hid (Below w.heap.size w w4) := HS6.out.grown hg4 HS6.out.size (fun x hx => by injection hx with hx; subst hx; exact hg0)
            have HO4 := Lib.hid hown4
            obtain ⟨ao4, ac4, rfl⟩ := own_form hown4
            have HC6b : Hid (w4.cell? ⟨g6, 0, none⟩ = some (.string s)) := (World.cell?_of_block (a := ⟨g6, 0, none⟩) (hg4.block g6 hg6 (fun e => by injection e with e; exact hne e))).trans HC6.out
            clear hown4 hg4
            refine hK.out _ _ HS4.out (fun hHeld => ?_)
            clear hK K
            try simp only [List.getElem_toArray, List.getElem_cons_succ, List.getElem_cons_zero, Act.put, List.setIfInBounds_toArray, List.set_cons_zero, List.set_cons_succ]
            refine wpAnyH_ready (rs := [7]) (by kernel_rfl) (by simp) ?_
            refine (AllReadyH.cons rfl (fun K hK => ?_) AllReadyH.nil)
            refine wp_appN1 (Operand.tmp 28) (Operand.tmp 30) rfl w.heap.size (.slice ao4 ([] : List ByteArray).length ac4) [] (by go_simp) HO4.out g6 (by go_simp) s HC6b.out (by simp) HS4.out.size ?_
            intro v' w7 hown7 hg7
            have HS7 : Hid (Below w.heap.size w w7) := HS4.out.grown hg7 HS4.out.size (fun x hx => (HO4.out.lt hx).1)
            have HO7 := Lib.hid hown7
            obtain ⟨ao7, ac7, rfl⟩ := own_form hown7
            clear hown7 hg7
            refine hK.out _ _ HS7.out (fun hHeld => ?_)
            clear hK K
            try simp only [List.getElem_toArray, List.getElem_cons_succ, List.getElem_cons_zero, Act.put, List.setIfInBounds_toArray, List.set_cons_zero, List.set_cons_succ]
            refine wpAnyH_ready (rs := [11]) (by kernel_rfl) (by simp) ?_
            refine (AllReadyH.cons rfl (fun K hK => ?_) AllReadyH.nil)
            refine wp_appNm (S := S) (Operand.tmp 31) (Operand.tmp 34) rfl w.heap.size (.slice ao7 ([] ++ [s]).length ac7) ([] ++ [s]) (by go_simp) HO7.out (by simp) _ [] (by go_simp) (.inl ⟨rfl, rfl⟩) (by simp) HS7.out.size ?_
            intro v' w11 hown11 hg11
            have HS11 : Hid (Below w.heap.size w w11) := HS7.out.grown hg11 HS7.out.size (fun x hx => (HO7.out.lt hx).1)
            have HFIN := Lib.hid (HRES.out v' w11 hown11 HS11.out)
            obtain ⟨n9, hn9⟩ : ∃ n9, n9 = (([] ++ [s]) ++ []).length := ⟨_, rfl⟩
            obtain ⟨ao9, ac9, e9⟩ := own_form hown11
            rw [← hn9] at e9
            subst e9
            clear hown11 hg11 hn9
            refine hK.out _ _ HS11.out (fun hHeld => ?_)
            clear hK K
            try simp only [List.getElem_toArray, List.getElem_cons_succ, List.getElem_cons_zero, Act.put, List.setIfInBounds_toArray, List.set_cons_zero, List.set_cons_succ]
            refine wpAnyH_take (i := 12) (v := Value.slice ao9 n9 ac9) rfl (by kernel_rfl) (by kernel_rfl) (by kernel_rfl) (fun _ _ _ h => h) (Or.inl ⟨rfl, fun w' hw' => ?_⟩) hHeld ?_
            · go_simp
            simp only [List.getElem_toArray, List.getElem_cons_succ, List.getElem_cons_zero, Act.put, List.setIfInBounds_toArray, List.set_cons_zero, List.set_cons_succ]
            refine wpAnyH_done (by kernel_rfl) ?_ _
            refine NoPanic.normal ?_
            clear hHeld
            go_wp2_with fail
            go_ret
            exact HFIN.out
        · skip
          go_simp
          have HS6a : Hid (Below w.heap.size w (X.alloc (.cells #[.string s] 9))) := HS0.out.alloc HS0.out.size _
          have HC6 : Hid ((X.alloc (.cells #[.string s] 9)).cell? ⟨X.heap.size, 0, none⟩ = some (.string s)) := (by show _ = _; rw [Lib.cell_of_heap (alloc_at _ _)]; rfl)
          have A6 := Lib.hid ((Below.refl X.heap.size X).alloc (Nat.le_refl _) (.cells #[.string s] 9))
          refine hK.out _ _ HS6a.out (fun hHeld => ?_)
          clear hK K
          try simp only [List.getElem_toArray, List.getElem_cons_succ, List.getElem_cons_zero, Act.put, List.setIfInBounds_toArray, List.set_cons_zero, List.set_cons_succ]
          generalize X.alloc (.cells #[.string s] 9) = w6 at HS6a HC6 A6 hHeld ⊢
          have hg6 : X.heap.size < w6.heap.size := (World.block_lt_of_cell? w6 ⟨X.heap.size, 0, none⟩ HC6.out)
          have HS6 := HS6a
          obtain ⟨g6, hg6e⟩ : ∃ g6, g6 = X.heap.size := ⟨_, rfl⟩
          rw [← hg6e] at HC6 hg6
          simp only [← hg6e]
          clear hg6e
          refine wpAnyH_ready (rs := [0]) (by kernel_rfl) (by simp) ?_
          refine (AllReadyH.cons rfl (fun K hK => ?_) AllReadyH.nil)
          go_simp
          have HS0a : Hid (Below w.heap.size w (w6.alloc (.cells #[] 9))) := HS6.out.alloc HS6.out.size _
          have HO0 := Lib.hid (OwnN.lit w.heap.size w6 HS6.out.size)
          have HC60 : Hid ((w6.alloc (.cells #[] 9)).cell? ⟨g6, 0, none⟩ = some (.string s)) := cell_below ((Below.refl w6.heap.size w6).alloc (Nat.le_refl _) _) HC6.out
          have hg60 : g6 < (w6.alloc (.cells #[] 9)).heap.size := World.block_lt_of_cell? _ ⟨g6, 0, none⟩ HC60.out
          refine hK.out _ _ HS0a.out (fun hHeld => ?_)
          clear hK K
          try simp only [List.getElem_toArray, List.getElem_cons_succ, List.getElem_cons_zero, Act.put, List.setIfInBounds_toArray, List.set_cons_zero, List.set_cons_succ]
          generalize w6.alloc (.cells #[] 9) = w0 at HS0a HO0 HC60 hg60 hHeld ⊢
          have hg0 : w.heap.size ≤ w6.heap.size := HS6.out.size
          have hgl0 : w6.heap.size < w0.heap.size := (HO0.out.lt rfl).2
          have HS0 := HS0a
          obtain ⟨g0, hg0e⟩ : ∃ g0, g0 = w6.heap.size := ⟨_, rfl⟩
          rw [← hg0e] at HO0 hg0 hgl0
          simp only [← hg0e]
          have HG0 := Lib.hid hg0e
          have hne : g6 ≠ g0 := by have := HG0.out; omega
          clear hg0e
          refine wpAnyH_ready (rs := [4]) (by kernel_rfl) (by simp) ?_
          refine (AllReadyH.cons rfl (fun K hK => ?_) AllReadyH.nil)
          refine wp_appNs (S := S) (Operand.tmp 24) (Operand.tmp 27) rfl w.heap.size g0 0 (by go_simp) HO0.out _ [] rfl (.inl ⟨rfl, rfl⟩) (by simp) HS0.out.size ?_
          intro v' w4 hown4 hg4
          have HS4 : Hid (Below w.heap.size w w4) := HS0.out.grown hg4 HS0.out.size (fun x hx => by injection hx with hx; subst hx; exact hg0)
          have HO4 := Lib.hid hown4
          obtain ⟨ao4, ac4, rfl⟩ := own_form hown4
          have HC6b : Hid (w4.cell? ⟨g6, 0, none⟩ = some (.string s)) := (World.cell?_of_block (a := ⟨g6, 0, none⟩) (hg4.block g6 hg60 (fun e => by injection e with e; exact hne e))).trans HC60.out
          clear hown4 hg4
          refine hK.out _ _ HS4.out (fun hHeld => ?_)
          clear hK K
          try simp only [List.getElem_toArray, List.getElem_cons_succ, List.getElem_cons_zero, Act.put, List.setIfInBounds_toArray, List.set_cons_zero, List.set_cons_succ]
          refine wpAnyH_ready (rs := [7]) (by kernel_rfl) (by simp) ?_
          refine (AllReadyH.cons rfl (fun K hK => ?_) AllReadyH.nil)
          refine wp_appN1 (Operand.tmp 28) (Operand.tmp 30) rfl w.heap.size (.slice ao4 ([] : List ByteArray).length ac4) [] (by go_simp) HO4.out g6 (by go_simp) s HC6b.out (by simp) HS4.out.size ?_
          intro v' w7 hown7 hg7
          have HS7 : Hid (Below w.heap.size w w7) := HS4.out.grown hg7 HS4.out.size (fun x hx => (HO4.out.lt hx).1)
          have HO7 := Lib.hid hown7
          obtain ⟨ao7, ac7, rfl⟩ := own_form hown7
          clear hown7 hg7
          refine hK.out _ _ HS7.out (fun hHeld => ?_)
          clear hK K
          try simp only [List.getElem_toArray, List.getElem_cons_succ, List.getElem_cons_zero, Act.put, List.setIfInBounds_toArray, List.set_cons_zero, List.set_cons_succ]
          refine wpAnyH_ready (rs := [11]) (by kernel_rfl) (by simp) ?_
          refine (AllReadyH.cons rfl (fun K hK => ?_) AllReadyH.nil)
          refine wp_appNm (S := S) (Operand.tmp 31) (Operand.tmp 34) rfl w.heap.size (.slice ao7 ([] ++ [s]).length ac7) ([] ++ [s]) (by go_simp) HO7.out (by simp) _ [] (by go_simp) (.inl ⟨rfl, rfl⟩) (by simp) HS7.out.size ?_
          intro v' w11 hown11 hg11
          have HS11 : Hid (Below w.heap.size w w11) := HS7.out.grown hg11 HS7.out.size (fun x hx => (HO7.out.lt hx).1)
          have HFIN := Lib.hid (HRES.out v' w11 hown11 HS11.out)
          obtain ⟨n9, hn9⟩ : ∃ n9, n9 = (([] ++ [s]) ++ []).length := ⟨_, rfl⟩
          obtain ⟨ao9, ac9, e9⟩ := own_form hown11
          rw [← hn9] at e9
          subst e9
          clear hown11 hg11 hn9
          refine hK.out _ _ HS11.out (fun hHeld => ?_)
          clear hK K
          try simp only [List.getElem_toArray, List.getElem_cons_succ, List.getElem_cons_zero, Act.put, List.setIfInBounds_toArray, List.set_cons_zero, List.set_cons_succ]
          refine wpAnyH_take (i := 12) (v := Value.slice ao9 n9 ac9) rfl (by kernel_rfl) (by kernel_rfl) (by kernel_rfl) (fun _ _ _ h => h) (Or.inl ⟨rfl, fun w' hw' => ?_⟩) hHeld ?_
          · go_simp
          simp only [List.getElem_toArray, List.getElem_cons_succ, List.getElem_cons_zero, Act.put, List.setIfInBounds_toArray, List.set_cons_zero, List.set_cons_succ]
          refine wpAnyH_done (by kernel_rfl) ?_ _
          refine NoPanic.normal ?_
          clear hHeld
          go_wp2_with fail
          go_ret
          exact HFIN.out
    · have hlt0 := hc
      clear hSg hg hd
      go_enter Tryd.func42, Tryd.ntmps42
      go_wp2_with fail
      refine HIN.out.mono ?_
      rintro e w' ⟨rfl, rfl⟩
      go_wp2_with fail
      go_loopw [5] (fun iv wr => WhInv l s w iv wr) (fun iv _ => l.length - (intOf iv).toNat)
      case atStart => exact ⟨0, Nat.zero_le _, rfl, fun i h hi => by omega, rfl⟩
      case round =>
        obtain ⟨k, hkl, rfl, hlow, rfl⟩ := hrel
        have HLOW := Lib.hid hlow
        clear hlow
        by_cases hlt : k < l.length
        · have q1 : decide ((k : Int) < (l.length : Int)) = true := decide_eq_true (by omega)
          obtain ⟨g2, o2, e2, -, e0⟩ := HN.out.get k hlt
          injection e2 with e2
          injection e2 with e3 e4
          subst e3 e4
          have hle := less_eq l[k] s
          obtain ⟨x, hx⟩ : ∃ x, x = l[k] := ⟨_, rfl⟩
          rw [← hx] at e0 hle
          by_cases hxs : x.data.toList < s.data.toList
          · rw [decide_eq_true hxs] at hle
            have HNX : Hid (WhInv l s w (.int .i64 ((k : Int) + 1)) w) := ⟨k + 1, by omega, by go_num, fun i h hi => by
              by_cases hik : i = k
              · subst hik; rw [← hx]; exact hxs
              · exact HLOW.out i h (by omega), rfl⟩
            clear hx hxs
            go_wp2_with fail
            go_roundw
            case rel => exact HNX.out
            case measure => simp [intOf]; omega
          · rw [decide_eq_false hxs] at hle
            have HRES := Lib.hid (HRS.out k hkl HLOW.out (fun h => by rw [← hx]; exact hxs))
            obtain ⟨od, hod, hodv⟩ : ∃ od, (nc - k = 0 ∨ od = o + k) ∧ (if nc = k then o else o + k) = od := ⟨_, by by_cases h : nc = k <;> simp [h], rfl⟩
            have hnk : ¬ nc = k := by omega
            have hknc : k ≤ nc := by omega
            have hod2 : od = o + k := by rcases hod with h | h <;> omega
            subst hod2
            clear hx hxs HRS hodv
            go_upto_region 6 with fail
            have HS0 : Hid (Below w.heap.size w w.drew) := (Below.refl _ _).drew
            refine wp_region_noPanic ?_
            refine wp_region_held_drew (S := Below w.heap.size w) (by kernel_rfl) HS0.out (fun hHeld => ?_)
            generalize w.drew = X at HS0 hHeld ⊢
            refine wpAnyH_take (i := 1) (v := Value.slice (some ⟨g, o, none⟩) l.length nc) rfl (by kernel_rfl) (by kernel_rfl) (by kernel_rfl) (fun _ _ _ h => h) (Or.inl ⟨rfl, fun w' hw' => ?_⟩) hHeld ?_
            · go_simp
            simp only [List.getElem_toArray, List.getElem_cons_succ, List.getElem_cons_zero, Act.put, List.setIfInBounds_toArray, List.set_cons_zero, List.set_cons_succ]
            refine wpAnyH_take (i := 2) (v := Value.int .i64 (k : Int)) rfl (by kernel_rfl) (by kernel_rfl) (by kernel_rfl) (fun _ _ _ h => h) (Or.inl ⟨rfl, fun w' hw' => ?_⟩) hHeld ?_
            · go_simp
            simp only [List.getElem_toArray, List.getElem_cons_succ, List.getElem_cons_zero, Act.put, List.setIfInBounds_toArray, List.set_cons_zero, List.set_cons_succ]
            refine wpAnyH_take (i := 3) (v := Value.slice (some ⟨g, o, none⟩) k nc) rfl (by kernel_rfl) (by kernel_rfl) (by kernel_rfl) (fun _ _ _ h => h) (Or.inl ⟨rfl, fun w' hw' => ?_⟩) hHeld ?_
            · go_simp
            simp only [List.getElem_toArray, List.getElem_cons_succ, List.getElem_cons_zero, Act.put, List.setIfInBounds_toArray, List.set_cons_zero, List.set_cons_succ]
            refine wpAnyH_take (i := 5) (v := Value.string s) rfl (by kernel_rfl) (by kernel_rfl) (by kernel_rfl) (fun _ _ _ h => h) (Or.inl ⟨rfl, fun w' hw' => ?_⟩) hHeld ?_
            · go_simp
            simp only [List.getElem_toArray, List.getElem_cons_succ, List.getElem_cons_zero, Act.put, List.setIfInBounds_toArray, List.set_cons_zero, List.set_cons_succ]
            refine wpAnyH_take (i := 8) (v := Value.slice (some ⟨g, o, none⟩) l.length nc) rfl (by kernel_rfl) (by kernel_rfl) (by kernel_rfl) (fun _ _ _ h => h) (Or.inl ⟨rfl, fun w' hw' => ?_⟩) hHeld ?_
            · go_simp
            simp only [List.getElem_toArray, List.getElem_cons_succ, List.getElem_cons_zero, Act.put, List.setIfInBounds_toArray, List.set_cons_zero, List.set_cons_succ]
            refine wpAnyH_take (i := 9) (v := Value.int .i64 (k : Int)) rfl (by kernel_rfl) (by kernel_rfl) (by kernel_rfl) (fun _ _ _ h => h) (Or.inl ⟨rfl, fun w' hw' => ?_⟩) hHeld ?_
            · go_simp
            simp only [List.getElem_toArray, List.getElem_cons_succ, List.getElem_cons_zero, Act.put, List.setIfInBounds_toArray, List.set_cons_zero, List.set_cons_succ]
            refine wpAnyH_take (i := 10) (v := Value.slice (some ⟨g, o + k, none⟩) (l.length - k) (nc - k)) rfl (by kernel_rfl) (by kernel_rfl) (by kernel_rfl) (fun _ _ _ h => h) (Or.inl ⟨rfl, fun w' hw' => ?_⟩) hHeld ?_
            · go_simp
            simp only [List.getElem_toArray, List.getElem_cons_succ, List.getElem_cons_zero, Act.put, List.setIfInBounds_toArray, List.set_cons_zero, List.set_cons_succ]
            refine wpAnyH_ready (rs := [0, 6]) (by kernel_rfl) (by simp) ?_
            refine (AllReadyH.cons rfl (fun K hK => ?_) (AllReadyH.cons rfl (fun K hK => ?_) AllReadyH.nil))
            · skip
              go_simp
              have HS0a : Hid (Below w.heap.size w (X.alloc (.cells #[] 9))) := HS0.out.alloc HS0.out.size _
              have HO0 := Lib.hid (OwnN.lit w.heap.size X HS0.out.size)
              refine hK.out _ _ HS0a.out (fun hHeld => ?_)
              clear hK K
              try simp only [List.getElem_toArray, List.getElem_cons_succ, List.getElem_cons_zero, Act.put, List.setIfInBounds_toArray, List.set_cons_zero, List.set_cons_succ]
              generalize X.alloc (.cells #[] 9) = w0 at HS0a HO0 hHeld ⊢
              have hg0 : w.heap.size ≤ X.heap.size := HS0.out.size
              have hgl0 : X.heap.size < w0.heap.size := (HO0.out.lt rfl).2
              have HS0 := HS0a
              obtain ⟨g0, hg0e⟩ : ∃ g0, g0 = X.heap.size := ⟨_, rfl⟩
              rw [← hg0e] at HO0 hg0 hgl0
              simp only [← hg0e]
              have HG0 := Lib.hid hg0e
              clear hg0e
              refine wpAnyH_ready (rs := [4, 6]) (by kernel_rfl) (by simp) ?_
              refine (AllReadyH.cons rfl (fun K hK => ?_) (AllReadyH.cons rfl (fun K hK => ?_) AllReadyH.nil))
              · skip
                refine wp_appNs (S := S) (Operand.tmp 24) (Operand.tmp 27) rfl w.heap.size g0 0 (by go_simp) HO0.out _ (l.take k) rfl ((HN.out.keeps (Keeps.of_below HS0.out)).take k hkl) (by rw [List.length_take]; omega) HS0.out.size ?_
                intro v' w4 hown4 hg4
                have HS4 : Hid (Below w.heap.size w w4) := HS0.out.grown hg4 HS0.out.size (fun x hx => by injection hx with hx; subst hx; exact hg0)
                have HO4 := Lib.hid hown4
                obtain ⟨ao4, ac4, rfl⟩ := own_form hown4
                clear hown4 hg4
                refine hK.out _ _ HS4.out (fun hHeld => ?_)
                clear hK K
                try simp only [List.getElem_toArray, List.getElem_cons_succ, List.getElem_cons_zero, Act.put, List.setIfInBounds_toArray, List.set_cons_zero, List.set_cons_succ]
                refine wpAnyH_ready (rs := [6]) (by kernel_rfl) (by simp) ?_
                refine (AllReadyH.cons rfl (fun K hK => ?_) AllReadyH.nil)
                go_simp
                have HS6a : Hid (Below w.heap.size w (w4.alloc (.cells #[.string s] 9))) := HS4.out.alloc HS4.out.size _
                have HC6 : Hid ((w4.alloc (.cells #[.string s] 9)).cell? ⟨w4.heap.size, 0, none⟩ = some (.string s)) := (by show _ = _; rw [Lib.cell_of_heap (alloc_at _ _)]; rfl)
                have A6 := Lib.hid ((Below.refl w4.heap.size w4).alloc (Nat.le_refl _) (.cells #[.string s] 9))
                have HO4b := Lib.hid (HO4.out.below A6.out)
                refine hK.out _ _ HS6a.out (fun hHeld => ?_)
                clear hK K
                try simp only [List.getElem_toArray, List.getElem_cons_succ, List.getElem_cons_zero, Act.put, List.setIfInBounds_toArray, List.set_cons_zero, List.set_cons_succ]
                generalize w4.alloc (.cells #[.string s] 9) = w6 at HS6a HC6 A6 HO4b hHeld ⊢
                have hg6 : w4.heap.size < w6.heap.size := (World.block_lt_of_cell? w6 ⟨w4.heap.size, 0, none⟩ HC6.out)
                have HS6 := HS6a
                obtain ⟨g6, hg6e⟩ : ∃ g6, g6 = w4.heap.size := ⟨_, rfl⟩
                rw [← hg6e] at HC6 hg6
                simp only [← hg6e]
                clear hg6e
                refine wpAnyH_ready (rs := [7]) (by kernel_rfl) (by simp) ?_
                refine (AllReadyH.cons rfl (fun K hK => ?_) AllReadyH.nil)
                refine wp_appN1 (Operand.tmp 28) (Operand.tmp 30) rfl w.heap.size (.slice ao4 (l.take k).length ac4) (l.take k) (by go_simp) HO4b.out g6 (by go_simp) s HC6.out (by rw [List.length_take]; omega) HS6.out.size ?_
                intro v' w7 hown7 hg7
                have HS7 : Hid (Below w.heap.size w w7) := HS6.out.grown hg7 HS6.out.size (fun x hx => (HO4b.out.lt hx).1)
                have HO7 := Lib.hid hown7
                obtain ⟨ao7, ac7, rfl⟩ := own_form hown7
                clear hown7 hg7
                refine hK.out _ _ HS7.out (fun hHeld => ?_)
                clear hK K
                try simp only [List.getElem_toArray, List.getElem_cons_succ, List.getElem_cons_zero, Act.put, List.setIfInBounds_toArray, List.set_cons_zero, List.set_cons_succ]
                refine wpAnyH_ready (rs := [11]) (by kernel_rfl) (by simp) ?_
                refine (AllReadyH.cons rfl (fun K hK => ?_) AllReadyH.nil)
                refine wp_appNm (S := S) (Operand.tmp 31) (Operand.tmp 34) rfl w.heap.size (.slice ao7 (l.take k ++ [s]).length ac7) (l.take k ++ [s]) (by go_simp) HO7.out (by simp) _ (l.drop k) (by go_simp) ((HN.out.keeps (Keeps.of_below HS7.out)).drop k hkl (o + k) (nc - k) hod (by omega)) (by simp; omega) HS7.out.size ?_
                intro v' w11 hown11 hg11
                have HS11 : Hid (Below w.heap.size w w11) := HS7.out.grown hg11 HS7.out.size (fun x hx => (HO7.out.lt hx).1)
                have HFIN := Lib.hid (HRES.out v' w11 hown11 HS11.out)
                obtain ⟨n9, hn9⟩ : ∃ n9, n9 = ((l.take k ++ [s]) ++ (l.drop k)).length := ⟨_, rfl⟩
                obtain ⟨ao9, ac9, e9⟩ := own_form hown11
                rw [← hn9] at e9
                subst e9
                clear hown11 hg11 hn9
                refine hK.out _ _ HS11.out (fun hHeld => ?_)
                clear hK K
                try simp only [List.getElem_toArray, List.getElem_cons_succ, List.getElem_cons_zero, Act.put, List.setIfInBounds_toArray, List.set_cons_zero, List.set_cons_succ]
                refine wpAnyH_take (i := 12) (v := Value.slice ao9 n9 ac9) rfl (by kernel_rfl) (by kernel_rfl) (by kernel_rfl) (fun _ _ _ h => h) (Or.inl ⟨rfl, fun w' hw' => ?_⟩) hHeld ?_
                · go_simp
                simp only [List.getElem_toArray, List.getElem_cons_succ, List.getElem_cons_zero, Act.put, List.setIfInBounds_toArray, List.set_cons_zero, List.set_cons_succ]
                refine wpAnyH_done (by kernel_rfl) ?_ _
                refine NoPanic.normal ?_
                clear hHeld
                go_wp2_with fail
                go_ret
                exact HFIN.out
              · skip
                go_simp
                have HS6a : Hid (Below w.heap.size w (w0.alloc (.cells #[.string s] 9))) := HS0.out.alloc HS0.out.size _
                have HC6 : Hid ((w0.alloc (.cells #[.string s] 9)).cell? ⟨w0.heap.size, 0, none⟩ = some (.string s)) := (by show _ = _; rw [Lib.cell_of_heap (alloc_at _ _)]; rfl)
                have A6 := Lib.hid ((Below.refl w0.heap.size w0).alloc (Nat.le_refl _) (.cells #[.string s] 9))
                have HO0b := Lib.hid (HO0.out.below A6.out)
                refine hK.out _ _ HS6a.out (fun hHeld => ?_)
                clear hK K
                try simp only [List.getElem_toArray, List.getElem_cons_succ, List.getElem_cons_zero, Act.put, List.setIfInBounds_toArray, List.set_cons_zero, List.set_cons_succ]
                generalize w0.alloc (.cells #[.string s] 9) = w6 at HS6a HC6 A6 HO0b hHeld ⊢
                have hg6 : w0.heap.size < w6.heap.size := (World.block_lt_of_cell? w6 ⟨w0.heap.size, 0, none⟩ HC6.out)
                have HS6 := HS6a
                obtain ⟨g6, hg6e⟩ : ∃ g6, g6 = w0.heap.size := ⟨_, rfl⟩
                rw [← hg6e] at HC6 hg6
                simp only [← hg6e]
                have hne : g6 ≠ g0 := by omega
                clear hg6e
                refine wpAnyH_ready (rs := [4]) (by kernel_rfl) (by simp) ?_
                refine (AllReadyH.cons rfl (fun K hK => ?_) AllReadyH.nil)
                refine wp_appNs (S := S) (Operand.tmp 24) (Operand.tmp 27) rfl w.heap.size g0 0 (by go_simp) HO0b.out _ (l.take k) rfl ((HN.out.keeps (Keeps.of_below HS6.out)).take k hkl) (by rw [List.length_take]; omega) HS6.out.size ?_
                intro v' w4 hown4 hg4
                have HS4 : Hid (Below w.heap.size w w4) := HS6.out.grown hg4 HS6.out.size (fun x hx => by injection hx with hx; subst hx; exact hg0)
                have HO4 := Lib.hid hown4
                obtain ⟨ao4, ac4, rfl⟩ := own_form hown4
                have HC6b : Hid (w4.cell? ⟨g6, 0, none⟩ = some (.string s)) := (World.cell?_of_block (a := ⟨g6, 0, none⟩) (hg4.block g6 hg6 (fun e => by injection e with e; exact hne e))).trans HC6.out
                clear hown4 hg4
                refine hK.out _ _ HS4.out (fun hHeld => ?_)
                clear hK K
                try simp only [List.getElem_toArray, List.getElem_cons_succ, List.getElem_cons_zero, Act.put, List.setIfInBounds_toArray, List.set_cons_zero, List.set_cons_succ]
                refine wpAnyH_ready (rs := [7]) (by kernel_rfl) (by simp) ?_
                refine (AllReadyH.cons rfl (fun K hK => ?_) AllReadyH.nil)
                refine wp_appN1 (Operand.tmp 28) (Operand.tmp 30) rfl w.heap.size (.slice ao4 (l.take k).length ac4) (l.take k) (by go_simp) HO4.out g6 (by go_simp) s HC6b.out (by rw [List.length_take]; omega) HS4.out.size ?_
                intro v' w7 hown7 hg7
                have HS7 : Hid (Below w.heap.size w w7) := HS4.out.grown hg7 HS4.out.size (fun x hx => (HO4.out.lt hx).1)
                have HO7 := Lib.hid hown7
                obtain ⟨ao7, ac7, rfl⟩ := own_form hown7
                clear hown7 hg7
                refine hK.out _ _ HS7.out (fun hHeld => ?_)
                clear hK K
                try simp only [List.getElem_toArray, List.getElem_cons_succ, List.getElem_cons_zero, Act.put, List.setIfInBounds_toArray, List.set_cons_zero, List.set_cons_succ]
                refine wpAnyH_ready (rs := [11]) (by kernel_rfl) (by simp) ?_
                refine (AllReadyH.cons rfl (fun K hK => ?_) AllReadyH.nil)
                refine wp_appNm (S := S) (Operand.tmp 31) (Operand.tmp 34) rfl w.heap.size (.slice ao7 (l.take k ++ [s]).length ac7) (l.take k ++ [s]) (by go_simp) HO7.out (by simp) _ (l.drop k) (by go_simp) ((HN.out.keeps (Keeps.of_below HS7.out)).drop k hkl (o + k) (nc - k) hod (by omega)) (by simp; omega) HS7.out.size ?_
                intro v' w11 hown11 hg11
                have HS11 : Hid (Below w.heap.size w w11) := HS7.out.grown hg11 HS7.out.size (fun x hx => (HO7.out.lt hx).1)
                have HFIN := Lib.hid (HRES.out v' w11 hown11 HS11.out)
                obtain ⟨n9, hn9⟩ : ∃ n9, n9 = ((l.take k ++ [s]) ++ (l.drop k)).length := ⟨_, rfl⟩
                obtain ⟨ao9, ac9, e9⟩ := own_form hown11
                rw [← hn9] at e9
                subst e9
                clear hown11 hg11 hn9
                refine hK.out _ _ HS11.out (fun hHeld => ?_)
                clear hK K
                try simp only [List.getElem_toArray, List.getElem_cons_succ, List.getElem_cons_zero, Act.put, List.setIfInBounds_toArray, List.set_cons_zero, List.set_cons_succ]
                refine wpAnyH_take (i := 12) (v := Value.slice ao9 n9 ac9) rfl (by kernel_rfl) (by kernel_rfl) (by kernel_rfl) (fun _ _ _ h => h) (Or.inl ⟨rfl, fun w' hw' => ?_⟩) hHeld ?_
                · go_simp
                simp only [List.getElem_toArray, List.getElem_cons_succ, List.getElem_cons_zero, Act.put, List.setIfInBounds_toArray, List.set_cons_zero, List.set_cons_succ]
                refine wpAnyH_done (by kernel_rfl) ?_ _
                refine NoPanic.normal ?_
                clear hHeld
                go_wp2_with fail
                go_ret
                exact HFIN.out
            · skip
              go_simp
              have HS6a : Hid (Below w.heap.size w (X.alloc (.cells #[.string s] 9))) := HS0.out.alloc HS0.out.size _
              have HC6 : Hid ((X.alloc (.cells #[.string s] 9)).cell? ⟨X.heap.size, 0, none⟩ = some (.string s)) := (by show _ = _; rw [Lib.cell_of_heap (alloc_at _ _)]; rfl)
              have A6 := Lib.hid ((Below.refl X.heap.size X).alloc (Nat.le_refl _) (.cells #[.string s] 9))
              refine hK.out _ _ HS6a.out (fun hHeld => ?_)
              clear hK K
              try simp only [List.getElem_toArray, List.getElem_cons_succ, List.getElem_cons_zero, Act.put, List.setIfInBounds_toArray, List.set_cons_zero, List.set_cons_succ]
              generalize X.alloc (.cells #[.string s] 9) = w6 at HS6a HC6 A6 hHeld ⊢
              have hg6 : X.heap.size < w6.heap.size := (World.block_lt_of_cell? w6 ⟨X.heap.size, 0, none⟩ HC6.out)
              have HS6 := HS6a
              obtain ⟨g6, hg6e⟩ : ∃ g6, g6 = X.heap.size := ⟨_, rfl⟩
              rw [← hg6e] at HC6 hg6
              simp only [← hg6e]
              clear hg6e
              refine wpAnyH_ready (rs := [0]) (by kernel_rfl) (by simp) ?_
              refine (AllReadyH.cons rfl (fun K hK => ?_) AllReadyH.nil)
              go_simp
              have HS0a : Hid (Below w.heap.size w (w6.alloc (.cells #[] 9))) := HS6.out.alloc HS6.out.size _
              have HO0 := Lib.hid (OwnN.lit w.heap.size w6 HS6.out.size)
              have HC60 : Hid ((w6.alloc (.cells #[] 9)).cell? ⟨g6, 0, none⟩ = some (.string s)) := cell_below ((Below.refl w6.heap.size w6).alloc (Nat.le_refl _) _) HC6.out
              have hg60 : g6 < (w6.alloc (.cells #[] 9)).heap.size := World.block_lt_of_cell? _ ⟨g6, 0, none⟩ HC60.out
              refine hK.out _ _ HS0a.out (fun hHeld => ?_)
              clear hK K
              try simp only [List.getElem_toArray, List.getElem_cons_succ, List.getElem_cons_zero, Act.put, List.setIfInBounds_toArray, List.set_cons_zero, List.set_cons_succ]
              generalize w6.alloc (.cells #[] 9) = w0 at HS0a HO0 HC60 hg60 hHeld ⊢
              have hg0 : w.heap.size ≤ w6.heap.size := HS6.out.size
              have hgl0 : w6.heap.size < w0.heap.size := (HO0.out.lt rfl).2
              have HS0 := HS0a
              obtain ⟨g0, hg0e⟩ : ∃ g0, g0 = w6.heap.size := ⟨_, rfl⟩
              rw [← hg0e] at HO0 hg0 hgl0
              simp only [← hg0e]
              have HG0 := Lib.hid hg0e
              have hne : g6 ≠ g0 := by have := HG0.out; omega
              clear hg0e
              refine wpAnyH_ready (rs := [4]) (by kernel_rfl) (by simp) ?_
              refine (AllReadyH.cons rfl (fun K hK => ?_) AllReadyH.nil)
              refine wp_appNs (S := S) (Operand.tmp 24) (Operand.tmp 27) rfl w.heap.size g0 0 (by go_simp) HO0.out _ (l.take k) rfl ((HN.out.keeps (Keeps.of_below HS0.out)).take k hkl) (by rw [List.length_take]; omega) HS0.out.size ?_
              intro v' w4 hown4 hg4
              have HS4 : Hid (Below w.heap.size w w4) := HS0.out.grown hg4 HS0.out.size (fun x hx => by injection hx with hx; subst hx; exact hg0)
              have HO4 := Lib.hid hown4
              obtain ⟨ao4, ac4, rfl⟩ := own_form hown4
              have HC6b : Hid (w4.cell? ⟨g6, 0, none⟩ = some (.string s)) := (World.cell?_of_block (a := ⟨g6, 0, none⟩) (hg4.block g6 hg60 (fun e => by injection e with e; exact hne e))).trans HC60.out
              clear hown4 hg4
              refine hK.out _ _ HS4.out (fun hHeld => ?_)
              clear hK K
              try simp only [List.getElem_toArray, List.getElem_cons_succ, List.getElem_cons_zero, Act.put, List.setIfInBounds_toArray, List.set_cons_zero, List.set_cons_succ]
              refine wpAnyH_ready (rs := [7]) (by kernel_rfl) (by simp) ?_
              refine (AllReadyH.cons rfl (fun K hK => ?_) AllReadyH.nil)
              refine wp_appN1 (Operand.tmp 28) (Operand.tmp 30) rfl w.heap.size (.slice ao4 (l.take k).length ac4) (l.take k) (by go_simp) HO4.out g6 (by go_simp) s HC6b.out (by rw [List.length_take]; omega) HS4.out.size ?_
              intro v' w7 hown7 hg7
              have HS7 : Hid (Below w.heap.size w w7) := HS4.out.grown hg7 HS4.out.size (fun x hx => (HO4.out.lt hx).1)
              have HO7 := Lib.hid hown7
              obtain ⟨ao7, ac7, rfl⟩ := own_form hown7
              clear hown7 hg7
              refine hK.out _ _ HS7.out (fun hHeld => ?_)
              clear hK K
              try simp only [List.getElem_toArray, List.getElem_cons_succ, List.getElem_cons_zero, Act.put, List.setIfInBounds_toArray, List.set_cons_zero, List.set_cons_succ]
              refine wpAnyH_ready (rs := [11]) (by kernel_rfl) (by simp) ?_
              refine (AllReadyH.cons rfl (fun K hK => ?_) AllReadyH.nil)
              refine wp_appNm (S := S) (Operand.tmp 31) (Operand.tmp 34) rfl w.heap.size (.slice ao7 (l.take k ++ [s]).length ac7) (l.take k ++ [s]) (by go_simp) HO7.out (by simp) _ (l.drop k) (by go_simp) ((HN.out.keeps (Keeps.of_below HS7.out)).drop k hkl (o + k) (nc - k) hod (by omega)) (by simp; omega) HS7.out.size ?_
              intro v' w11 hown11 hg11
              have HS11 : Hid (Below w.heap.size w w11) := HS7.out.grown hg11 HS7.out.size (fun x hx => (HO7.out.lt hx).1)
              have HFIN := Lib.hid (HRES.out v' w11 hown11 HS11.out)
              obtain ⟨n9, hn9⟩ : ∃ n9, n9 = ((l.take k ++ [s]) ++ (l.drop k)).length := ⟨_, rfl⟩
              obtain ⟨ao9, ac9, e9⟩ := own_form hown11
              rw [← hn9] at e9
              subst e9
              clear hown11 hg11 hn9
              refine hK.out _ _ HS11.out (fun hHeld => ?_)
              clear hK K
              try simp only [List.getElem_toArray, List.getElem_cons_succ, List.getElem_cons_zero, Act.put, List.setIfInBounds_toArray, List.set_cons_zero, List.set_cons_succ]
              refine wpAnyH_take (i := 12) (v := Value.slice ao9 n9 ac9) rfl (by kernel_rfl) (by kernel_rfl) (by kernel_rfl) (fun _ _ _ h => h) (Or.inl ⟨rfl, fun w' hw' => ?_⟩) hHeld ?_
              · go_simp
              simp only [List.getElem_toArray, List.getElem_cons_succ, List.getElem_cons_zero, Act.put, List.setIfInBounds_toArray, List.set_cons_zero, List.set_cons_succ]
              refine wpAnyH_done (by kernel_rfl) ?_ _
              refine NoPanic.normal ?_
              clear hHeld
              go_wp2_with fail
              go_ret
              exact HFIN.out
        · have q1 : decide ((k : Int) < (l.length : Int)) = false := decide_eq_false (by omega)
          have HRES := Lib.hid (HRS.out k hkl HLOW.out (fun h => absurd h hlt))
          clear HRS
          by_cases hnk : nc = k
          · subst hnk
            go_upto_region 6 with fail
            have HS0 : Hid (Below w.heap.size w w.drew) := (Below.refl _ _).drew
            refine wp_region_noPanic ?_
            refine wp_region_held_drew (S := Below w.heap.size w) (by kernel_rfl) HS0.out (fun hHeld => ?_)
            generalize w.drew = X at HS0 hHeld ⊢
            refine wpAnyH_take (i := 1) (v := Value.slice (some ⟨g, o, none⟩) l.length nc) rfl (by kernel_rfl) (by kernel_rfl) (by kernel_rfl) (fun _ _ _ h => h) (Or.inl ⟨rfl, fun w' hw' => ?_⟩) hHeld ?_
            · go_simp
            simp only [List.getElem_toArray, List.getElem_cons_succ, List.getElem_cons_zero, Act.put, List.setIfInBounds_toArray, List.set_cons_zero, List.set_cons_succ]
            refine wpAnyH_take (i := 2) (v := Value.int .i64 (nc : Int)) rfl (by kernel_rfl) (by kernel_rfl) (by kernel_rfl) (fun _ _ _ h => h) (Or.inl ⟨rfl, fun w' hw' => ?_⟩) hHeld ?_
            · go_simp
            simp only [List.getElem_toArray, List.getElem_cons_succ, List.getElem_cons_zero, Act.put, List.setIfInBounds_toArray, List.set_cons_zero, List.set_cons_succ]
            refine wpAnyH_take (i := 3) (v := Value.slice (some ⟨g, o, none⟩) nc nc) rfl (by kernel_rfl) (by kernel_rfl) (by kernel_rfl) (fun _ _ _ h => h) (Or.inl ⟨rfl, fun w' hw' => ?_⟩) hHeld ?_
            · go_simp
            simp only [List.getElem_toArray, List.getElem_cons_succ, List.getElem_cons_zero, Act.put, List.setIfInBounds_toArray, List.set_cons_zero, List.set_cons_succ]
            refine wpAnyH_take (i := 5) (v := Value.string s) rfl (by kernel_rfl) (by kernel_rfl) (by kernel_rfl) (fun _ _ _ h => h) (Or.inl ⟨rfl, fun w' hw' => ?_⟩) hHeld ?_
            · go_simp
            simp only [List.getElem_toArray, List.getElem_cons_succ, List.getElem_cons_zero, Act.put, List.setIfInBounds_toArray, List.set_cons_zero, List.set_cons_succ]
            refine wpAnyH_take (i := 8) (v := Value.slice (some ⟨g, o, none⟩) l.length nc) rfl (by kernel_rfl) (by kernel_rfl) (by kernel_rfl) (fun _ _ _ h => h) (Or.inl ⟨rfl, fun w' hw' => ?_⟩) hHeld ?_
            · go_simp
            simp only [List.getElem_toArray, List.getElem_cons_succ, List.getElem_cons_zero, Act.put, List.setIfInBounds_toArray, List.set_cons_zero, List.set_cons_succ]
            refine wpAnyH_take (i := 9) (v := Value.int .i64 (nc : Int)) rfl (by kernel_rfl) (by kernel_rfl) (by kernel_rfl) (fun _ _ _ h => h) (Or.inl ⟨rfl, fun w' hw' => ?_⟩) hHeld ?_
            · go_simp
            simp only [List.getElem_toArray, List.getElem_cons_succ, List.getElem_cons_zero, Act.put, List.setIfInBounds_toArray, List.set_cons_zero, List.set_cons_succ]
            refine wpAnyH_take (i := 10) (v := Value.slice (some ⟨g, o, none⟩) (l.length - nc) 0) rfl (by kernel_rfl) (by kernel_rfl) (by kernel_rfl) (fun _ _ _ h => h) (Or.inl ⟨rfl, fun w' hw' => ?_⟩) hHeld ?_
            · go_simp
            simp only [List.getElem_toArray, List.getElem_cons_succ, List.getElem_cons_zero, Act.put, List.setIfInBounds_toArray, List.set_cons_zero, List.set_cons_succ]
            refine wpAnyH_ready (rs := [0, 6]) (by kernel_rfl) (by simp) ?_
            refine (AllReadyH.cons rfl (fun K hK => ?_) (AllReadyH.cons rfl (fun K hK => ?_) AllReadyH.nil))
            · skip
              go_simp
              have HS0a : Hid (Below w.heap.size w (X.alloc (.cells #[] 9))) := HS0.out.alloc HS0.out.size _
              have HO0 := Lib.hid (OwnN.lit w.heap.size X HS0.out.size)
              refine hK.out _ _ HS0a.out (fun hHeld => ?_)
              clear hK K
              try simp only [List.getElem_toArray, List.getElem_cons_succ, List.getElem_cons_zero, Act.put, List.setIfInBounds_toArray, List.set_cons_zero, List.set_cons_succ]
              generalize X.alloc (.cells #[] 9) = w0 at HS0a HO0 hHeld ⊢
              have hg0 : w.heap.size ≤ X.heap.size := HS0.out.size
              have hgl0 : X.heap.size < w0.heap.size := (HO0.out.lt rfl).2
              have HS0 := HS0a
              obtain ⟨g0, hg0e⟩ : ∃ g0, g0 = X.heap.size := ⟨_, rfl⟩
              rw [← hg0e] at HO0 hg0 hgl0
              simp only [← hg0e]
              have HG0 := Lib.hid hg0e
              clear hg0e
              refine wpAnyH_ready (rs := [4, 6]) (by kernel_rfl) (by simp) ?_
              refine (AllReadyH.cons rfl (fun K hK => ?_) (AllReadyH.cons rfl (fun K hK => ?_) AllReadyH.nil))
              · skip
                refine wp_appNs (S := S) (Operand.tmp 24) (Operand.tmp 27) rfl w.heap.size g0 0 (by go_simp) HO0.out _ (l.take nc) rfl ((HN.out.keeps (Keeps.of_below HS0.out)).take nc hkl) (by rw [List.length_take]; omega) HS0.out.size ?_
                intro v' w4 hown4 hg4
                have HS4 : Hid (Below w.heap.size w w4) := HS0.out.grown hg4 HS0.out.size (fun x hx => by injection hx with hx; subst hx; exact hg0)
                have HO4 := Lib.hid hown4
                obtain ⟨ao4, ac4, rfl⟩ := own_form hown4
                clear hown4 hg4
                refine hK.out _ _ HS4.out (fun hHeld => ?_)
                clear hK K
                try simp only [List.getElem_toArray, List.getElem_cons_succ, List.getElem_cons_zero, Act.put, List.setIfInBounds_toArray, List.set_cons_zero, List.set_cons_succ]
                refine wpAnyH_ready (rs := [6]) (by kernel_rfl) (by simp) ?_
                refine (AllReadyH.cons rfl (fun K hK => ?_) AllReadyH.nil)
                go_simp
                have HS6a : Hid (Below w.heap.size w (w4.alloc (.cells #[.string s] 9))) := HS4.out.alloc HS4.out.size _
                have HC6 : Hid ((w4.alloc (.cells #[.string s] 9)).cell? ⟨w4.heap.size, 0, none⟩ = some (.string s)) := (by show _ = _; rw [Lib.cell_of_heap (alloc_at _ _)]; rfl)
                have A6 := Lib.hid ((Below.refl w4.heap.size w4).alloc (Nat.le_refl _) (.cells #[.string s] 9))
                have HO4b := Lib.hid (HO4.out.below A6.out)
                refine hK.out _ _ HS6a.out (fun hHeld => ?_)
                clear hK K
                try simp only [List.getElem_toArray, List.getElem_cons_succ, List.getElem_cons_zero, Act.put, List.setIfInBounds_toArray, List.set_cons_zero, List.set_cons_succ]
                generalize w4.alloc (.cells #[.string s] 9) = w6 at HS6a HC6 A6 HO4b hHeld ⊢
                have hg6 : w4.heap.size < w6.heap.size := (World.block_lt_of_cell? w6 ⟨w4.heap.size, 0, none⟩ HC6.out)
                have HS6 := HS6a
                obtain ⟨g6, hg6e⟩ : ∃ g6, g6 = w4.heap.size := ⟨_, rfl⟩
                rw [← hg6e] at HC6 hg6
                simp only [← hg6e]
                clear hg6e
                refine wpAnyH_ready (rs := [7]) (by kernel_rfl) (by simp) ?_
                refine (AllReadyH.cons rfl (fun K hK => ?_) AllReadyH.nil)
                refine wp_appN1 (Operand.tmp 28) (Operand.tmp 30) rfl w.heap.size (.slice ao4 (l.take nc).length ac4) (l.take nc) (by go_simp) HO4b.out g6 (by go_simp) s HC6.out (by rw [List.length_take]; omega) HS6.out.size ?_
                intro v' w7 hown7 hg7
                have HS7 : Hid (Below w.heap.size w w7) := HS6.out.grown hg7 HS6.out.size (fun x hx => (HO4b.out.lt hx).1)
                have HO7 := Lib.hid hown7
                obtain ⟨ao7, ac7, rfl⟩ := own_form hown7
                clear hown7 hg7
                refine hK.out _ _ HS7.out (fun hHeld => ?_)
                clear hK K
                try simp only [List.getElem_toArray, List.getElem_cons_succ, List.getElem_cons_zero, Act.put, List.setIfInBounds_toArray, List.set_cons_zero, List.set_cons_succ]
                refine wpAnyH_ready (rs := [11]) (by kernel_rfl) (by simp) ?_
                refine (AllReadyH.cons rfl (fun K hK => ?_) AllReadyH.nil)
                refine wp_appNm (S := S) (Operand.tmp 31) (Operand.tmp 34) rfl w.heap.size (.slice ao7 (l.take nc ++ [s]).length ac7) (l.take nc ++ [s]) (by go_simp) HO7.out (by simp) _ (l.drop nc) (by go_simp) ((HN.out.keeps (Keeps.of_below HS7.out)).drop nc hkl o 0 (.inl rfl) (by omega)) (by simp; omega) HS7.out.size ?_
                intro v' w11 hown11 hg11
                have HS11 : Hid (Below w.heap.size w w11) := HS7.out.grown hg11 HS7.out.size (fun x hx => (HO7.out.lt hx).1)
                have HFIN := Lib.hid (HRES.out v' w11 hown11 HS11.out)
                obtain ⟨n9, hn9⟩ : ∃ n9, n9 = ((l.take nc ++ [s]) ++ (l.drop nc)).length := ⟨_, rfl⟩
                obtain ⟨ao9, ac9, e9⟩ := own_form hown11
                rw [← hn9] at e9
                subst e9
                clear hown11 hg11 hn9
                refine hK.out _ _ HS11.out (fun hHeld => ?_)
                clear hK K
                try simp only [List.getElem_toArray, List.getElem_cons_succ, List.getElem_cons_zero, Act.put, List.setIfInBounds_toArray, List.set_cons_zero, List.set_cons_succ]
                refine wpAnyH_take (i := 12) (v := Value.slice ao9 n9 ac9) rfl (by kernel_rfl) (by kernel_rfl) (by kernel_rfl) (fun _ _ _ h => h) (Or.inl ⟨rfl, fun w' hw' => ?_⟩) hHeld ?_
                · go_simp
                simp only [List.getElem_toArray, List.getElem_cons_succ, List.getElem_cons_zero, Act.put, List.setIfInBounds_toArray, List.set_cons_zero, List.set_cons_succ]
                refine wpAnyH_done (by kernel_rfl) ?_ _
                refine NoPanic.normal ?_
                clear hHeld
                go_wp2_with fail
                go_ret
                exact HFIN.out
              · skip
                go_simp
                have HS6a : Hid (Below w.heap.size w (w0.alloc (.cells #[.string s] 9))) := HS0.out.alloc HS0.out.size _
                have HC6 : Hid ((w0.alloc (.cells #[.string s] 9)).cell? ⟨w0.heap.size, 0, none⟩ = some (.string s)) := (by show _ = _; rw [Lib.cell_of_heap (alloc_at _ _)]; rfl)
                have A6 := Lib.hid ((Below.refl w0.heap.size w0).alloc (Nat.le_refl _) (.cells #[.string s] 9))
                have HO0b := Lib.hid (HO0.out.below A6.out)
                refine hK.out _ _ HS6a.out (fun hHeld => ?_)
                clear hK K
                try simp only [List.getElem_toArray, List.getElem_cons_succ, List.getElem_cons_zero, Act.put, List.setIfInBounds_toArray, List.set_cons_zero, List.set_cons_succ]
                generalize w0.alloc (.cells #[.string s] 9) = w6 at HS6a HC6 A6 HO0b hHeld ⊢
                have hg6 : w0.heap.size < w6.heap.size := (World.block_lt_of_cell? w6 ⟨w0.heap.size, 0, none⟩ HC6.out)
                have HS6 := HS6a
                obtain ⟨g6, hg6e⟩ : ∃ g6, g6 = w0.heap.size := ⟨_, rfl⟩
                rw [← hg6e] at HC6 hg6
                simp only [← hg6e]
                have hne : g6 ≠ g0 := by omega
                clear hg6e
                refine wpAnyH_ready (rs := [4]) (by kernel_rfl) (by simp) ?_
                refine (AllReadyH.cons rfl (fun K hK => ?_) AllReadyH.nil)
                refine wp_appNs (S := S) (Operand.tmp 24) (Operand.tmp 27) rfl w.heap.size g0 0 (by go_simp) HO0b.out _ (l.take nc) rfl ((HN.out.keeps (Keeps.of_below HS6.out)).take nc hkl) (by rw [List.length_take]; omega) HS6.out.size ?_
                intro v' w4 hown4 hg4
                have HS4 : Hid (Below w.heap.size w w4) := HS6.out.grown hg4 HS6.out.size (fun x hx => by injection hx with hx; subst hx; exact hg0)
                have HO4 := Lib.hid hown4
                obtain ⟨ao4, ac4, rfl⟩ := own_form hown4
                have HC6b : Hid (w4.cell? ⟨g6, 0, none⟩ = some (.string s)) := (World.cell?_of_block (a := ⟨g6, 0, none⟩) (hg4.block g6 hg6 (fun e => by injection e with e; exact hne e))).trans HC6.out
                clear hown4 hg4
                refine hK.out _ _ HS4.out (fun hHeld => ?_)
                clear hK K
                try simp only [List.getElem_toArray, List.getElem_cons_succ, List.getElem_cons_zero, Act.put, List.setIfInBounds_toArray, List.set_cons_zero, List.set_cons_succ]
                refine wpAnyH_ready (rs := [7]) (by kernel_rfl) (by simp) ?_
                refine (AllReadyH.cons rfl (fun K hK => ?_) AllReadyH.nil)
                refine wp_appN1 (Operand.tmp 28) (Operand.tmp 30) rfl w.heap.size (.slice ao4 (l.take nc).length ac4) (l.take nc) (by go_simp) HO4.out g6 (by go_simp) s HC6b.out (by rw [List.length_take]; omega) HS4.out.size ?_
                intro v' w7 hown7 hg7
                have HS7 : Hid (Below w.heap.size w w7) := HS4.out.grown hg7 HS4.out.size (fun x hx => (HO4.out.lt hx).1)
                have HO7 := Lib.hid hown7
                obtain ⟨ao7, ac7, rfl⟩ := own_form hown7
                clear hown7 hg7
                refine hK.out _ _ HS7.out (fun hHeld => ?_)
                clear hK K
                try simp only [List.getElem_toArray, List.getElem_cons_succ, List.getElem_cons_zero, Act.put, List.setIfInBounds_toArray, List.set_cons_zero, List.set_cons_succ]
                refine wpAnyH_ready (rs := [11]) (by kernel_rfl) (by simp) ?_
                refine (AllReadyH.cons rfl (fun K hK => ?_) AllReadyH.nil)
                refine wp_appNm (S := S) (Operand.tmp 31) (Operand.tmp 34) rfl w.heap.size (.slice ao7 (l.take nc ++ [s]).length ac7) (l.take nc ++ [s]) (by go_simp) HO7.out (by simp) _ (l.drop nc) (by go_simp) ((HN.out.keeps (Keeps.of_below HS7.out)).drop nc hkl o 0 (.inl rfl) (by omega)) (by simp; omega) HS7.out.size ?_
                intro v' w11 hown11 hg11
                have HS11 : Hid (Below w.heap.size w w11) := HS7.out.grown hg11 HS7.out.size (fun x hx => (HO7.out.lt hx).1)
                have HFIN := Lib.hid (HRES.out v' w11 hown11 HS11.out)
                obtain ⟨n9, hn9⟩ : ∃ n9, n9 = ((l.take nc ++ [s]) ++ (l.drop nc)).length := ⟨_, rfl⟩
                obtain ⟨ao9, ac9, e9⟩ := own_form hown11
                rw [← hn9] at e9
                subst e9
                clear hown11 hg11 hn9
                refine hK.out _ _ HS11.out (fun hHeld => ?_)
                clear hK K
                try simp only [List.getElem_toArray, List.getElem_cons_succ, List.getElem_cons_zero, Act.put, List.setIfInBounds_toArray, List.set_cons_zero, List.set_cons_succ]
                refine wpAnyH_take (i := 12) (v := Value.slice ao9 n9 ac9) rfl (by kernel_rfl) (by kernel_rfl) (by kernel_rfl) (fun _ _ _ h => h) (Or.inl ⟨rfl, fun w' hw' => ?_⟩) hHeld ?_
                · go_simp
                simp only [List.getElem_toArray, List.getElem_cons_succ, List.getElem_cons_zero, Act.put, List.setIfInBounds_toArray, List.set_cons_zero, List.set_cons_succ]
                refine wpAnyH_done (by kernel_rfl) ?_ _
                refine NoPanic.normal ?_
                clear hHeld
                go_wp2_with fail
                go_ret
                exact HFIN.out
            · skip
              go_simp
              have HS6a : Hid (Below w.heap.size w (X.alloc (.cells #[.string s] 9))) := HS0.out.alloc HS0.out.size _
              have HC6 : Hid ((X.alloc (.cells #[.string s] 9)).cell? ⟨X.heap.size, 0, none⟩ = some (.string s)) := (by show _ = _; rw [Lib.cell_of_heap (alloc_at _ _)]; rfl)
              have A6 := Lib.hid ((Below.refl X.heap.size X).alloc (Nat.le_refl _) (.cells #[.string s] 9))
              refine hK.out _ _ HS6a.out (fun hHeld => ?_)
              clear hK K
              try simp only [List.getElem_toArray, List.getElem_cons_succ, List.getElem_cons_zero, Act.put, List.setIfInBounds_toArray, List.set_cons_zero, List.set_cons_succ]
              generalize X.alloc (.cells #[.string s] 9) = w6 at HS6a HC6 A6 hHeld ⊢
              have hg6 : X.heap.size < w6.heap.size := (World.block_lt_of_cell? w6 ⟨X.heap.size, 0, none⟩ HC6.out)
              have HS6 := HS6a
              obtain ⟨g6, hg6e⟩ : ∃ g6, g6 = X.heap.size := ⟨_, rfl⟩
              rw [← hg6e] at HC6 hg6
              simp only [← hg6e]
              clear hg6e
              refine wpAnyH_ready (rs := [0]) (by kernel_rfl) (by simp) ?_
              refine (AllReadyH.cons rfl (fun K hK => ?_) AllReadyH.nil)
              go_simp
              have HS0a : Hid (Below w.heap.size w (w6.alloc (.cells #[] 9))) := HS6.out.alloc HS6.out.size _
              have HO0 := Lib.hid (OwnN.lit w.heap.size w6 HS6.out.size)
              have HC60 : Hid ((w6.alloc (.cells #[] 9)).cell? ⟨g6, 0, none⟩ = some (.string s)) := cell_below ((Below.refl w6.heap.size w6).alloc (Nat.le_refl _) _) HC6.out
              have hg60 : g6 < (w6.alloc (.cells #[] 9)).heap.size := World.block_lt_of_cell? _ ⟨g6, 0, none⟩ HC60.out
              refine hK.out _ _ HS0a.out (fun hHeld => ?_)
              clear hK K
              try simp only [List.getElem_toArray, List.getElem_cons_succ, List.getElem_cons_zero, Act.put, List.setIfInBounds_toArray, List.set_cons_zero, List.set_cons_succ]
              generalize w6.alloc (.cells #[] 9) = w0 at HS0a HO0 HC60 hg60 hHeld ⊢
              have hg0 : w.heap.size ≤ w6.heap.size := HS6.out.size
              have hgl0 : w6.heap.size < w0.heap.size := (HO0.out.lt rfl).2
              have HS0 := HS0a
              obtain ⟨g0, hg0e⟩ : ∃ g0, g0 = w6.heap.size := ⟨_, rfl⟩
              rw [← hg0e] at HO0 hg0 hgl0
              simp only [← hg0e]
              have HG0 := Lib.hid hg0e
              have hne : g6 ≠ g0 := by have := HG0.out; omega
              clear hg0e
              refine wpAnyH_ready (rs := [4]) (by kernel_rfl) (by simp) ?_
              refine (AllReadyH.cons rfl (fun K hK => ?_) AllReadyH.nil)
              refine wp_appNs (S := S) (Operand.tmp 24) (Operand.tmp 27) rfl w.heap.size g0 0 (by go_simp) HO0.out _ (l.take nc) rfl ((HN.out.keeps (Keeps.of_below HS0.out)).take nc hkl) (by rw [List.length_take]; omega) HS0.out.size ?_
              intro v' w4 hown4 hg4
              have HS4 : Hid (Below w.heap.size w w4) := HS0.out.grown hg4 HS0.out.size (fun x hx => by injection hx with hx; subst hx; exact hg0)
              have HO4 := Lib.hid hown4
              obtain ⟨ao4, ac4, rfl⟩ := own_form hown4
              have HC6b : Hid (w4.cell? ⟨g6, 0, none⟩ = some (.string s)) := (World.cell?_of_block (a := ⟨g6, 0, none⟩) (hg4.block g6 hg60 (fun e => by injection e with e; exact hne e))).trans HC60.out
              clear hown4 hg4
              refine hK.out _ _ HS4.out (fun hHeld => ?_)
              clear hK K
              try simp only [List.getElem_toArray, List.getElem_cons_succ, List.getElem_cons_zero, Act.put, List.setIfInBounds_toArray, List.set_cons_zero, List.set_cons_succ]
              refine wpAnyH_ready (rs := [7]) (by kernel_rfl) (by simp) ?_
              refine (AllReadyH.cons rfl (fun K hK => ?_) AllReadyH.nil)
              refine wp_appN1 (Operand.tmp 28) (Operand.tmp 30) rfl w.heap.size (.slice ao4 (l.take nc).length ac4) (l.take nc) (by go_simp) HO4.out g6 (by go_simp) s HC6b.out (by rw [List.length_take]; omega) HS4.out.size ?_
              intro v' w7 hown7 hg7
              have HS7 : Hid (Below w.heap.size w w7) := HS4.out.grown hg7 HS4.out.size (fun x hx => (HO4.out.lt hx).1)
              have HO7 := Lib.hid hown7
              obtain ⟨ao7, ac7, rfl⟩ := own_form hown7
              clear hown7 hg7
              refine hK.out _ _ HS7.out (fun hHeld => ?_)
              clear hK K
              try simp only [List.getElem_toArray, List.getElem_cons_succ, List.getElem_cons_zero, Act.put, List.setIfInBounds_toArray, List.set_cons_zero, List.set_cons_succ]
              refine wpAnyH_ready (rs := [11]) (by kernel_rfl) (by simp) ?_
              refine (AllReadyH.cons rfl (fun K hK => ?_) AllReadyH.nil)
              refine wp_appNm (S := S) (Operand.tmp 31) (Operand.tmp 34) rfl w.heap.size (.slice ao7 (l.take nc ++ [s]).length ac7) (l.take nc ++ [s]) (by go_simp) HO7.out (by simp) _ (l.drop nc) (by go_simp) ((HN.out.keeps (Keeps.of_below HS7.out)).drop nc hkl o 0 (.inl rfl) (by omega)) (by simp; omega) HS7.out.size ?_
              intro v' w11 hown11 hg11
              have HS11 : Hid (Below w.heap.size w w11) := HS7.out.grown hg11 HS7.out.size (fun x hx => (HO7.out.lt hx).1)
              have HFIN := Lib.hid (HRES.out v' w11 hown11 HS11.out)
              obtain ⟨n9, hn9⟩ : ∃ n9, n9 = ((l.take nc ++ [s]) ++ (l.drop nc)).length := ⟨_, rfl⟩
              obtain ⟨ao9, ac9, e9⟩ := own_form hown11
              rw [← hn9] at e9
              subst e9
              clear hown11 hg11 hn9
              refine hK.out _ _ HS11.out (fun hHeld => ?_)
              clear hK K
              try simp only [List.getElem_toArray, List.getElem_cons_succ, List.getElem_cons_zero, Act.put, List.setIfInBounds_toArray, List.set_cons_zero, List.set_cons_succ]
              refine wpAnyH_take (i := 12) (v := Value.slice ao9 n9 ac9) rfl (by kernel_rfl) (by kernel_rfl) (by kernel_rfl) (fun _ _ _ h => h) (Or.inl ⟨rfl, fun w' hw' => ?_⟩) hHeld ?_
              · go_simp
              simp only [List.getElem_toArray, List.getElem_cons_succ, List.getElem_cons_zero, Act.put, List.setIfInBounds_toArray, List.set_cons_zero, List.set_cons_succ]
              refine wpAnyH_done (by kernel_rfl) ?_ _
              refine NoPanic.normal ?_
              clear hHeld
              go_wp2_with fail
              go_ret
              exact HFIN.out
          · have hod : nc - k = 0 ∨ o + k = o + k := .inr rfl
            have hknc : k ≤ nc := by omega
            go_upto_region 6 with fail
            have HS0 : Hid (Below w.heap.size w w.drew) := (Below.refl _ _).drew
            refine wp_region_noPanic ?_
            refine wp_region_held_drew (S := Below w.heap.size w) (by kernel_rfl) HS0.out (fun hHeld => ?_)
            generalize w.drew = X at HS0 hHeld ⊢
            refine wpAnyH_take (i := 1) (v := Value.slice (some ⟨g, o, none⟩) l.length nc) rfl (by kernel_rfl) (by kernel_rfl) (by kernel_rfl) (fun _ _ _ h => h) (Or.inl ⟨rfl, fun w' hw' => ?_⟩) hHeld ?_
            · go_simp
            simp only [List.getElem_toArray, List.getElem_cons_succ, List.getElem_cons_zero, Act.put, List.setIfInBounds_toArray, List.set_cons_zero, List.set_cons_succ]
            refine wpAnyH_take (i := 2) (v := Value.int .i64 (k : Int)) rfl (by kernel_rfl) (by kernel_rfl) (by kernel_rfl) (fun _ _ _ h => h) (Or.inl ⟨rfl, fun w' hw' => ?_⟩) hHeld ?_
            · go_simp
            simp only [List.getElem_toArray, List.getElem_cons_succ, List.getElem_cons_zero, Act.put, List.setIfInBounds_toArray, List.set_cons_zero, List.set_cons_succ]
            refine wpAnyH_take (i := 3) (v := Value.slice (some ⟨g, o, none⟩) k nc) rfl (by kernel_rfl) (by kernel_rfl) (by kernel_rfl) (fun _ _ _ h => h) (Or.inl ⟨rfl, fun w' hw' => ?_⟩) hHeld ?_
            · go_simp
            simp only [List.getElem_toArray, List.getElem_cons_succ, List.getElem_cons_zero, Act.put, List.setIfInBounds_toArray, List.set_cons_zero, List.set_cons_succ]
            refine wpAnyH_take (i := 5) (v := Value.string s) rfl (by kernel_rfl) (by kernel_rfl) (by kernel_rfl) (fun _ _ _ h => h) (Or.inl ⟨rfl, fun w' hw' => ?_⟩) hHeld ?_
            · go_simp
            simp only [List.getElem_toArray, List.getElem_cons_succ, List.getElem_cons_zero, Act.put, List.setIfInBounds_toArray, List.set_cons_zero, List.set_cons_succ]
            refine wpAnyH_take (i := 8) (v := Value.slice (some ⟨g, o, none⟩) l.length nc) rfl (by kernel_rfl) (by kernel_rfl) (by kernel_rfl) (fun _ _ _ h => h) (Or.inl ⟨rfl, fun w' hw' => ?_⟩) hHeld ?_
            · go_simp
            simp only [List.getElem_toArray, List.getElem_cons_succ, List.getElem_cons_zero, Act.put, List.setIfInBounds_toArray, List.set_cons_zero, List.set_cons_succ]
            refine wpAnyH_take (i := 9) (v := Value.int .i64 (k : Int)) rfl (by kernel_rfl) (by kernel_rfl) (by kernel_rfl) (fun _ _ _ h => h) (Or.inl ⟨rfl, fun w' hw' => ?_⟩) hHeld ?_
            · go_simp
            simp only [List.getElem_toArray, List.getElem_cons_succ, List.getElem_cons_zero, Act.put, List.setIfInBounds_toArray, List.set_cons_zero, List.set_cons_succ]
            refine wpAnyH_take (i := 10) (v := Value.slice (some ⟨g, o + k, none⟩) (l.length - k) (nc - k)) rfl (by kernel_rfl) (by kernel_rfl) (by kernel_rfl) (fun _ _ _ h => h) (Or.inl ⟨rfl, fun w' hw' => ?_⟩) hHeld ?_
            · go_simp
            simp only [List.getElem_toArray, List.getElem_cons_succ, List.getElem_cons_zero, Act.put, List.setIfInBounds_toArray, List.set_cons_zero, List.set_cons_succ]
            refine wpAnyH_ready (rs := [0, 6]) (by kernel_rfl) (by simp) ?_
            refine (AllReadyH.cons rfl (fun K hK => ?_) (AllReadyH.cons rfl (fun K hK => ?_) AllReadyH.nil))
            · skip
              go_simp
              have HS0a : Hid (Below w.heap.size w (X.alloc (.cells #[] 9))) := HS0.out.alloc HS0.out.size _
              have HO0 := Lib.hid (OwnN.lit w.heap.size X HS0.out.size)
              refine hK.out _ _ HS0a.out (fun hHeld => ?_)
              clear hK K
              try simp only [List.getElem_toArray, List.getElem_cons_succ, List.getElem_cons_zero, Act.put, List.setIfInBounds_toArray, List.set_cons_zero, List.set_cons_succ]
              generalize X.alloc (.cells #[] 9) = w0 at HS0a HO0 hHeld ⊢
              have hg0 : w.heap.size ≤ X.heap.size := HS0.out.size
              have hgl0 : X.heap.size < w0.heap.size := (HO0.out.lt rfl).2
              have HS0 := HS0a
              obtain ⟨g0, hg0e⟩ : ∃ g0, g0 = X.heap.size := ⟨_, rfl⟩
              rw [← hg0e] at HO0 hg0 hgl0
              simp only [← hg0e]
              have HG0 := Lib.hid hg0e
              clear hg0e
              refine wpAnyH_ready (rs := [4, 6]) (by kernel_rfl) (by simp) ?_
              refine (AllReadyH.cons rfl (fun K hK => ?_) (AllReadyH.cons rfl (fun K hK => ?_) AllReadyH.nil))
              · skip
                refine wp_appNs (S := S) (Operand.tmp 24) (Operand.tmp 27) rfl w.heap.size g0 0 (by go_simp) HO0.out _ (l.take k) rfl ((HN.out.keeps (Keeps.of_below HS0.out)).take k hkl) (by rw [List.length_take]; omega) HS0.out.size ?_
                intro v' w4 hown4 hg4
                have HS4 : Hid (Below w.heap.size w w4) := HS0.out.grown hg4 HS0.out.size (fun x hx => by injection hx with hx; subst hx; exact hg0)
                have HO4 := Lib.hid hown4
                obtain ⟨ao4, ac4, rfl⟩ := own_form hown4
                clear hown4 hg4
                refine hK.out _ _ HS4.out (fun hHeld => ?_)
                clear hK K
                try simp only [List.getElem_toArray, List.getElem_cons_succ, List.getElem_cons_zero, Act.put, List.setIfInBounds_toArray, List.set_cons_zero, List.set_cons_succ]
                refine wpAnyH_ready (rs := [6]) (by kernel_rfl) (by simp) ?_
                refine (AllReadyH.cons rfl (fun K hK => ?_) AllReadyH.nil)
                go_simp
                have HS6a : Hid (Below w.heap.size w (w4.alloc (.cells #[.string s] 9))) := HS4.out.alloc HS4.out.size _
                have HC6 : Hid ((w4.alloc (.cells #[.string s] 9)).cell? ⟨w4.heap.size, 0, none⟩ = some (.string s)) := (by show _ = _; rw [Lib.cell_of_heap (alloc_at _ _)]; rfl)
                have A6 := Lib.hid ((Below.refl w4.heap.size w4).alloc (Nat.le_refl _) (.cells #[.string s] 9))
                have HO4b := Lib.hid (HO4.out.below A6.out)
                refine hK.out _ _ HS6a.out (fun hHeld => ?_)
                clear hK K
                try simp only [List.getElem_toArray, List.getElem_cons_succ, List.getElem_cons_zero, Act.put, List.setIfInBounds_toArray, List.set_cons_zero, List.set_cons_succ]
                generalize w4.alloc (.cells #[.string s] 9) = w6 at HS6a HC6 A6 HO4b hHeld ⊢
                have hg6 : w4.heap.size < w6.heap.size := (World.block_lt_of_cell? w6 ⟨w4.heap.size, 0, none⟩ HC6.out)
                have HS6 := HS6a
                obtain ⟨g6, hg6e⟩ : ∃ g6, g6 = w4.heap.size := ⟨_, rfl⟩
                rw [← hg6e] at HC6 hg6
                simp only [← hg6e]
                clear hg6e
                refine wpAnyH_ready (rs := [7]) (by kernel_rfl) (by simp) ?_
                refine (AllReadyH.cons rfl (fun K hK => ?_) AllReadyH.nil)
                refine wp_appN1 (Operand.tmp 28) (Operand.tmp 30) rfl w.heap.size (.slice ao4 (l.take k).length ac4) (l.take k) (by go_simp) HO4b.out g6 (by go_simp) s HC6.out (by rw [List.length_take]; omega) HS6.out.size ?_
                intro v' w7 hown7 hg7
                have HS7 : Hid (Below w.heap.size w w7) := HS6.out.grown hg7 HS6.out.size (fun x hx => (HO4b.out.lt hx).1)
                have HO7 := Lib.hid hown7
                obtain ⟨ao7, ac7, rfl⟩ := own_form hown7
                clear hown7 hg7
                refine hK.out _ _ HS7.out (fun hHeld => ?_)
                clear hK K
                try simp only [List.getElem_toArray, List.getElem_cons_succ, List.getElem_cons_zero, Act.put, List.setIfInBounds_toArray, List.set_cons_zero, List.set_cons_succ]
                refine wpAnyH_ready (rs := [11]) (by kernel_rfl) (by simp) ?_
                refine (AllReadyH.cons rfl (fun K hK => ?_) AllReadyH.nil)
                refine wp_appNm (S := S) (Operand.tmp 31) (Operand.tmp 34) rfl w.heap.size (.slice ao7 (l.take k ++ [s]).length ac7) (l.take k ++ [s]) (by go_simp) HO7.out (by simp) _ (l.drop k) (by go_simp) ((HN.out.keeps (Keeps.of_below HS7.out)).drop k hkl (o + k) (nc - k) hod (by omega)) (by simp; omega) HS7.out.size ?_
                intro v' w11 hown11 hg11
                have HS11 : Hid (Below w.heap.size w w11) := HS7.out.grown hg11 HS7.out.size (fun x hx => (HO7.out.lt hx).1)
                have HFIN := Lib.hid (HRES.out v' w11 hown11 HS11.out)
                obtain ⟨n9, hn9⟩ : ∃ n9, n9 = ((l.take k ++ [s]) ++ (l.drop k)).length := ⟨_, rfl⟩
                obtain ⟨ao9, ac9, e9⟩ := own_form hown11
                rw [← hn9] at e9
                subst e9
                clear hown11 hg11 hn9
                refine hK.out _ _ HS11.out (fun hHeld => ?_)
                clear hK K
                try simp only [List.getElem_toArray, List.getElem_cons_succ, List.getElem_cons_zero, Act.put, List.setIfInBounds_toArray, List.set_cons_zero, List.set_cons_succ]
                refine wpAnyH_take (i := 12) (v := Value.slice ao9 n9 ac9) rfl (by kernel_rfl) (by kernel_rfl) (by kernel_rfl) (fun _ _ _ h => h) (Or.inl ⟨rfl, fun w' hw' => ?_⟩) hHeld ?_
                · go_simp
                simp only [List.getElem_toArray, List.getElem_cons_succ, List.getElem_cons_zero, Act.put, List.setIfInBounds_toArray, List.set_cons_zero, List.set_cons_succ]
                refine wpAnyH_done (by kernel_rfl) ?_ _
                refine NoPanic.normal ?_
                clear hHeld
                go_wp2_with fail
                go_ret
                exact HFIN.out
              · skip
                go_simp
                have HS6a : Hid (Below w.heap.size w (w0.alloc (.cells #[.string s] 9))) := HS0.out.alloc HS0.out.size _
                have HC6 : Hid ((w0.alloc (.cells #[.string s] 9)).cell? ⟨w0.heap.size, 0, none⟩ = some (.string s)) := (by show _ = _; rw [Lib.cell_of_heap (alloc_at _ _)]; rfl)
                have A6 := Lib.hid ((Below.refl w0.heap.size w0).alloc (Nat.le_refl _) (.cells #[.string s] 9))
                have HO0b := Lib.hid (HO0.out.below A6.out)
                refine hK.out _ _ HS6a.out (fun hHeld => ?_)
                clear hK K
                try simp only [List.getElem_toArray, List.getElem_cons_succ, List.getElem_cons_zero, Act.put, List.setIfInBounds_toArray, List.set_cons_zero, List.set_cons_succ]
                generalize w0.alloc (.cells #[.string s] 9) = w6 at HS6a HC6 A6 HO0b hHeld ⊢
                have hg6 : w0.heap.size < w6.heap.size := (World.block_lt_of_cell? w6 ⟨w0.heap.size, 0, none⟩ HC6.out)
                have HS6 := HS6a
                obtain ⟨g6, hg6e⟩ : ∃ g6, g6 = w0.heap.size := ⟨_, rfl⟩
                rw [← hg6e] at HC6 hg6
                simp only [← hg6e]
                have hne : g6 ≠ g0 := by omega
                clear hg6e
                refine wpAnyH_ready (rs := [4]) (by kernel_rfl) (by simp) ?_
                refine (AllReadyH.cons rfl (fun K hK => ?_) AllReadyH.nil)
                refine wp_appNs (S := S) (Operand.tmp 24) (Operand.tmp 27) rfl w.heap.size g0 0 (by go_simp) HO0b.out _ (l.take k) rfl ((HN.out.keeps (Keeps.of_below HS6.out)).take k hkl) (by rw [List.length_take]; omega) HS6.out.size ?_
                intro v' w4 hown4 hg4
                have HS4 : Hid (Below w.heap.size w w4) := HS6.out.grown hg4 HS6.out.size (fun x hx => by injection hx with hx; subst hx; exact hg0)
                have HO4 := Lib.hid hown4
                obtain ⟨ao4, ac4, rfl⟩ := own_form hown4
                have HC6b : Hid (w4.cell? ⟨g6, 0, none⟩ = some (.string s)) := (World.cell?_of_block (a := ⟨g6, 0, none⟩) (hg4.block g6 hg6 (fun e => by injection e with e; exact hne e))).trans HC6.out
                clear hown4 hg4
                refine hK.out _ _ HS4.out (fun hHeld => ?_)
                clear hK K
                try simp only [List.getElem_toArray, List.getElem_cons_succ, List.getElem_cons_zero, Act.put, List.setIfInBounds_toArray, List.set_cons_zero, List.set_cons_succ]
                refine wpAnyH_ready (rs := [7]) (by kernel_rfl) (by simp) ?_
                refine (AllReadyH.cons rfl (fun K hK => ?_) AllReadyH.nil)
                refine wp_appN1 (Operand.tmp 28) (Operand.tmp 30) rfl w.heap.size (.slice ao4 (l.take k).length ac4) (l.take k) (by go_simp) HO4.out g6 (by go_simp) s HC6b.out (by rw [List.length_take]; omega) HS4.out.size ?_
                intro v' w7 hown7 hg7
                have HS7 : Hid (Below w.heap.size w w7) := HS4.out.grown hg7 HS4.out.size (fun x hx => (HO4.out.lt hx).1)
                have HO7 := Lib.hid hown7
                obtain ⟨ao7, ac7, rfl⟩ := own_form hown7
                clear hown7 hg7
                refine hK.out _ _ HS7.out (fun hHeld => ?_)
                clear hK K
                try simp only [List.getElem_toArray, List.getElem_cons_succ, List.getElem_cons_zero, Act.put, List.setIfInBounds_toArray, List.set_cons_zero, List.set_cons_succ]
                refine wpAnyH_ready (rs := [11]) (by kernel_rfl) (by simp) ?_
                refine (AllReadyH.cons rfl (fun K hK => ?_) AllReadyH.nil)
                refine wp_appNm (S := S) (Operand.tmp 31) (Operand.tmp 34) rfl w.heap.size (.slice ao7 (l.take k ++ [s]).length ac7) (l.take k ++ [s]) (by go_simp) HO7.out (by simp) _ (l.drop k) (by go_simp) ((HN.out.keeps (Keeps.of_below HS7.out)).drop k hkl (o + k) (nc - k) hod (by omega)) (by simp; omega) HS7.out.size ?_
                intro v' w11 hown11 hg11
                have HS11 : Hid (Below w.heap.size w w11) := HS7.out.grown hg11 HS7.out.size (fun x hx => (HO7.out.lt hx).1)
                have HFIN := Lib.hid (HRES.out v' w11 hown11 HS11.out)
                obtain ⟨n9, hn9⟩ : ∃ n9, n9 = ((l.take k ++ [s]) ++ (l.drop k)).length := ⟨_, rfl⟩
                obtain ⟨ao9, ac9, e9⟩ := own_form hown11
                rw [← hn9] at e9
                subst e9
                clear hown11 hg11 hn9
                refine hK.out _ _ HS11.out (fun hHeld => ?_)
                clear hK K
                try simp only [List.getElem_toArray, List.getElem_cons_succ, List.getElem_cons_zero, Act.put, List.setIfInBounds_toArray, List.set_cons_zero, List.set_cons_succ]
                refine wpAnyH_take (i := 12) (v := Value.slice ao9 n9 ac9) rfl (by kernel_rfl) (by kernel_rfl) (by kernel_rfl) (fun _ _ _ h => h) (Or.inl ⟨rfl, fun w' hw' => ?_⟩) hHeld ?_
                · go_simp
                simp only [List.getElem_toArray, List.getElem_cons_succ, List.getElem_cons_zero, Act.put, List.setIfInBounds_toArray, List.set_cons_zero, List.set_cons_succ]
                refine wpAnyH_done (by kernel_rfl) ?_ _
                refine NoPanic.normal ?_
                clear hHeld
                go_wp2_with fail
                go_ret
                exact HFIN.out
            · skip
              go_simp
              have HS6a : Hid (Below w.heap.size w (X.alloc (.cells #[.string s] 9))) := HS0.out.alloc HS0.out.size _
              have HC6 : Hid ((X.alloc (.cells #[.string s] 9)).cell? ⟨X.heap.size, 0, none⟩ = some (.string s)) := (by show _ = _; rw [Lib.cell_of_heap (alloc_at _ _)]; rfl)
              have A6 := Lib.hid ((Below.refl X.heap.size X).alloc (Nat.le_refl _) (.cells #[.string s] 9))
              refine hK.out _ _ HS6a.out (fun hHeld => ?_)
              clear hK K
              try simp only [List.getElem_toArray, List.getElem_cons_succ, List.getElem_cons_zero, Act.put, List.setIfInBounds_toArray, List.set_cons_zero, List.set_cons_succ]
              generalize X.alloc (.cells #[.string s] 9) = w6 at HS6a HC6 A6 hHeld ⊢
              have hg6 : X.heap.size < w6.heap.size := (World.block_lt_of_cell? w6 ⟨X.heap.size, 0, none⟩ HC6.out)
              have HS6 := HS6a
              obtain ⟨g6, hg6e⟩ : ∃ g6, g6 = X.heap.size := ⟨_, rfl⟩
              rw [← hg6e] at HC6 hg6
              simp only [← hg6e]
              clear hg6e
              refine wpAnyH_ready (rs := [0]) (by kernel_rfl) (by simp) ?_
              refine (AllReadyH.cons rfl (fun K hK => ?_) AllReadyH.nil)
              go_simp
              have HS0a : Hid (Below w.heap.size w (w6.alloc (.cells #[] 9))) := HS6.out.alloc HS6.out.size _
              have HO0 := Lib.hid (OwnN.lit w.heap.size w6 HS6.out.size)
              have HC60 : Hid ((w6.alloc (.cells #[] 9)).cell? ⟨g6, 0, none⟩ = some (.string s)) := cell_below ((Below.refl w6.heap.size w6).alloc (Nat.le_refl _) _) HC6.out
              have hg60 : g6 < (w6.alloc (.cells #[] 9)).heap.size := World.block_lt_of_cell? _ ⟨g6, 0, none⟩ HC60.out
              refine hK.out _ _ HS0a.out (fun hHeld => ?_)
              clear hK K
              try simp only [List.getElem_toArray, List.getElem_cons_succ, List.getElem_cons_zero, Act.put, List.setIfInBounds_toArray, List.set_cons_zero, List.set_cons_succ]
              generalize w6.alloc (.cells #[] 9) = w0 at HS0a HO0 HC60 hg60 hHeld ⊢
              have hg0 : w.heap.size ≤ w6.heap.size := HS6.out.size
              have hgl0 : w6.heap.size < w0.heap.size := (HO0.out.lt rfl).2
              have HS0 := HS0a
              obtain ⟨g0, hg0e⟩ : ∃ g0, g0 = w6.heap.size := ⟨_, rfl⟩
              rw [← hg0e] at HO0 hg0 hgl0
              simp only [← hg0e]
              have HG0 := Lib.hid hg0e
              have hne : g6 ≠ g0 := by have := HG0.out; omega
              clear hg0e
              refine wpAnyH_ready (rs := [4]) (by kernel_rfl) (by simp) ?_
              refine (AllReadyH.cons rfl (fun K hK => ?_) AllReadyH.nil)
              refine wp_appNs (S := S) (Operand.tmp 24) (Operand.tmp 27) rfl w.heap.size g0 0 (by go_simp) HO0.out _ (l.take k) rfl ((HN.out.keeps (Keeps.of_below HS0.out)).take k hkl) (by rw [List.length_take]; omega) HS0.out.size ?_
              intro v' w4 hown4 hg4
              have HS4 : Hid (Below w.heap.size w w4) := HS0.out.grown hg4 HS0.out.size (fun x hx => by injection hx with hx; subst hx; exact hg0)
              have HO4 := Lib.hid hown4
              obtain ⟨ao4, ac4, rfl⟩ := own_form hown4
              have HC6b : Hid (w4.cell? ⟨g6, 0, none⟩ = some (.string s)) := (World.cell?_of_block (a := ⟨g6, 0, none⟩) (hg4.block g6 hg60 (fun e => by injection e with e; exact hne e))).trans HC60.out
              clear hown4 hg4
              refine hK.out _ _ HS4.out (fun hHeld => ?_)
              clear hK K
              try simp only [List.getElem_toArray, List.getElem_cons_succ, List.getElem_cons_zero, Act.put, List.setIfInBounds_toArray, List.set_cons_zero, List.set_cons_succ]
              refine wpAnyH_ready (rs := [7]) (by kernel_rfl) (by simp) ?_
              refine (AllReadyH.cons rfl (fun K hK => ?_) AllReadyH.nil)
              refine wp_appN1 (Operand.tmp 28) (Operand.tmp 30) rfl w.heap.size (.slice ao4 (l.take k).length ac4) (l.take k) (by go_simp) HO4.out g6 (by go_simp) s HC6b.out (by rw [List.length_take]; omega) HS4.out.size ?_
              intro v' w7 hown7 hg7
              have HS7 : Hid (Below w.heap.size w w7) := HS4.out.grown hg7 HS4.out.size (fun x hx => (HO4.out.lt hx).1)
              have HO7 := Lib.hid hown7
              obtain ⟨ao7, ac7, rfl⟩ := own_form hown7
              clear hown7 hg7
              refine hK.out _ _ HS7.out (fun hHeld => ?_)
              clear hK K
              try simp only [List.getElem_toArray, List.getElem_cons_succ, List.getElem_cons_zero, Act.put, List.setIfInBounds_toArray, List.set_cons_zero, List.set_cons_succ]
              refine wpAnyH_ready (rs := [11]) (by kernel_rfl) (by simp) ?_
              refine (AllReadyH.cons rfl (fun K hK => ?_) AllReadyH.nil)
              refine wp_appNm (S := S) (Operand.tmp 31) (Operand.tmp 34) rfl w.heap.size (.slice ao7 (l.take k ++ [s]).length ac7) (l.take k ++ [s]) (by go_simp) HO7.out (by simp) _ (l.drop k) (by go_simp) ((HN.out.keeps (Keeps.of_below HS7.out)).drop k hkl (o + k) (nc - k) hod (by omega)) (by simp; omega) HS7.out.size ?_
              intro v' w11 hown11 hg11
              have HS11 : Hid (Below w.heap.size w w11) := HS7.out.grown hg11 HS7.out.size (fun x hx => (HO7.out.lt hx).1)
              have HFIN := Lib.hid (HRES.out v' w11 hown11 HS11.out)
              obtain ⟨n9, hn9⟩ : ∃ n9, n9 = ((l.take k ++ [s]) ++ (l.drop k)).length := ⟨_, rfl⟩
              obtain ⟨ao9, ac9, e9⟩ := own_form hown11
              rw [← hn9] at e9
              subst e9
              clear hown11 hg11 hn9
              refine hK.out _ _ HS11.out (fun hHeld => ?_)
              clear hK K
              try simp only [List.getElem_toArray, List.getElem_cons_succ, List.getElem_cons_zero, Act.put, List.setIfInBounds_toArray, List.set_cons_zero, List.set_cons_succ]
              refine wpAnyH_take (i := 12) (v := Value.slice ao9 n9 ac9) rfl (by kernel_rfl) (by kernel_rfl) (by kernel_rfl) (fun _ _ _ h => h) (Or.inl ⟨rfl, fun w' hw' => ?_⟩) hHeld ?_
              · go_simp
              simp only [List.getElem_toArray, List.getElem_cons_succ, List.getElem_cons_zero, Act.put, List.setIfInBounds_toArray, List.set_cons_zero, List.set_cons_succ]
              refine wpAnyH_done (by kernel_rfl) ?_ _
              refine NoPanic.normal ?_
              clear hHeld
              go_wp2_with fail
              go_ret
              exact HFIN.out
end Go.Proofs.YtmcgocbkjdacaaaDoor
