/- Read. -/
import Derived.Test.YtahdiknkcgnieaaDoorZC
namespace Go.Proofs.YtahdiknkcgnieaaDoor
open Go.RowKit
set_option linter.unusedVariables false
set_option linter.unusedSimpArgs false
set_option maxHeartbeats 4000000 in
set_option maxRecDepth 100000 in
theorem read_any (s : ByteArray) (w : World) (hs : s.size ≤ 8000) (n : Nat) (R : Rs) (hR : rd s.data.toList n .next 0 ⟨0, false, []⟩ [] = some R) :
    Calls Tryd.prog 16 #[.string s] w (RetRead w R) := by
  go_enter Tryd.func16, Tryd.ntmps16
  go_wp2_with fail
  refine wp_scope_fuel2 (Jr s w R) 5 ?_ (fun hput => ?_) (fun hall => ?_)
  · rintro n a w1 ⟨p, v, e, r, D, pc, C, ⟨f, rfl⟩, hl, hr, hst, hb, hsz, hx, hC, hd, hp, hrl, hds, hbg, hfi⟩
    cases pc with
    | put d =>
      refine ⟨_, rfl, ?_⟩
      obtain ⟨g, c, arr, lv, rfl, hnc, hcm, hBg, hg, h3, h5, hown, hgl, hDd, hnx⟩ := hst.top
      obtain ⟨k, t, mv, lw, q, rfl, o1, o2⟩ := At_form (hd d rfl)
      obtain ⟨n', rfl⟩ : ∃ n', n = n' + 1 := by cases n with | zero => cases hr | succ n => exact ⟨n, rfl⟩
      have hW0 : Below w.heap.size w w1 ∧ w.heap.size + 1 ≤ w1.heap.size ∧ Boxed w.heap.size #[.int .i64 k, .string t, mv, lw, .int .i64 q] w1 := ⟨hb, hsz, hx⟩
      have HW := Lib.hid hW0
      have hel : e.ds.length + 1 ≤ p := hds e (by simp)
      obtain ⟨m, hm⟩ : ∃ m, r.length = m := ⟨_, rfl⟩
      have FP0 := put_any (N := m + 1) (c := c) rfl (by omega) hsz hg (by rw [← hm]; exact h3) hDd hown rfl (by omega) hgl (hd d rfl)
      have FP := Lib.hid FP0
      have FI : Hid (∀ w, Calls Tryd.prog 31 #[.slice (some ⟨g, 0, none⟩) (m + 1) c] w fun e w' => e = .returned (.pointer (some ⟨g, m * 6, none⟩)) ∧ w = w') := fun w => by
        have h := inner_any g (m + 1) c w (by omega) (by omega)
        exact h
      have HNX := Lib.hid hnx
      have hr1 : (if e.q = true then (match (generalizing := false) r with | [] => none | f :: r' => rd s.data.toList n' (.put (e.add d).dt) p f r') else rd s.data.toList n' .next p (e.add d) r) = some R := hr
      have HR := Lib.hid hr1
      have HDS : Hid (∀ x, x ∈ e :: r → x.ds.length + 1 ≤ p) := hds
      have HOL : Hid (∀ x, lv.ownBlock = some x → w.heap.size < x) := fun x hx => by have := (hown.lt hx).1; omega
      rw [hm] at h5
      have HM := Lib.hid hm
      simp only [hm] at hnc ⊢
      have hgs : g < w1.heap.size := (Array.getElem?_eq_some_iff.1 hg).1
      have H5 : Hid (∀ v', (arr.setIfInBounds (m * 6 + 3) v')[m * 6 + 5]? = some (.bool e.q)) := fun v' => by
        rw [Array.getElem?_setIfInBounds_ne (by omega)]; exact h5
      clear hr hr1 hst hnx hb hsz hds FP0 hown hW0 hg h3 h5 hDd hm hd hbg hfi hel
      go_wp2_with (refine wpList_load_row rfl 40 _ rfl w.heap.size rfl 40 #[.int .i64 k, .string t, mv, lw, .int .i64 q] (0, 0) _ hx Tryd.underlying40 rfl info40 ?_)
      refine FP.out.mono ?_
      rintro e' w2 ⟨rfl, hpd⟩
      have hst2 := HNX.out d w2 (by rw [HM.out]; exact hpd)
      have HW2 := Lib.hid (put_world HW.out hpd (by omega) HOL.out)
      have hc5 : w2.cell? ⟨g, m * 6 + 5, none⟩ = some (.bool e.q) := by
        obtain ⟨v', p1, _⟩ := hpd
        rw [Lib.cell_of_heap p1]; exact H5.out v'
      have HST2 := Lib.hid hst2
      clear hst2 hpd HNX FP H5 HOL
      cases hq : e.q with
      | false =>
        rw [hq] at hc5
        go_wp2_with fail
        refine (FI.out _).mono ?_
        rintro e' w' ⟨rfl, rfl⟩
        go_wp2_with fail
        refine wp_goto ?_
        change ∃ n'', n'' < n' + 1 ∧ Jr s w R n'' 0 _ _
        have h := HR.out
        rw [if_neg (by rw [hq]; decide)] at h
        have hm := HM.out
        rw [hm] at HST2
        refine ⟨n', by omega, Jr.into p _ (e.add d) r D .next _ (Tm.intro rfl) rfl h HST2.out HW2.out rfl nofun hp hrl (fun x hx => ?_) nofun nofun⟩
        rcases List.mem_cons.1 hx with rfl | hx
        · have := HDS.out e (by simp)
          show (e.ds ++ [d]).length + 0 ≤ p
          simp; omega
        · have := HDS.out x (List.mem_cons_of_mem _ hx)
          show x.ds.length + 0 ≤ p
          omega
      | true =>
        have h := HR.out
        rw [if_pos hq] at h
        cases r with
        | nil => cases h
        | cons f2 r2 =>
          obtain ⟨g2, c2, lv2, he2, hnc2, hcm2, hBg2, o12, ⟨k0, k1, k2, k3, k4, k5⟩, D', hDD, hst3, hat⟩ := HST2.out.finish
          injection he2 with he2 _ hc2
          injection he2 with he2
          injection he2 with he2 _ _
          subst he2 hc2
          rw [hq] at hc5
          have hm := HM.out
          simp only [List.length_cons] at hm
          rw [hm] at k0 k1 k2 k3 k4 k5 hst3
          have hm60 : m ≤ 60 := by have := hrl; simp at this; omega
          have FF := Lib.hid (finished_any g (m + 1) m c w2 rfl (by omega) (by omega) hcm k0 k1 k2 k3 k4 rfl o12)
          have HR2 := Lib.hid h
          have HST := Lib.hid hst3
          have HAT := Lib.hid hat
          have HM2 := Lib.hid hm
          clear h HR hst3 hat k0 k1 k2 k3 k4 k5 hDD hm HM
          go_wp2_with fail
          refine (FI.out _).mono ?_
          rintro e' w' ⟨rfl, rfl⟩
          go_wp2_with fail
          refine FF.out.mono ?_
          rintro e' w3 ⟨rfl, hb3⟩
          have HB3 := Lib.hid hb3
          have z1 : (#[.int .i64 4, .string ⟨#[]⟩, .slice none 0 0, lv2, .int .i64 (e.add d).pl] : Array Value).all (·.oneCell') = true := by simp [Value.oneCell'] at o12 ⊢; exact o12
          have HX3 := Lib.hid (box_keep HW2.out hb3)
          clear hb3 hc5 hx
          go_wp2_with (refine wpList_store_row rfl 40 _ _ rfl w.heap.size #[.int .i64 4, .string ⟨#[]⟩, .slice none 0 0, lv2, .int .i64 (e.add d).pl] rfl rfl 40 #[.int .i64 k, .string t, mv, lw, .int .i64 q] HX3.out info40 rfl z1 ?_)
          obtain ⟨W, hW⟩ : ∃ W, W = w3.setRow w.heap.size #[.int .i64 4, .string ⟨#[]⟩, .slice none 0 0, lv2, .int .i64 (e.add d).pl] := ⟨_, rfl⟩
          obtain ⟨x1, x2, x3⟩ := box_set HW2.out HB3.out #[.int .i64 4, .string ⟨#[]⟩, .slice none 0 0, lv2, .int .i64 (e.add d).pl]
          have st := HST.out.below (HB3.out)
          have hdat := st.dat
          rw [← hW] at x1 x2 x3 ⊢
          refine wp_goto ?_
          change ∃ n'', n'' < n' + 1 ∧ Jr s w R n'' 5 _ _
          refine ⟨n', by omega, Jr.into p _ f2 r2 D' (.put (e.add d).dt) _ (Tm.intro rfl) rfl HR2.out (st.low x3 (fun x h1 h2 => x2 x h1 h2)) x1 rfl (fun d' hd => ?_) (by omega) (by have := HM2.out; omega) (fun x hx => ?_) nofun nofun⟩
          · injection hd with hd
            subst hd
            exact Dt.At.keeps (keeps_of hdat (fun x h1 h2 => x2 x h1 h2)) _ _ (Dt.At.keeps (Keeps.of_below HB3.out) _ _ HAT.out)
          · exact HDS.out x (List.mem_cons_of_mem _ hx)
    | _ => cases hl
  · rintro n l a w1 hl5 ⟨p, v, e, r, D, pc, C, ⟨f, rfl⟩, rfl, hr, hst, hb, hsz, hx, hC, hd, hp, hrl, hds, hbg, hfi⟩
    cases pc with
    | next =>
      refine ⟨_, rfl, ?_⟩
      obtain ⟨k, hk⟩ : ∃ k, gapOf false (s.data.toList.drop p) = k := ⟨_, rfl⟩
      have hkl : p + k ≤ s.size := by
        have := gapOf_le false (s.data.toList.drop p)
        rw [hk, List.length_drop, ← Lib.size_eq] at this
        omega
      obtain ⟨T, hT⟩ : ∃ T, s.extract p s.size = T := ⟨_, rfl⟩
      have hTl : T.data.toList = s.data.toList.drop p := by
        rw [← hT, Lib.extract_data, List.take_of_length_le]
        rw [List.length_drop, ← Lib.size_eq]; omega
      have FG : Hid (∀ w, Calls Tryd.prog 28 #[.string T] w fun e w' => e = .returned (.int .i64 (k : Int)) ∧ w = w') := fun w => by
        have h := gap_any T w (by rw [Lib.size_eq, hTl, List.length_drop, ← Lib.size_eq]; omega)
        rw [hTl, hk] at h
        exact h
      obtain ⟨n', rfl⟩ : ∃ n', n = n' + 1 := by cases n with | zero => cases hr | succ n => exact ⟨n, rfl⟩
      obtain ⟨q, hq⟩ : ∃ q, q = p + k := ⟨_, rfl⟩
      have hr1 := hr
      unfold rd at hr1
      rw [hk, ← hq] at hr1
      have HR := Lib.hid hr1
      have HST := Lib.hid hst
      have HW : Hid (Below w.heap.size w w1 ∧ w.heap.size + 1 ≤ w1.heap.size ∧ Boxed w.heap.size C w1) := ⟨hb, hsz, hx⟩
      have HDS : Hid (∀ x, x ∈ e :: r → x.ds.length ≤ q) := fun x hx => by have := hds x hx; simp only [] at this; omega
      have hpq : ((p : Int) + (k : Int)) = (q : Int) := by omega
      have hqs : q ≤ s.size := by omega
      clear hr hr1 hst hb hx hsz hds hd hbg hfi hk hkl hq hTl
      have J : Hid (∀ l pc a, pc.label = l → Tm s q w.heap.size v a → rd s.data.toList n' pc q e r = some R → (∀ d, pc ≠ .put d) → q < s.size ∨ pc = .stop → ∃ n'', n'' < n' + 1 ∧ Jr s w R n'' l a w1) := by
        intro l pc a hl ht hr hne hq
        refine ⟨n', by omega, Jr.into q v e r D pc C ht hl hr HST.out HW.out hC (fun d hd => absurd hd (hne d)) (by omega) (by omega) (fun x hx => ?_) (fun h => ?_) (fun h => ?_)⟩
        · have := HDS.out x hx
          cases pc with
          | put d => exact absurd rfl (hne d)
          | _ => simpa using this
        · rcases hq with h2 | h2
          · exact h2
          · rw [h] at h2; cases h2
        · rcases hq with h2 | h2
          · exact h2
          · rw [h] at h2; cases h2
      clear HST HW HDS hC hrl
      go_wp2_with fail
      refine (FG.out _).mono ?_
      rintro e' w' ⟨rfl, rfl⟩
      by_cases hqe : q = s.size
      · subst hqe
        have hnone : s.data.toList[s.size]? = none := List.getElem?_eq_none (by rw [← Lib.size_eq]; omega)
        go_wp2_with fail
        refine wp_goto ?_
        change ∃ n'', n'' < n' + 1 ∧ Jr s w R n'' 1 _ _
        have h := HR.out
        rw [hnone] at h
        exact J.out 1 .stop _ rfl (Tm.intro rfl) h nofun (.inr rfl)
      · have hql : q < s.size := by omega
        obtain ⟨b, hb⟩ : ∃ b, s[q] = b := ⟨_, rfl⟩
        have hbs := byte_at s q hql
        rw [hb] at hbs
        have c1 : ((q : Int) == (s.size : Int)) = false := by
          rw [beq_eq_false_iff_ne]; omega
        have h := HR.out
        rw [hbs] at h
        simp only [] at h
        have HR2 := Lib.hid h
        clear h HR hbs
        by_cases b1 : b = 40
        · subst b1
          go_wp2_with fail
          refine wp_goto ?_
          change ∃ n'', n'' < n' + 1 ∧ Jr s w R n'' 2 _ _
          have h := HR2.out
          rw [if_pos (.inl trivial)] at h
          exact J.out 2 .begin _ rfl (Tm.intro rfl) h nofun (.inl hql)
        by_cases b2 : b = 39
        · subst b2
          go_wp2_with fail
          refine wp_goto ?_
          change ∃ n'', n'' < n' + 1 ∧ Jr s w R n'' 2 _ _
          have h := HR2.out
          rw [if_pos (.inr trivial)] at h
          exact J.out 2 .begin _ rfl (Tm.intro rfl) h nofun (.inl hql)
        by_cases b3 : b = 41
        · subst b3
          go_wp2_with fail
          refine wp_goto ?_
          change ∃ n'', n'' < n' + 1 ∧ Jr s w R n'' 3 _ _
          have h := HR2.out
          rw [if_neg (by decide), if_pos trivial] at h
          exact J.out 3 .finish _ rfl (Tm.intro rfl) h nofun (.inl hql)
        · have d1 : ((b.toNat : Int) == 40) = false := (byte_eq b 40).trans (by simpa using b1)
          have d2 : ((b.toNat : Int) == 39) = false := (byte_eq b 39).trans (by simpa using b2)
          have d3 : ((b.toNat : Int) == 41) = false := (byte_eq b 41).trans (by simpa using b3)
          go_wp2_with fail
          refine wp_goto ?_
          change ∃ n'', n'' < n' + 1 ∧ Jr s w R n'' 4 _ _
          have h := HR2.out
          rw [if_neg (fun h => h.elim b1 b2), if_neg b3] at h
          exact J.out 4 .token _ rfl (Tm.intro rfl) h nofun (.inl hql)
    | stop =>
      refine ⟨_, rfl, ?_⟩
      obtain ⟨g, c, arr, lv, rfl, hnc, hcm, hBg, hg, h3, h5, hown, _, hDd, _⟩ := hst.top
      have FD := fun w => deep_any (some ⟨g, 0, none⟩) (r.length + 1) c w (by omega) (by omega)
      have FI := fun w => inner_any g (r.length + 1) c w (by omega) (by omega)
      rw [show (((r.length + 1 : Nat) : Int) - 1) = (r.length : Int) by omega] at FD
      rw [show r.length + 1 - 1 = r.length by omega] at FI
      obtain ⟨m, hm⟩ : ∃ m, r.length = m := ⟨_, rfl⟩
      rw [hm] at FD FI hrl h3 hnc
      have FD := Lib.hid FD
      have FI := Lib.hid FI
      have hc3 : w1.cell? ⟨g, m * 6 + 3, none⟩ = some lv := by rw [Lib.cell_of_heap hg]; exact h3
      have HM := Lib.hid hm
      simp only [hm]
      go_wp2_with fail
      refine (FD.out _).mono ?_
      rintro e' w' ⟨rfl, rfl⟩
      have hst : (if 0 < m then some (Rs.err 5 p) else some (Rs.ok e.ds)) = some R := by
        cases n with
        | zero => cases hr
        | succ n => rw [← hm]; exact hr
      have HR := Lib.hid hst
      go_wp2_with fail
      · change bodyPost _ _ _ Exit.ret _ _
        have h := HR.out
        rw [if_pos (by omega)] at h
        injection h with h
        subst h
        go_ret3
        exact ⟨hb, rfl⟩
      · refine (FI.out _).mono ?_
        rintro e' w' ⟨rfl, rfl⟩
        go_wp2_with fail
        change bodyPost _ _ _ Exit.ret _ _
        have h := HR.out
        rw [if_neg (by omega)] at h
        injection h with h
        subst h
        go_ret3
        refine ⟨hb, _, rfl, LAt.mono hown.lat (fun x hx => ?_)⟩
        rcases hx with h | h
        · have := (hDd x h).1; omega
        · have := (hown.lt h).1; omega
    | begin =>
      refine ⟨_, rfl, ?_⟩
      have hps := hbg rfl
      obtain ⟨g, c, arr, lv, hve, hnc, hcm, hBg, hg, h3, h5, hown, _, hDd, _⟩ := hst.top
      subst hve
      have hcp : w1.heap.size = w1.heap.size := rfl
      obtain ⟨m, hm⟩ : ∃ m, r.length = m := ⟨_, rfl⟩
      have FD : Hid (∀ w, Calls Tryd.prog 29 #[.slice (some ⟨g, 0, none⟩) (m + 1) c] w fun e w' => e = .returned (.int .i64 (m : Int)) ∧ w = w') := fun w => by
        have h := deep_any (some ⟨g, 0, none⟩) (m + 1) c w (by omega) (by omega)
        rw [show (((m + 1 : Nat) : Int) - 1) = (m : Int) by omega] at h
        exact h
      obtain ⟨b, hbs⟩ : ∃ b, s.data.toList[p]? = some b := ⟨s.data.toList[p]'(by rw [← Lib.size_eq]; exact hps), List.getElem?_eq_getElem _⟩
      obtain ⟨n', rfl⟩ : ∃ n', n = n' + 1 := by cases n with | zero => cases hr | succ n => exact ⟨n, rfl⟩
      have hr' : (if m = 60 then some (Rs.err 6 p) else rd s.data.toList n' .next (p + 1) ⟨p, b == 39, if (b == 39) = true then [.mk 3 qT [] [] p] else []⟩ (e :: r)) = some R := by
        rw [← hm]
        unfold rd at hr
        rw [hbs] at hr
        exact hr
      have HR := Lib.hid hr'
      have HST := Lib.hid hst
      have HB := Lib.hid hb
      simp only [hm] at hnc hrl h3 h5 ⊢
      have HM := Lib.hid hm
      have HDS := Lib.hid hds
      clear hr hr' hst hb hg h3 h5 hDd hown hds hd hbg hfi hm
      go_wp2_with fail
      refine (FD.out _).mono ?_
      rintro e' w' ⟨rfl, rfl⟩
      by_cases h60 : m = 60
      · go_wp2_with fail
        change bodyPost _ _ _ Exit.ret _ _
        have h := HR.out
        rw [if_pos h60] at h
        injection h with h
        subst h
        go_ret3
        exact ⟨HB.out, rfl⟩
      · go_wp2_with fail
        have hpl : p < s.data.toList.length := by rw [← Lib.size_eq]; exact hps
        have hb1 : s[p] = b := by
          have h1 := byte_at s p hps
          rw [h1] at hbs
          injection hbs
        rw [hb1]
        refine (opened_any b p w1 (b == 39) rfl).mono ?_
        rintro e' w2 ⟨lv2, rfl, hl2, hb2⟩
        have o2 := hl2.lat.one
        have hb3 : Below w1.heap.size w1 (w2.alloc (.cells #[.int .i64 4, .string ⟨#[]⟩, .slice none 0 0, lv2, .int .i64 p, .bool (b == 39)] 55)) := hb2.alloc hb2.size _
        have hl3 : OwnS D (w.heap.size + 1) (w2.alloc (.cells #[.int .i64 4, .string ⟨#[]⟩, .slice none 0 0, lv2, .int .i64 p, .bool (b == 39)] 55)) lv2 (if (b == 39) = true then [.mk 3 qT [] [] p] else []) :=
          ((hl2.below ((Below.refl w2.heap.size w2).alloc (Nat.le_refl _) _)).low (by omega)).mono (fun x h => h.elim)
        obtain ⟨xs, ho3, hpush⟩ := HST.out.push hb3 (f := ⟨p, b == 39, if (b == 39) = true then [.mk 3 qT [] [] p] else []⟩) hl3 (fun x hx => (hl2.lt hx).1)
        rw [HM.out] at ho3 hpush
        have HO := Lib.hid ho3
        have HN := Lib.hid hpush
        have HB3 := Lib.hid hb3
        have h2s := hb2.size
        clear ho3 hpush hb3 hl3 hl2 hb2
        go_wp2_with (refine wpList_wanted (by rfl) fun K hK => ?_; refine wp_appO (Operand.tmp 44) (Operand.tmp 50) rfl (w.heap.size + 1) (.slice (some ⟨g, 0, none⟩) (m + 1) c) (m + 1) xs rfl HO.out w2.heap.size 1 rfl [.int .i64 4, .string ⟨#[]⟩, .slice none 0 0, lv2, .int .i64 p, .bool (b == 39)] rfl (fun i u hu => by rw [Lib.cell_of_heap (alloc_at w2 (.cells #[.int .i64 4, .string ⟨#[]⟩, .slice none 0 0, lv2, .int .i64 p, .bool (b == 39)] 55))]; simpa using hu) (by simp; exact ⟨rfl, rfl, rfl, o2, rfl, rfl⟩) (by omega) (by simp; omega) ?_; intro v9 w9 hown9 hg9 hv9; have HM9 := Lib.hid (HN.out v9 w9 hown9 hg9 hv9); have HW9 := Lib.hid (push_world HB.out hsz HB3.out hg9 hBg hx); clear hown9 hg9 hv9 HN HO; refine hK _ _ ?_; clear hK K)
        refine wp_goto ?_
        change ∃ n'', n'' < n' + 1 ∧ Jr s w R n'' 0 _ _
        have h := HR.out
        rw [if_neg h60] at h
        have hm := HM.out
        refine ⟨n', by omega, Jr.into (p + 1) v9 _ (e :: r) D .next C (Tm.intro rfl) rfl h HM9.out HW9.out hC nofun (by omega) (by simp; omega) (fun x hx => ?_) nofun nofun⟩
        rcases List.mem_cons.1 hx with rfl | hx
        · simp only []; split <;> simp
        · have := HDS.out x hx; simp only [] at this ⊢; omega
    | finish =>
      refine ⟨_, rfl, ?_⟩
      have hps := hfi rfl
      obtain ⟨n', rfl⟩ : ∃ n', n = n' + 1 := by cases n with | zero => cases hr | succ n => exact ⟨n, rfl⟩
      have HW : Hid (Below w.heap.size w w1 ∧ w.heap.size + 1 ≤ w1.heap.size ∧ Boxed w.heap.size C w1) := ⟨hb, hsz, hx⟩
      cases r with
      | nil =>
        obtain ⟨g, c, arr, lv, hve, hnc, hcm, hBg, hg, h3, h5, hown, _, hDd, _⟩ := hst.top
        subst hve
        have FD : Hid (∀ w, Calls Tryd.prog 29 #[.slice (some ⟨g, 0, none⟩) 1 c] w fun e w' => e = .returned (.int .i64 0) ∧ w = w') := fun w => by
          have h := deep_any (some ⟨g, 0, none⟩) 1 c w (by omega) (by omega)
          exact h
        have hr1 : some (Rs.err 4 p) = some R := hr
        injection hr1 with hr1
        subst hr1
        clear hr hst hb hg h3 h5 hDd hown hds hd hbg hfi hsz hx
        simp only [List.length_nil, Nat.zero_add] at hnc ⊢
        go_wp2_with fail
        refine (FD.out _).mono ?_
        rintro e' w' ⟨rfl, rfl⟩
        go_wp2_with fail
        change bodyPost _ _ _ Exit.ret _ _
        go_ret3
        exact ⟨HW.out.1, rfl⟩
      | cons f2 r2 =>
        obtain ⟨g, c, lv, rfl, hnc, hcm, hBg, o1, ⟨k0, k1, k2, k3, k4, k5⟩, D', hDD, hst2, hat⟩ := hst.finish
        obtain ⟨m, hm⟩ : ∃ m, r2.length + 1 = m := ⟨_, rfl⟩
        rw [hm] at hnc k0 k1 k2 k3 k4 k5 hst2
        have hm60 : m ≤ 60 := by simp at hrl; omega
        have FD : Hid (∀ w, Calls Tryd.prog 29 #[.slice (some ⟨g, 0, none⟩) (m + 1) c] w fun e w' => e = .returned (.int .i64 (m : Int)) ∧ w = w') := fun w => by
          have h := deep_any (some ⟨g, 0, none⟩) (m + 1) c w (by omega) (by omega)
          rw [show (((m + 1 : Nat) : Int) - 1) = (m : Int) by omega] at h
          exact h
        have FI : Hid (∀ w, Calls Tryd.prog 31 #[.slice (some ⟨g, 0, none⟩) (m + 1) c] w fun e w' => e = .returned (.pointer (some ⟨g, m * 6, none⟩)) ∧ w = w') := fun w => by
          have h := inner_any g (m + 1) c w (by omega) (by omega)
          exact h
        have c0 : ((m : Int) == 0) = false := by rw [beq_eq_false_iff_ne]; omega
        have FF := Lib.hid (finished_any g (m + 1) m c w1 rfl (by omega) hnc hcm k0 k1 k2 k3 k4 rfl o1)
        have hr1 : (if e.q = true then some (Rs.err 4 p) else rd s.data.toList n' (.put e.dt) (p + 1) f2 r2) = some R := hr
        have HR := Lib.hid hr1
        have HST := Lib.hid hst2
        have HAT := Lib.hid hat
        have HDS := Lib.hid hds
        have HM := Lib.hid hm
        clear hr hr1 hst hst2 hat hb hds hd hbg hfi hsz hx k0 k1 k2 k3 k4 hDD
        simp only [hm]
        clear hm
        cases hq : e.q with
        | true =>
          rw [hq] at k5
          go_wp2_with fail
          refine (FD.out _).mono ?_
          rintro e' w' ⟨rfl, rfl⟩
          go_wp2_with fail
          refine (FI.out _).mono ?_
          rintro e' w' ⟨rfl, rfl⟩
          go_wp2_with fail
          change bodyPost _ _ _ Exit.ret _ _
          have h := HR.out
          rw [if_pos hq] at h
          injection h with h
          subst h
          go_ret3
          exact ⟨HW.out.1, rfl⟩
        | false =>
          rw [hq] at k5
          go_wp2_with fail
          refine (FD.out _).mono ?_
          rintro e' w' ⟨rfl, rfl⟩
          go_wp2_with fail
          refine (FI.out _).mono ?_
          rintro e' w' ⟨rfl, rfl⟩
          go_wp2_with fail
          refine FF.out.mono ?_
          rintro e' w2 ⟨rfl, hb2⟩
          have HB2 := Lib.hid hb2
          have z1 : (#[.int .i64 4, .string ⟨#[]⟩, .slice none 0 0, lv, .int .i64 e.pl] : Array Value).all (·.oneCell') = true := by simp [Value.oneCell'] at o1 ⊢; exact o1
          have HX := Lib.hid (box_keep HW.out hb2)
          clear hb2 k5
          go_wp2_with (refine wpList_store_row rfl 40 _ _ rfl w.heap.size #[.int .i64 4, .string ⟨#[]⟩, .slice none 0 0, lv, .int .i64 e.pl] rfl rfl 40 C HX.out info40 hC z1 ?_)
          obtain ⟨W, hW⟩ : ∃ W, W = w2.setRow w.heap.size #[.int .i64 4, .string ⟨#[]⟩, .slice none 0 0, lv, .int .i64 e.pl] := ⟨_, rfl⟩
          obtain ⟨x1, x2, x3⟩ := box_set HW.out HB2.out #[.int .i64 4, .string ⟨#[]⟩, .slice none 0 0, lv, .int .i64 e.pl]
          have st := HST.out.below (HB2.out)
          have hdat := st.dat
          rw [← hW] at x1 x2 x3 ⊢
          refine wp_goto ?_
          change ∃ n'', n'' < n' + 1 ∧ Jr s w R n'' 5 _ _
          have h := HR.out
          rw [if_neg (by rw [hq]; decide)] at h
          refine ⟨n', by omega, Jr.into (p + 1) _ f2 r2 D' (.put e.dt) _ (Tm.intro rfl) rfl h (st.low x3 (fun x h1 h2 => x2 x h1 h2)) x1 rfl (fun d hd => ?_) (by omega) (by have := HM.out; omega) (fun x hx => ?_) nofun nofun⟩
          · injection hd with hd
            subst hd
            exact Dt.At.keeps (keeps_of hdat (fun x h1 h2 => x2 x h1 h2)) _ _ (Dt.At.keeps (Keeps.of_below HB2.out) _ _ HAT.out)
          · have := HDS.out x (List.mem_cons_of_mem _ hx); simp only [] at this ⊢; omega
    | token =>
      refine ⟨_, rfl, ?_⟩
      obtain ⟨n', rfl⟩ : ∃ n', n = n' + 1 := by cases n with | zero => cases hr | succ n => exact ⟨n, rfl⟩
      have HW : Hid (Below w.heap.size w w1 ∧ w.heap.size + 1 ≤ w1.heap.size ∧ Boxed w.heap.size C w1) := ⟨hb, hsz, hx⟩
      obtain ⟨T, hT⟩ : ∃ T, s.extract p s.size = T := ⟨_, rfl⟩
      have hTl : T.data.toList = s.data.toList.drop p := by
        rw [← hT, Lib.extract_data, List.take_of_length_le]
        rw [List.length_drop, ← Lib.size_eq]; omega
      have FT0 := token_any T w1 (by rw [Lib.size_eq, hTl, List.length_drop, ← Lib.size_eq]; omega)
      rw [hTl] at FT0
      have hr1 : (match tokOf (s.data.toList.drop p) with | none => some (Rs.err 3 p) | some (k, t, m) => rd s.data.toList n' (.put (.mk k t [] [] p)) (p + m) e r) = some R := hr
      have hle : ∀ k t m, tokOf (s.data.toList.drop p) = some (k, t, m) → 1 ≤ m ∧ p + m ≤ s.size := fun k t m h => by
        have h2 := tokOf_le h
        rw [List.length_drop, ← Lib.size_eq] at h2
        have h1 := tokOf_pos h
        omega
      obtain ⟨rt, hrt⟩ : ∃ rt, tokOf (s.data.toList.drop p) = rt := ⟨_, rfl⟩
      rw [hrt] at FT0 hr1 hle
      have FT := Lib.hid FT0
      have HR := Lib.hid hr1
      have HST := Lib.hid hst
      have HDS := Lib.hid hds
      have hle' := Lib.hid hle
      clear hr hr1 FT0 hst hb hds hd hbg hfi hsz hx hTl hrt hle
      cases rt with
      | none =>
        go_wp2_with fail
        refine FT.out.mono ?_
        rintro e' w2 ⟨rfl, hb2⟩
        have HB2 := Lib.hid hb2
        have HX := Lib.hid (box_keep HW.out hb2)
        clear hb2
        simp only [tokCells, tokLong]
        have z1 : Z5.all (·.oneCell') = true := by simp [Value.oneCell', Z5]
        go_wp2_with (refine wpList_store_row rfl 40 _ _ rfl w.heap.size Z5 rfl rfl 40 C HX.out info40 hC z1 ?_)
        obtain ⟨x1, x2, x3⟩ := box_set HW.out HB2.out Z5
        change bodyPost _ _ _ Exit.ret _ _
        have h := HR.out
        injection h with h
        subst h
        go_ret3
        exact ⟨x1.1, rfl⟩
      | some kt =>
        obtain ⟨k, t, m⟩ := kt
        have hm1 : 1 ≤ m ∧ p + m ≤ s.size := hle'.out k t m rfl
        have hm0 : ((m : Int) == 0) = false := by rw [beq_eq_false_iff_ne]; omega
        obtain ⟨q, hq⟩ : ∃ q, q = p + m := ⟨_, rfl⟩
        have hpm : ((p : Int) + (m : Int)) = (q : Int) := by omega
        have hqs : q ≤ s.size := by omega
        have hr2 := HR.out
        simp only [← hq] at hr2
        have HR2 := Lib.hid hr2
        have hpq : Hid (p + 1 ≤ q) := by show _ ≤ _; omega
        clear hr2 HR hle' hm1 hq
        go_wp2_with fail
        refine FT.out.mono ?_
        rintro e' w2 ⟨rfl, hb2⟩
        have HB2 := Lib.hid hb2
        have HX := Lib.hid (box_keep HW.out hb2)
        clear hb2
        simp only [tokCells, tokLong]
        have z1 : (#[.int .i64 k, .string t, .slice none 0 0, .slice none 0 0, .int .i64 0] : Array Value).all (·.oneCell') = true := by simp [Value.oneCell']
        go_upto_region 19 with (refine wpList_store_row rfl 40 _ _ rfl w.heap.size #[.int .i64 k, .string t, .slice none 0 0, .slice none 0 0, .int .i64 0] rfl rfl 40 C HX.out info40 hC z1 ?_)
        obtain ⟨W, hW⟩ : ∃ W, W = w2.setRow w.heap.size #[.int .i64 k, .string t, .slice none 0 0, .slice none 0 0, .int .i64 0] := ⟨_, rfl⟩
        have hbx := box_set HW.out HB2.out #[.int .i64 k, .string t, .slice none 0 0, .slice none 0 0, .int .i64 0]
        have st := HST.out.below HB2.out
        rw [← hW] at hbx ⊢
        have st2 := st.low hbx.2.2 (fun x h1 h2 => hbx.2.1 x h1 h2)
        have HB := Lib.hid hbx
        have HS := Lib.hid st2
        have hxW : W.heap[w.heap.size]? = some (.cells #[.int .i64 k, .string t, .slice none 0 0, .slice none 0 0, .int .i64 0] 40 (0, 0)) := hbx.1.2.2
        have hc4 : W.cell? ⟨w.heap.size, 4, none⟩ = some (.int .i64 0) := by rw [Lib.cell_of_heap hxW]; rfl
        have hf4 : W.frozen? ⟨w.heap.size, 4, none⟩ = false := frozen_of_row W w.heap.size 4 _ 40 hxW
        clear hbx st st2 hW
        go_wp2_with fail
        refine wp_label ?_
        rename_i K3 hK3
        change K3 _ _
        refine hK3 _ _ ?_
        have bx := box_at (v := .int .i64 p) HB.out.1
        have st3 := HS.out.low bx.2.2 (fun x h1 h2 => bx.2.1 x h1)
        refine hput n' (n' + 1) _ _ _ (by omega) (Jr.into q _ e r D (.put (.mk k t [] [] p)) _ (Tm.intro rfl) rfl HR2.out st3 bx.1 rfl (fun d hd => ?_) hqs hrl (fun x hx => ?_) nofun nofun) rfl
        · injection hd with hd
          subst hd
          rw [At_mk]
          exact ⟨_, _, rfl, .inl ⟨rfl, rfl⟩, .inl ⟨rfl, rfl⟩⟩
        · have := HDS.out x hx
          have h2 := hpq.out
          show x.ds.length + 1 ≤ q
          omega
    | put d => exact absurd rfl hl5
  · go_wp2_with fail
    obtain ⟨W, hW⟩ : ∃ W, W = (w.alloc (.cells Z5 40)).alloc (.cells Z6 55) := ⟨_, rfl⟩
    obtain ⟨i1, i2⟩ := start_world w W hW
    change Code.wp _ _ _ _ ((w.alloc (.cells Z5 40)).alloc (.cells Z6 55))
    rw [← hW]
    refine wp_label ?_
    rename_i K hK
    change K _ _
    refine hK _ _ ?_
    exact hall n 0 _ _ _ (Jr.into 0 _ ⟨0, false, []⟩ [] (fun _ => False) .next Z5 (Tm.intro rfl) rfl hR i2 i1 rfl nofun (Nat.zero_le _) (by simp) (fun x hx => by rcases List.mem_cons.1 hx with rfl | hx; exact Nat.le_refl _; cases hx) nofun nofun) rfl
end Go.Proofs.YtahdiknkcgnieaaDoor
