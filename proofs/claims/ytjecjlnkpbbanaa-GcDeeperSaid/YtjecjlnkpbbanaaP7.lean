/- Follow. -/
import Derived.Test.YtjecjlnkpbbanaaP5
namespace Go.Proofs.Ytjecjlnkpbbanaa
open Go Go.RowKit
set_option linter.unusedVariables false
set_option linter.unusedSimpArgs false
theorem tag_nxt {os : List Ob} (a : Int) : (nxt os a).isSome = ((hdo os a).t == 5) := by
  unfold nxt hdo
  cases h : ob os a with
  | none => rfl
  | some o =>
    simp only [Ob.head]
    split <;> rename_i h5
    · simp [h5]
    · simp [h5]
/-- How far the look for a ring is: the one that is held, how many steps ahead. -/
def FInv (os : List Ob) (a : Int) (w : World) (av hv sv mv : Value) (wr : World) : Prop :=
  ∃ h s : Nat, av = .int .i64 (it os (h + s) a) ∧ hv = .int .i64 (it os h a) ∧ sv = .int .i64 (s : Int) ∧ mv = .int .i64 ((h : Int) + 1) ∧ s ≤ h ∧ ledTo os a (h + s) ∧ (∀ i, h < i → i ≤ h + s → it os i a ≠ it os h a) ∧ h ≤ 2 * os.length ∧ s ≤ os.length ∧ Below w.heap.size w wr
def far (os : List Ob) (sv mv : Value) : Nat := 4 * os.length + 4 - (intOf sv + intOf mv).toNat
theorem led_next {os : List Ob} {a : Int} {n : Nat} (hl : ledTo os a n) (h : (nxt os (it os n a)).isSome = true) : ledTo os a (n + 1) := by
  intro i hi
  by_cases e : i = n
  · rw [e]; exact h
  · exact hl i (by omega)
theorem head_get (l : List Int) (h : 0 < l.length) : l[0] = l.headD 0 := by
  cases l with
  | nil => simp at h
  | cons y l => rfl
set_option maxHeartbeats 8000000 in
set_option maxRecDepth 100000 in
theorem follow_o {w : World} {b : Nat} {G : Option Nat} {os : List Ob} {m : Nat} (h : HpO w b G os m) (a : Int) (ha : -9223372036854775808 ≤ a) (ha2 : a ≤ 9223372036854775807) :
    Calls Try.prog 25 #[.pointer (some ⟨b, 0, none⟩), .int .i64 a] w (RetV (.int .i64 (folOf os a)) w) := by
  have F40 := Lib.hid (head_o h a (by omega) (by omega))
  have F42 := Lib.hid (fun W => is_any (hdo os a).t (hdo os a).p (hdo os a).n (hdo os a).s W)
  rw [is_ob] at F42
  have hbl := h.1.lt
  generalize hdo os a = x at F40 F42
  cases hq : ob os a with
  | none =>
    rw [hq] at F42
    have HR : Hid (folOf os a = -1) := by show _ = _; unfold folOf fol; rw [hq]
    rw [HR.out]
    clear h hq
    go_enter Try.func25, Try.ntmps25
    go_wp2_with fail
    refine F40.out.mono ?_
    rintro e w1 ⟨rfl, hw1⟩
    have HB1 := Lib.hid hw1
    clear hw1 F40
    go_wp2_with fail
    refine (F42.out _).mono ?_
    rintro e w2 ⟨rfl, hw2⟩
    have HB2 := Lib.hid (HB1.out.trans (hw2.mono HB1.out.size))
    clear hw2 F42
    go_wp2_with fail
    go_ret
    exact ⟨rfl, HB2.out⟩
  | some q0 =>
    rw [hq] at F42
    have HH := Lib.hid h
    have HQ := Lib.hid hq
    have FT := Lib.hid (fun (W : World) (c : Int) (hb : Below w.heap.size w W) (h1 : -9223372036854775808 ≤ c) (h2 : c ≤ 9223372036854775807) => tagm_any (h.below hb) c h1 h2)
    have hol : os.length ≤ 1000000 := by
      have h1 := h.2.2.2
      have : ∀ l : List Ob, l.length ≤ total l := by
        intro l
        induction l with
        | nil => simp
        | cons o l ih => simp only [List.length_cons, total, Ob.size]; omega
      have := this os
      omega
    have h0 : FInv os a w (.int .i64 a) (.int .i64 a) (.int .i64 0) (.int .i64 1) w :=
      ⟨0, 0, rfl, rfl, rfl, rfl, Nat.le_refl _, fun i hi => by omega, fun i h1 h2 => by omega, by omega, by omega, Below.refl _ _⟩
    clear h hq
    go_enter Try.func25, Try.ntmps25
    go_wp2_with fail
    refine F40.out.mono ?_
    rintro e w1 ⟨rfl, hw1⟩
    have HB1 := Lib.hid hw1
    clear hw1 F40
    go_wp2_with fail
    refine (F42.out _).mono ?_
    rintro e w2 ⟨rfl, hw2⟩
    have HB2 := Lib.hid (HB1.out.trans (hw2.mono HB1.out.size))
    clear hw2 F42 HB1
    have H0 : Hid (FInv os a w (.int .i64 a) (.int .i64 a) (.int .i64 0) (.int .i64 1) w2) :=
      ⟨0, 0, rfl, rfl, rfl, rfl, Nat.le_refl _, fun i hi => by omega, fun i h1 h2 => by omega, by omega, by omega, HB2.out⟩
    clear h0
    go_wp2_with fail
    go_loopw [1, 5, 6, 7] (fun av hv sv mv wr => FInv os a w av hv sv mv wr) (fun _ _ sv mv _ => far os sv mv)
    case atStart => exact H0.out
    case round =>
      clear H0
      obtain ⟨h, s, rfl, rfl, rfl, rfl, hsh, hled, hdif, hh2, hs2, hbel⟩ := hrel
      obtain ⟨c, hc⟩ : ∃ c, c = it os (h + s) a := ⟨_, rfl⟩
      obtain ⟨q, hqc⟩ := it_valid HH.out.2.2.1 HH.out.2.1 HQ.out hled (h + s) (Nat.le_refl _)
      rw [← hc] at hqc ⊢
      obtain ⟨k, hk, hlk, hck, hqk⟩ := ob_some hqc
      have htl := adr_le hk
      have htm := HH.out.2.2.2
      have hc0 : 0 ≤ c := by omega
      have hc1 : c ≤ 1000000 := by unfold Ob.size at htl; omega
      have F18 := Lib.hid (FT.out wr c hbel (by omega) (by omega))
      have hok := HH.out.2.1 _ (List.getElem_mem hk)
      have htag : (hdo os c).t = q.tag := by unfold hdo; rw [hqc]; rfl
      by_cases h5 : q.tag = 5
      · have q1 : (((hdo os c).t : Int) == 5) = true := by rw [htag, h5]; rfl
        obtain ⟨v, hv⟩ : ∃ v, v = q.body.headD 0 := ⟨_, rfl⟩
        have hnx : nxt os c = some v := by unfold nxt; rw [hqc]; simp only [h5, if_pos]; rw [hv]
        have hit : it os (h + s + 1) a = v := by show (nxt os (it os (h + s) a)).getD 0 = v; rw [← hc, hnx]; rfl
        have hled1 : ledTo os a (h + s + 1) := led_next hled (by rw [← hc, hnx]; rfl)
        have hwb := wds_body hk 0 hok.b1
        have hbv : os[k].body[0]'(hok.b1) = v := by
          rw [hv, hqk]; exact head_get _ _
        rw [hbv, Nat.add_zero] at hwb
        obtain ⟨j, hj⟩ : ∃ j, j = adr os k := ⟨_, rfl⟩
        rw [← hj] at hck hwb
        subst hck
        have hjl : j + 1 < (wds os).length := (List.getElem?_eq_some_iff.1 hwb).1
        have hje : ∀ hh : j + 1 < (wds os).length, (wds os)[j + 1]'hh = ⟨0, 0, 0, 0, v⟩ := fun _ => (List.getElem?_eq_some_iff.1 hwb).2
        have HC := Lib.hid (fun W (hb : Below w.heap.size w W) => (HH.out.1.below hb).cell)
        have hwl : (wds os).length ≤ 1000000 := by obtain ⟨_, _, _, _, h1, _⟩ := HH.out.1; exact h1
        obtain ⟨hv0, hv1⟩ : -9223372036854775808 ≤ v ∧ v ≤ 9223372036854775807 := by
          obtain ⟨q2, hq2⟩ := HH.out.2.2.1.next HH.out.2.1 hnx
          obtain ⟨k2, hk2, _, e2, _⟩ := ob_some hq2
          have := adr_le hk2
          unfold Ob.size at this
          omega
        obtain ⟨L, hL⟩ : ∃ L, L = (wds os).length := ⟨_, rfl⟩
        obtain ⟨u, hu⟩ : ∃ u, u = it os h a := ⟨_, rfl⟩
        have HU := Lib.hid hu
        rw [← hu]
        have HLED := Lib.hid hled1
        have HDIF := Lib.hid hdif
        have HIT := Lib.hid hit
        have HBW := Lib.hid hbel
        have HJE := Lib.hid hje
        have HLL := Lib.hid hL
        rw [← hL] at hjl hwl
        have hjL : (j : Int) + 1 < (L : Int) := by omega
        clear hled hled1 hdif hc hqc hlk hqk hok htag h5 hv hnx hit hwb hbv hje hL hu hbel htl htm hc0 hc1 hj
        by_cases hvu : v = u
        · have q2 : (v == u) = true := by simpa using hvu
          have HR : Hid (folOf os a = -1) := fol_round HH.out.2.2.1 HH.out.2.1 HQ.out (i := h) (j := h + s + 1) (by omega) (by rw [HIT.out, hvu, HU.out]) HLED.out
          clear hvu
          go_wp2_with fail
          refine F18.out.mono ?_
          rintro e w3 ⟨rfl, hw3⟩
          have HB3 := Lib.hid (HBW.out.trans (hw3.mono HBW.out.size))
          clear hw3 F18
          obtain ⟨ao, cap, hc0, _, _, hcap, hc⟩ := HC.out w3 HB3.out
          obtain ⟨g, rfl, hG, _, _, _, _, _, hcv⟩ := hc (j + 1) (by rw [← HLL.out]; exact hjl)
          rw [HJE.out _] at hcv
          simp only at hcv
          rw [← HLL.out] at hc0 hcap
          clear hc hG HC
          go_wp2_with fail
          go_ret
          exact ⟨by rw [HR.out]; rfl, HB3.out⟩
        · have q2 : (v == u) = false := by simpa using hvu
          have hD2 : ∀ i, h < i → i ≤ h + s + 1 → it os i a ≠ it os h a := by
            intro i h1 h2
            by_cases e : i = h + s + 1
            · rw [e, HIT.out, ← HU.out]; exact hvu
            · exact HDIF.out i h1 (by omega)
          have HD2 := Lib.hid hD2
          have hbnd : os.length ≤ h → s + 1 < os.length := fun hh => held_bound (s := s + 1) HH.out.2.2.1 HH.out.2.1 HQ.out (by exact HLED.out) (fun i h1 h2 => hD2 i h1 (by omega)) hh
          clear hvu hD2
          by_cases hsh2 : s = h
          · have q3 : (((s : Int) + 1) == ((h : Int) + 1)) = true := by rw [hsh2]; simp
            have hhn : h < os.length := by
              apply Classical.byContradiction
              intro hge
              have := hbnd (by omega)
              omega
            have HREL : Hid (∀ w3, Below w.heap.size w w3 → FInv os a w (.int .i64 v) (.int .i64 v) (.int .i64 0) (.int .i64 (2 * ((h : Int) + 1))) w3) := by
              intro w3 hb3
              refine ⟨h + s + 1, 0, by rw [Nat.add_zero, HIT.out], by rw [HIT.out], rfl, by congr 1; push_cast; omega, by omega, by rw [Nat.add_zero]; exact HLED.out, fun i h1 h2 => by omega, by omega, by omega, hb3⟩
            clear hbnd
            go_wp2_with fail
            refine F18.out.mono ?_
            rintro e w3 ⟨rfl, hw3⟩
            have HB3 := Lib.hid (HBW.out.trans (hw3.mono HBW.out.size))
            clear hw3 F18
            obtain ⟨ao, cap, hc0, _, _, hcap, hc⟩ := HC.out w3 HB3.out
            obtain ⟨g, rfl, hG, _, _, _, _, _, hcv⟩ := hc (j + 1) (by rw [← HLL.out]; exact hjl)
            rw [HJE.out _] at hcv
            simp only at hcv
            rw [← HLL.out] at hc0 hcap
            have H9 := Lib.hid (HREL.out w3 HB3.out)
            clear hc hG HC HREL
            go_wp2_with fail
            go_roundw
            case rel => exact H9.out
            case measure => simp [far, intOf]; omega
          · have q3 : (((s : Int) + 1) == ((h : Int) + 1)) = false := by simp; omega
            have HREL : Hid (∀ w3, Below w.heap.size w w3 → FInv os a w (.int .i64 v) (.int .i64 u) (.int .i64 ((s : Int) + 1)) (.int .i64 ((h : Int) + 1)) w3) := by
              intro w3 hb3
              refine ⟨h, s + 1, by rw [show h + (s + 1) = h + s + 1 by omega, HIT.out], by rw [HU.out], by go_num, rfl, by omega, by exact HLED.out, fun i h1 h2 => HD2.out i h1 (by omega), hh2, ?_, hb3⟩
              rcases Nat.lt_or_ge h os.length with h1 | h1
              · omega
              · have := hbnd h1; omega
            clear hbnd
            go_wp2_with fail
            refine F18.out.mono ?_
            rintro e w3 ⟨rfl, hw3⟩
            have HB3 := Lib.hid (HBW.out.trans (hw3.mono HBW.out.size))
            clear hw3 F18
            obtain ⟨ao, cap, hc0, _, _, hcap, hc⟩ := HC.out w3 HB3.out
            obtain ⟨g, rfl, hG, _, _, _, _, _, hcv⟩ := hc (j + 1) (by rw [← HLL.out]; exact hjl)
            rw [HJE.out _] at hcv
            simp only at hcv
            rw [← HLL.out] at hc0 hcap
            have H9 := Lib.hid (HREL.out w3 HB3.out)
            clear hc hG HC HREL
            go_wp2_with fail
            go_roundw
            case rel => exact H9.out
            case measure => simp [far, intOf]; omega
      · have q1 : (((hdo os c).t : Int) == 5) = false := by rw [htag]; simp; omega
        have HR : Hid (folOf os a = c) := by
          show _ = _
          rw [hc]; exact fol_end HH.out.2.2.1 HH.out.2.1 HQ.out hled (r := q) (by rw [← hc]; exact hqc) h5
        have HBW := Lib.hid hbel
        clear hled hdif hc hqc hlk hqk hok htag h5 hbel htl htm hck
        go_wp2_with fail
        refine F18.out.mono ?_
        rintro e w3 ⟨rfl, hw3⟩
        have HB3 := Lib.hid (HBW.out.trans (hw3.mono HBW.out.size))
        clear hw3 F18
        go_wp2_with fail
        go_ret
        exact ⟨by rw [HR.out]; rfl, HB3.out⟩
end Go.Proofs.Ytjecjlnkpbbanaa
