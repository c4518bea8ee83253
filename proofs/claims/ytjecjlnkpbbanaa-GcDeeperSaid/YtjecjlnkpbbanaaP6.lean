/- Over. -/
import Derived.Test.YtjecjlnkpbbanaaP5
namespace Go.Proofs.Ytjecjlnkpbbanaa
open Go Go.RowKit
set_option linter.unusedVariables false
set_option linter.unusedSimpArgs false
set_option maxHeartbeats 8000000 in
set_option maxRecDepth 100000 in
theorem over_no {w : World} {b : Nat} {G : Option Nat} {os : List Ob} {m : Nat} (h : HpO w b G os m) (a to : Int) (ha : -1000000000 ≤ a) (ha2 : a ≤ 1000000000) (ht : -1000000000 ≤ to) (ht2 : to ≤ 1000000000)
    (hno : a = to ∨ (ob os a).isSome = false ∨ (ob os to).isSome = false) : Calls Try.prog 61 #[.pointer (some ⟨b, 0, none⟩), .int .i64 a, .int .i64 to] w (RetV (.bool false) w) := by
  have F40 := Lib.hid (head_o h a (by omega) (by omega))
  have F41 := Lib.hid (fun W (hb : Below w.heap.size w W) => head_o (h.below hb) to (by omega) (by omega))
  have F42 := Lib.hid (fun W => is_any (hdo os a).t (hdo os a).p (hdo os a).n (hdo os a).s W)
  have F43 := Lib.hid (fun W => is_any (hdo os to).t (hdo os to).p (hdo os to).n (hdo os to).s W)
  rw [is_ob] at F43 F42
  have hbl := h.1.lt
  generalize (ob os to).isSome = c at F43 hno
  generalize (ob os a).isSome = d at F42 hno
  generalize hdo os to = y at F41 F43
  generalize hdo os a = x at F40 F42
  clear h
  by_cases h1 : a = to
  · have q1 : (a == to) = true := by simpa using h1
    clear hno h1
    go_enter Try.func61, Try.ntmps61
    go_wp2_with fail
    go_ret
    exact ⟨rfl, Below.refl _ _⟩
  · have q1 : (a == to) = false := by simpa using h1
    cases d with
    | false =>
      clear hno h1
      go_enter Try.func61, Try.ntmps61
      go_wp2_with fail
      refine F40.out.mono ?_
      rintro e w1 ⟨rfl, hw1⟩
      have HB1 := Lib.hid hw1
      clear hw1 F40
      go_wp2_with fail
      refine (F42.out _).mono ?_
      rintro e w2 ⟨rfl, hw2⟩
      have HB2 := Lib.hid (HB1.out.trans (hw2.mono HB1.out.size))
      clear hw2 F42
      go_wp2_with fail
      go_ret
      exact ⟨rfl, HB2.out⟩
    | true =>
      have hc : c = false := by rcases hno with h | h | h <;> first | exact absurd h h1 | exact h | cases h
      subst hc
      clear hno h1
      go_enter Try.func61, Try.ntmps61
      go_wp2_with fail
      refine F40.out.mono ?_
      rintro e w1 ⟨rfl, hw1⟩
      have HB1 := Lib.hid hw1
      clear hw1 F40
      go_wp2_with fail
      refine (F42.out _).mono ?_
      rintro e w2 ⟨rfl, hw2⟩
      have HB2 := Lib.hid (HB1.out.trans (hw2.mono HB1.out.size))
      clear hw2 F42
      go_wp2_with fail
      refine (F41.out _ HB2.out).mono ?_
      rintro e w3 ⟨rfl, hw2⟩
      have HB3 := Lib.hid (HB2.out.trans (hw2.mono HB2.out.size))
      clear hw2
      go_wp2_with fail
      refine (F43.out _).mono ?_
      rintro e w4 ⟨rfl, hw2⟩
      have HB4 := Lib.hid (HB3.out.trans (hw2.mono HB3.out.size))
      clear hw2
      go_wp2_with fail
      go_ret
      exact ⟨rfl, HB4.out⟩
set_option maxHeartbeats 8000000 in
set_option maxRecDepth 100000 in
theorem over_yes {w : World} {b : Nat} {G : Option Nat} {os : List Ob} {m : Nat} (h : HpO w b G os m) (a to : Int) (ha : -1000000000 ≤ a) (ha2 : a ≤ 1000000000) (ht : -1000000000 ≤ to) (ht2 : to ≤ 1000000000)
    (k : Nat) (hk : loc os a = some k) (hne : a ≠ to) (h3 : (ob os to).isSome = true) : Calls Try.prog 61 #[.pointer (some ⟨b, 0, none⟩), .int .i64 a, .int .i64 to] w (RetHp (.bool true) b G (upd os k (fun o => overO o to)) m w) := by
  have F40 := Lib.hid (head_o h a (by omega) (by omega))
  have F41 := Lib.hid (fun W (hb : Below w.heap.size w W) => head_o (h.below hb) to (by omega) (by omega))
  have F42 := Lib.hid (fun W => is_any (hdo os a).t (hdo os a).p (hdo os a).n (hdo os a).s W)
  have F43 := Lib.hid (fun W => is_any (hdo os to).t (hdo os to).p (hdo os to).n (hdo os to).s W)
  rw [is_ob] at F42 F43
  rw [h3] at F43
  have e42 : (ob os a).isSome = true := by rw [ob_loc hk]; rfl
  rw [e42] at F42
  have hbl := h.1.lt
  obtain ⟨hkl, hka⟩ := loc_some hk
  have hok := h.2.1 _ (List.getElem_mem hkl)
  have hb1 := hok.b1
  have hb2 := hok.b2
  have hsz : os[k].size = os[k].body.length + 1 := rfl
  have hwh := wds_head hkl
  have hwb := wds_body hkl 0 (by omega)
  rw [Nat.add_zero] at hwb
  obtain ⟨j, hj⟩ : ∃ j, j = adr os k := ⟨_, rfl⟩
  rw [← hj] at hwh hwb
  have hjl : j < (wds os).length := (List.getElem?_eq_some_iff.1 hwh).1
  have hjl2 : j + 1 < (wds os).length := (List.getElem?_eq_some_iff.1 hwb).1
  have hje := (List.getElem?_eq_some_iff.1 hwh).2
  have hje2 := (List.getElem?_eq_some_iff.1 hwb).2
  rw [← hj] at hka
  have hq : (a == to) = false := by simpa using hne
  subst hka
  have MID : Hid (∀ W g, Below w.heap.size w W → G = some g → Hp ((((W.setCell ⟨g, j * 5, none⟩ (.int .u8 5)).setCell ⟨g, j * 5 + 1, none⟩ (.int .u8 1)).setCell ⟨g, j * 5 + 2, none⟩ (.int .u8 0)).setCell ⟨g, j * 5 + 3, none⟩ (.int .u8 (os[k].size : Nat))) b G ((wds os).set j ⟨5, 1, 0, os[k].size, 0⟩) m ∧
      Fr (own b G) w ((((W.setCell ⟨g, j * 5, none⟩ (.int .u8 5)).setCell ⟨g, j * 5 + 1, none⟩ (.int .u8 1)).setCell ⟨g, j * 5 + 2, none⟩ (.int .u8 0)).setCell ⟨g, j * 5 + 3, none⟩ (.int .u8 (os[k].size : Nat)))) := by
    intro W g hW hG
    refine ⟨?_, ((((Fr.of_below hW).setCell (.inr hG) _).setCell (.inr hG) _).setCell (.inr hG) _).setCell (.inr hG) _⟩
    exact (h.below hW).1.puth hG j hjl ⟨5, 1, 0, os[k].size, 0⟩ ⟨by simp, by simp, by simp, by simp only; omega⟩ (by rw [hje]; rfl)
  have hje3 : ((wds os).set j ⟨5, 1, 0, os[k].size, 0⟩)[j + 1]'(by rw [List.length_set]; exact hjl2) = ⟨0, 0, 0, 0, os[k].body[0]⟩ := by rw [List.getElem_set_ne (by omega), hje2]
  have FIN : Hid (∀ V g, Hp V b G ((wds os).set j ⟨5, 1, 0, os[k].size, 0⟩) m → Fr (own b G) w V → G = some g → HpO (V.setCell ⟨g, (j + 1) * 5 + 4, none⟩ (.int .i64 to)) b G (upd os k (fun o => overO o to)) m ∧
      Fr (own b G) w (V.setCell ⟨g, (j + 1) * 5 + 4, none⟩ (.int .i64 to))) := by
    intro V g h9 hV hG
    refine ⟨?_, hV.setCell (.inr hG) _⟩
    have h10 := h9.putv hG (j + 1) (by rw [List.length_set]; exact hjl2) to
    rw [hje3] at h10
    rw [upd_eq hkl]
    refine h.put hkl (by simp [overO]) (overO_ok hok to) (fun p hp => ?_) ?_
    · rw [overO_ptrs _ _ hb1] at hp
      simp at hp
      subst hp
      exact .inr h3
    · rw [wds_overO hkl to (by omega), ← hj]; exact h10
  have HC := Lib.hid (fun W (hb : Below w.heap.size w W) => (h.1.below hb).cell)
  have hwl : (wds os).length ≤ 1000000 := by obtain ⟨_, _, _, _, h1, _⟩ := h.1; exact h1
  generalize hdo os to = y at F41 F43
  generalize hdo os (j : Int) = x at F40 F42
  have hs1 : (wds os)[j].s = os[k].size := by rw [hje]; rfl
  obtain ⟨sz, hszd⟩ : ∃ sz, sz = os[k].size := ⟨_, rfl⟩
  rw [← hszd] at MID FIN hs1
  have hl2 : ((wds os).set j (⟨5, 1, 0, sz, 0⟩ : Wd)).length = (wds os).length := List.length_set
  generalize (wds os).set j (⟨5, 1, 0, sz, 0⟩ : Wd) = l2 at MID FIN hl2
  clear h hk hj hok hb1 hb2 hsz hwh hwb hje hje2 hje3 hszd h3 hne e42
  go_enter Try.func61, Try.ntmps61
  go_wp2_with fail
  refine F40.out.mono ?_
  rintro e w1 ⟨rfl, hw1⟩
  have HB1 := Lib.hid hw1
  clear hw1 F40
  go_wp2_with fail
  refine (F42.out _).mono ?_
  rintro e w2 ⟨rfl, hw2⟩
  have HB2 := Lib.hid (HB1.out.trans (hw2.mono HB1.out.size))
  clear hw2 F42
  go_wp2_with fail
  refine (F41.out _ HB2.out).mono ?_
  rintro e w3 ⟨rfl, hw2⟩
  have HB3 := Lib.hid (HB2.out.trans (hw2.mono HB2.out.size))
  clear hw2
  go_wp2_with fail
  refine (F43.out _).mono ?_
  rintro e w4 ⟨rfl, hw2⟩
  have HB4 := Lib.hid (HB3.out.trans (hw2.mono HB3.out.size))
  clear hw2
  obtain ⟨ao, cap, hc0, _, _, hcap, hc⟩ := HC.out w4 HB4.out
  obtain ⟨g, rfl, hG, ⟨cc, hcc⟩, c0, c1, c2, c3, c4⟩ := hc j hjl
  rw [hs1] at c3
  have F54 := Lib.hid (leadOn_any w4 g (j * 5) _ _ _ _ ⟨cc, hcc⟩ c0 c1 c2 c3)
  obtain ⟨m1, m2⟩ := MID.out w4 g HB4.out hG
  generalize hV : (((w4.setCell ⟨g, j * 5, none⟩ (.int .u8 5)).setCell ⟨g, j * 5 + 1, none⟩ (.int .u8 1)).setCell ⟨g, j * 5 + 2, none⟩ (.int .u8 0)).setCell ⟨g, j * 5 + 3, none⟩ (.int .u8 (sz : Nat)) = V at m1 m2 F54
  have M1 := Lib.hid m1
  have M2 := Lib.hid m2
  have HG := Lib.hid hG
  obtain ⟨L, hL⟩ : ∃ L, L = (wds os).length := ⟨_, rfl⟩
  have HL := Lib.hid (hl2.trans hL.symm)
  rw [← hL] at hc0 hcap hjl hjl2 hwl
  have hjL : (j : Int) < (L : Int) := by omega
  have hjL2 : (j : Int) + 1 < (L : Int) := by omega
  clear hc hL hcc HC hG c0 c1 c2 c3 c4 m1 m2 hV MID hl2 hs1
  go_wp2_with fail
  refine F54.out.mono ?_
  rintro e w5 ⟨rfl, rfl⟩
  obtain ⟨ao, cap2, hd0, _, _, hcap2, hd⟩ := M1.out.cell
  obtain ⟨g', hg', hG', ⟨cc, hcc⟩, _, _, _, _, d4⟩ := hd (j + 1) (by rw [HL.out]; exact hjl2)
  obtain rfl : g' = g := by rw [HG.out] at hG'; injection hG' with h; exact h.symm
  subst hg'
  have hfz := frozen_of_row w5 g' ((j + 1) * 5 + 4) _ _ hcc
  have HF := Lib.hid (FIN.out w5 g' M1.out M2.out HG.out)
  generalize (l2[j + 1]'(by rw [HL.out]; exact hjl2)).v = v0 at d4
  rw [HL.out] at hd0 hcap2
  clear hc0 hcap hd hcc hG' FIN M2 F54
  go_wp2_with fail
  go_ret
  exact ⟨rfl, G, HF.out.1, HF.out.2, fun k hk => .inl hk⟩
end Go.Proofs.Ytjecjlnkpbbanaa
