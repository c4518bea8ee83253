/- Set, Over: the calls. -/
import Derived.Test.YtjecjlnkpbbanaaP4
namespace Go.Proofs.Ytjecjlnkpbbanaa
open Go Go.RowKit
set_option linter.unusedVariables false
set_option linter.unusedSimpArgs false
def upd (os : List Ob) (k : Nat) (f : Ob → Ob) : List Ob := match os[k]? with | some o => os.set k (f o) | none => os
theorem upd_eq {os : List Ob} {k : Nat} (h : k < os.length) (f : Ob → Ob) : upd os k f = os.set k (f os[k]) := by unfold upd; rw [List.getElem?_eq_getElem h]
def setF (os : List Ob) (a i to : Int) : Option (List Ob) := match loc os a with
  | none => none
  | some k => if 0 ≤ i ∧ i < ((hdo os a).p : Nat) ∧ (ob os to).isSome = true then some (upd os k (fun o => setO o i.toNat to)) else none
def overF (os : List Ob) (a to : Int) : Option (List Ob) := match loc os a with
  | none => none
  | some k => if a ≠ to ∧ (ob os to).isSome = true then some (upd os k (fun o => overO o to)) else none
theorem is_ob {os : List Ob} (a : Int) : decide (0 < (hdo os a).s) = (ob os a).isSome := by
  unfold hdo
  cases h : ob os a with
  | none => rfl
  | some o => simp [Ob.head, Ob.size]
theorem p_none {os : List Ob} {a : Int} (h : loc os a = none) : (hdo os a).p = 0 := by
  unfold hdo; rw [ob_none.2 h]
theorem hdo_loc {os : List Ob} {a : Int} {k : Nat} (h : loc os a = some k) : hdo os a = (os[k]'(loc_some h).1).head := by unfold hdo; rw [ob_loc h]
theorem some_set {os : List Ob} {i : Nat} (h : i < os.length) {o : Ob} (e : o.body.length = os[i].body.length) (a : Int) : (ob (os.set i o) a).isSome = (ob os a).isSome := by
  rw [ob_set h e]
  split
  · rename_i e; rw [e, ob_loc (loc_adr os i h)]; rfl
  · rfl
theorem closed_set {os : List Ob} (hc : Closed os) {i : Nat} (h : i < os.length) {o : Ob} (e : o.body.length = os[i].body.length) (hp : ∀ p ∈ o.ptrs, p ∈ os[i].ptrs ∨ (ob os p).isSome = true) : Closed (os.set i o) := by
  have key : ∀ p, (ob os p).isSome = true → ∃ q, ob (os.set i o) p = some q := fun p h1 => by
    rw [← some_set h e p] at h1
    exact Option.isSome_iff_exists.1 h1
  intro x hx p hpx
  rcases List.mem_or_eq_of_mem_set hx with h1 | rfl
  · exact key p (Option.isSome_iff_exists.2 (hc x h1 p hpx))
  · rcases hp p hpx with h2 | h2
    · exact key p (Option.isSome_iff_exists.2 (hc _ (List.getElem_mem h) p h2))
    · exact key p h2
theorem setO_ptrs (o : Ob) (j : Nat) (v : Int) : (setO o j v).ptrs = o.ptrs.set j v := by simp [setO, Ob.ptrs, List.take_set]
theorem overO_ptrs (o : Ob) (v : Int) (h : 1 ≤ o.body.length) : (overO o v).ptrs = [v] := by
  unfold overO Ob.ptrs
  cases hb : o.body with
  | nil => rw [hb] at h; simp at h
  | cons x l => simp
theorem HpO.put {w W : World} {b : Nat} {G : Option Nat} {os : List Ob} {m : Nat} (h : HpO w b G os m) {k : Nat} (hk : k < os.length) {o : Ob} (e : o.body.length = os[k].body.length) (ho : o.Ok) (hp : ∀ p ∈ o.ptrs, p ∈ os[k].ptrs ∨ (ob os p).isSome = true)
    (hH : Hp W b G (wds (os.set k o)) m) : HpO W b G (os.set k o) m :=
  ⟨hH, oks_set h.2.1 ho, closed_set h.2.2.1 hk e hp, h.2.2.2.1, by rw [total_set hk e]; exact h.2.2.2.2⟩
set_option maxHeartbeats 8000000 in
set_option maxRecDepth 100000 in
theorem set_no {w : World} {b : Nat} {G : Option Nat} {os : List Ob} {m : Nat} (h : HpO w b G os m) (a i to : Int) (ha : -1000000000 ≤ a) (ha2 : a ≤ 1000000000) (hi : -1000000000 ≤ i) (hi2 : i ≤ 1000000000) (ht : -1000000000 ≤ to) (ht2 : to ≤ 1000000000)
    (hno : i < 0 ∨ ((hdo os a).p : Int) ≤ i ∨ (ob os to).isSome = false) : Calls Try.prog 29 #[.pointer (some ⟨b, 0, none⟩), .int .i64 a, .int .i64 i, .int .i64 to] w (RetV (.bool false) w) := by
  have F40 := Lib.hid (head_o h a (by omega) (by omega))
  have F41 := Lib.hid (fun W (hb : Below w.heap.size w W) => head_o (h.below hb) to (by omega) (by omega))
  have hlow := (hdo_low h.2.1 a).2.1
  have F52 := Lib.hid (fun W => ptrs_any (hdo os a).t (hdo os a).p (hdo os a).n (hdo os a).s hlow W)
  have F43 := Lib.hid (fun W => is_any (hdo os to).t (hdo os to).p (hdo os to).n (hdo os to).s W)
  rw [is_ob] at F43
  have hbl := h.1.lt
  generalize (ob os to).isSome = c at F43 hno
  generalize hdo os to = y at F41 F43
  generalize hdo os a = x at F40 F52 hlow hno
  clear h
  by_cases h1 : i < 0
  · have q1 : decide (i < 0) = true := decide_eq_true h1
    clear hno
    go_enter Try.func29, Try.ntmps29
    go_wp2_with fail
    go_ret
    exact ⟨rfl, Below.refl _ _⟩
  · have q1 : decide (i < 0) = false := decide_eq_false h1
    by_cases h2 : (x.p : Int) ≤ i
    · have q2 : decide ((x.p : Int) ≤ i) = true := decide_eq_true h2
      clear hno
      go_enter Try.func29, Try.ntmps29
      go_wp2_with fail
      refine F40.out.mono ?_
      rintro e w1 ⟨rfl, hw1⟩
      have HB1 := Lib.hid hw1
      clear hw1 F40
      go_wp2_with fail
      refine (F52.out _).mono ?_
      rintro e w2 ⟨rfl, hw2⟩
      have HB2 := Lib.hid (HB1.out.trans (hw2.mono HB1.out.size))
      clear hw2 F52
      go_wp2_with fail
      go_ret
      exact ⟨rfl, HB2.out⟩
    · have q2 : decide ((x.p : Int) ≤ i) = false := decide_eq_false h2
      have hc : c = false := by rcases hno with h | h | h <;> first | omega | exact h
      subst hc
      clear hno
      go_enter Try.func29, Try.ntmps29
      go_wp2_with fail
      refine F40.out.mono ?_
      rintro e w1 ⟨rfl, hw1⟩
      have HB1 := Lib.hid hw1
      clear hw1 F40
      go_wp2_with fail
      refine (F52.out _).mono ?_
      rintro e w2 ⟨rfl, hw2⟩
      have HB2 := Lib.hid (HB1.out.trans (hw2.mono HB1.out.size))
      clear hw2 F52
      go_wp2_with fail
      refine (F41.out _ HB2.out).mono ?_
      rintro e w3 ⟨rfl, hw2⟩
      have HB3 := Lib.hid (HB2.out.trans (hw2.mono HB2.out.size))
      clear hw2
      go_wp2_with fail
      refine (F43.out _).mono ?_
      rintro e w4 ⟨rfl, hw2⟩
      have HB4 := Lib.hid (HB3.out.trans (hw2.mono HB3.out.size))
      clear hw2
      go_wp2_with fail
      go_ret
      exact ⟨rfl, HB4.out⟩
set_option maxHeartbeats 8000000 in
set_option maxRecDepth 100000 in
theorem set_yes {w : World} {b : Nat} {G : Option Nat} {os : List Ob} {m : Nat} (h : HpO w b G os m) (a i to : Int) (ha : -1000000000 ≤ a) (ha2 : a ≤ 1000000000) (hi : -1000000000 ≤ i) (hi2 : i ≤ 1000000000) (ht : -1000000000 ≤ to) (ht2 : to ≤ 1000000000)
    (k : Nat) (hk : loc os a = some k) (h0 : 0 ≤ i) (h2 : i < ((hdo os a).p : Int)) (h3 : (ob os to).isSome = true) : Calls Try.prog 29 #[.pointer (some ⟨b, 0, none⟩), .int .i64 a, .int .i64 i, .int .i64 to] w (RetHp (.bool true) b G (upd os k (fun o => setO o i.toNat to)) m w) := by
  have F40 := Lib.hid (head_o h a (by omega) (by omega))
  have F41 := Lib.hid (fun W (hb : Below w.heap.size w W) => head_o (h.below hb) to (by omega) (by omega))
  have hlow := (hdo_low h.2.1 a).2.1
  have F52 := Lib.hid (fun W => ptrs_any (hdo os a).t (hdo os a).p (hdo os a).n (hdo os a).s hlow W)
  have F43 := Lib.hid (fun W => is_any (hdo os to).t (hdo os to).p (hdo os to).n (hdo os to).s W)
  rw [is_ob, h3] at F43
  have hbl := h.1.lt
  obtain ⟨hkl, hka⟩ := loc_some hk
  have hpn := (h.2.1 _ (List.getElem_mem hkl)).pn
  have hok := h.2.1 _ (List.getElem_mem hkl)
  have e1 : (hdo os a).p = os[k].np := by rw [hdo_loc hk]; rfl
  obtain ⟨q, hq⟩ : ∃ q : Nat, i = q := ⟨i.toNat, by omega⟩
  subst hq
  have hqb : q < os[k].body.length := by omega
  have hw := wds_body hkl q hqb
  obtain ⟨j, hj⟩ : ∃ j, j = adr os k + 1 + q := ⟨_, rfl⟩
  rw [← hj] at hw
  have hjl : j < (wds os).length := (List.getElem?_eq_some_iff.1 hw).1
  have hje := (List.getElem?_eq_some_iff.1 hw).2
  have haj : a + 1 + (q : Int) = (j : Int) := by omega
  have FIN : Hid (∀ W g, Below w.heap.size w W → G = some g → HpO (W.setCell ⟨g, j * 5 + 4, none⟩ (.int .i64 to)) b G (upd os k (fun o => setO o (q : Int).toNat to)) m ∧ Fr (own b G) w (W.setCell ⟨g, j * 5 + 4, none⟩ (.int .i64 to))) := by
    intro W g hW hG
    refine ⟨?_, (Fr.of_below hW).setCell (.inr hG) _⟩
    have h9 := (h.below hW).1.putv hG j hjl to
    rw [hje] at h9
    rw [upd_eq hkl, Int.toNat_natCast]
    refine h.put hkl (by simp [setO]) (setO_ok hok q to (by omega)) (fun p hp => ?_) ?_
    · rw [setO_ptrs] at hp
      rcases List.mem_or_eq_of_mem_set hp with h | rfl
      · exact .inl h
      · exact .inr h3
    · rw [wds_setO hkl q to hqb, ← hj]; exact h9
  have HC := Lib.hid (fun W (hb : Below w.heap.size w W) => (h.1.below hb).cell)
  have hgl := h.1.glt
  have hwl : (wds os).length ≤ 1000000 := by obtain ⟨_, _, _, _, h1, _⟩ := h.1; exact h1
  have q1 : decide ((q : Int) < 0) = false := decide_eq_false (by omega)
  generalize hdo os to = y at F41 F43
  generalize hdo os a = x at F40 F52 hlow h2 e1
  have q2 : decide ((x.p : Int) ≤ (q : Int)) = false := decide_eq_false (by omega)
  clear h hk hka hpn hok e1 hqb hw hj hje h3
  go_enter Try.func29, Try.ntmps29
  go_wp2_with fail
  refine F40.out.mono ?_
  rintro e w1 ⟨rfl, hw1⟩
  have HB1 := Lib.hid hw1
  clear hw1 F40
  go_wp2_with fail
  refine (F52.out _).mono ?_
  rintro e w2 ⟨rfl, hw2⟩
  have HB2 := Lib.hid (HB1.out.trans (hw2.mono HB1.out.size))
  clear hw2 F52
  go_wp2_with fail
  refine (F41.out _ HB2.out).mono ?_
  rintro e w3 ⟨rfl, hw2⟩
  have HB3 := Lib.hid (HB2.out.trans (hw2.mono HB2.out.size))
  clear hw2
  go_wp2_with fail
  refine (F43.out _).mono ?_
  rintro e w4 ⟨rfl, hw2⟩
  have HB4 := Lib.hid (HB3.out.trans (hw2.mono HB3.out.size))
  clear hw2
  obtain ⟨ao, cap, hc0, _, _, hcap, hc⟩ := HC.out w4 HB4.out
  obtain ⟨g, rfl, hG, ⟨cc, hcc⟩, _, _, _, _, hcv⟩ := hc j hjl
  have hfz := frozen_of_row w4 g (j * 5 + 4) _ _ hcc
  have HF := Lib.hid (FIN.out w4 g HB4.out hG)
  generalize (wds os)[j].v = v0 at hcv
  obtain ⟨L, hL⟩ : ∃ L, L = (wds os).length := ⟨_, rfl⟩
  rw [← hL] at hc0 hcap hjl hwl
  have hjL : (j : Int) < (L : Int) := by omega
  clear hc hL hcc HC hG FIN hgl
  go_wp2_with fail
  go_ret
  exact ⟨rfl, G, HF.out.1, HF.out.2, fun k hk => .inl hk⟩
end Go.Proofs.Ytjecjlnkpbbanaa
