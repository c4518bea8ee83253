/- May an object be so? -/
import Derived.Test.YtkekekdkfjjifaaZA
import Derived.Test.YtkekekdkfjjifaaZB
import Derived.Test.YtkekekdkfjjifaaProg
import Derived.Deep.RegionHeld
namespace Go.Proofs.Ytkekekdkfjjifaa
open Go Go.RowKit
set_option linter.unusedVariables false
set_option linter.unusedSimpArgs false
/-- A slice that reads as these numbers. -/
def IsS (w : World) (v : Value) (l : List Int) : Prop := ∃ ao cap, v = .slice ao l.length cap ∧ l.length ≤ cap ∧ ((ao = none ∧ l = []) ∨ ∃ g o, ao = some ⟨g, o, none⟩ ∧ ∀ i (h : i < l.length), w.cell? ⟨g, o + i, none⟩ = some (.int .i64 l[i]))
/-- May an object be so? -/
def fitF (t : Int) (ps ns : List Int) : Bool :=
  decide (ps.length ≤ 60) && decide (ns.length ≤ 60) &&
    (if t = 2 then decide (ps.length = 2) && decide (ns.length = 0)
     else if t = 5 then decide (ps.length = 1) && decide (ns.length = 0)
     else if t = 6 then decide (ps.length = 1) && decide (ns.length = 1) && (decide (ns.headD 9 = 0) || decide (ns.headD 9 = 1))
     else decide (1 ≤ t) && decide (t ≤ 7))
set_option maxHeartbeats 8000000 in
set_option maxRecDepth 100000 in
theorem fits_any (t : Int) (ps ns : List Int) (pv nv : Value) (w : World) (hp : IsS w pv ps) (hn : IsS w nv ns) (hpl : ps.length ≤ 1000000) (hnl : ns.length ≤ 1000000) :
    Calls Try.prog 52 #[.int .i64 t, pv, nv] w fun e w' => e = .returned (.bool (fitF t ps ns)) ∧ w = w' := by
  obtain ⟨pa, pc, rfl, hpc, _⟩ := hp
  obtain ⟨na, nc, rfl, hnc, hnr⟩ := hn
  obtain ⟨p, hpd⟩ : ∃ p, p = ps.length := ⟨_, rfl⟩
  obtain ⟨n, hnd⟩ : ∃ n, n = ns.length := ⟨_, rfl⟩
  have HF : Hid (fitF t ps ns = (decide (p ≤ 60) && decide (n ≤ 60) && (if t = 2 then decide (p = 2) && decide (n = 0)
     else if t = 5 then decide (p = 1) && decide (n = 0)
     else if t = 6 then decide (p = 1) && decide (n = 1) && (decide (ns.headD 9 = 0) || decide (ns.headD 9 = 1))
     else decide (1 ≤ t) && decide (t ≤ 7)))) := by subst hpd hnd; rfl
  by_cases h1 : 60 < p
  · have e : fitF t ps ns = false := by rw [HF.out]; simp; omega
    rw [e]
    rw [← hpd]
    clear HF e hnr hpd
    have q : (60 : Int) < (p : Int) := by omega
    go_enter Try.func52, Try.ntmps52
    go_wp2
    go_ret
    exact ⟨rfl, rfl⟩
  by_cases h2 : 60 < n
  · have e : fitF t ps ns = false := by rw [HF.out]; simp; omega
    rw [e]
    rw [← hpd, ← hnd]
    clear HF e hnr hpd hnd
    have q : ¬ (60 : Int) < (p : Int) := by omega
    have q2 : (60 : Int) < (n : Int) := by omega
    go_enter Try.func52, Try.ntmps52
    go_wp2
    go_ret
    exact ⟨rfl, rfl⟩
  have q1 : ¬ (60 : Int) < (p : Int) := by omega
  have q2 : ¬ (60 : Int) < (n : Int) := by omega
  have e60 : (decide (p ≤ 60) && decide (n ≤ 60)) = true := by simp; omega
  by_cases h3 : t = 2
  · subst h3
    rw [HF.out, e60]
    rw [← hpd, ← hnd]
    clear HF hnr hpd hnd
    by_cases hp2 : p = 2
    · subst hp2
      by_cases hn0 : n = 0
      · subst hn0
        go_enter Try.func52, Try.ntmps52
        go_wp2
        go_ret
        exact ⟨rfl, rfl⟩
      · have q3 : ((n : Int) == 0) = false := by simp; omega
        have e : decide (n = 0) = false := by simp; omega
        rw [e]
        go_enter Try.func52, Try.ntmps52
        go_wp2
        go_ret
        exact ⟨rfl, rfl⟩
    · have q3 : ((p : Int) == 2) = false := by simp; omega
      have e : decide (p = 2) = false := by simp; omega
      rw [e]
      go_enter Try.func52, Try.ntmps52
      go_wp2
      go_ret
      exact ⟨rfl, rfl⟩
  have z3 : (t == 2) = false := by simpa using h3
  by_cases h4 : t = 5
  · subst h4
    rw [HF.out, e60]
    rw [← hpd, ← hnd]
    clear HF hnr hpd hnd
    by_cases hp2 : p = 1
    · subst hp2
      by_cases hn0 : n = 0
      · subst hn0
        go_enter Try.func52, Try.ntmps52
        go_wp2
        go_ret
        exact ⟨rfl, rfl⟩
      · have q3 : ((n : Int) == 0) = false := by simp; omega
        have e : decide (n = 0) = false := by simp; omega
        rw [e]
        go_enter Try.func52, Try.ntmps52
        go_wp2
        go_ret
        exact ⟨rfl, rfl⟩
    · have q3 : ((p : Int) == 1) = false := by simp; omega
      have e : decide (p = 1) = false := by simp; omega
      rw [e]
      go_enter Try.func52, Try.ntmps52
      go_wp2
      go_ret
      exact ⟨rfl, rfl⟩
  have z4 : (t == 5) = false := by simpa using h4
  by_cases h5 : t = 6
  · subst h5
    rw [HF.out, e60]
    by_cases hp2 : p = 1
    · by_cases hn0 : n = 1
      · rcases hnr with ⟨_, e⟩ | ⟨g, o, rfl, hc⟩
        · rw [e] at hnd; simp at hnd; omega
        · have c0 := hc 0 (by omega)
          obtain ⟨x, hx⟩ : ∃ x, x = ns[0]'(by omega) := ⟨_, rfl⟩
          have hh : ns.headD 9 = x := by
            rw [hx]
            cases ns with
            | nil => simp at hnd; omega
            | cons y l => rfl
          rw [← hx, Nat.add_zero] at c0
          rw [hh, ← hpd, ← hnd]
          subst hp2 hn0
          clear HF hc hpd hnd hx hh
          by_cases hx0 : x = 0
          · subst hx0
            go_enter Try.func52, Try.ntmps52
            go_wp2
            go_ret
            exact ⟨rfl, rfl⟩
          · have q3 : (x == 0) = false := by simpa using hx0
            by_cases hx1 : x = 1
            · subst hx1
              go_enter Try.func52, Try.ntmps52
              go_wp2
              go_ret
              exact ⟨rfl, rfl⟩
            · have q4 : (x == 1) = false := by simpa using hx1
              have e : decide (x = 0) = false := by simpa using hx0
              have e2 : decide (x = 1) = false := by simpa using hx1
              rw [e, e2]
              go_enter Try.func52, Try.ntmps52
              go_wp2
              go_ret
              exact ⟨rfl, rfl⟩
      · have q3 : ((n : Int) == 1) = false := by simp; omega
        have e : decide (n = 1) = false := by simp; omega
        rw [e, ← hpd, ← hnd]
        subst hp2
        clear HF hnr hpd hnd
        go_enter Try.func52, Try.ntmps52
        go_wp2
        go_ret
        exact ⟨rfl, rfl⟩
    · have q3 : ((p : Int) == 1) = false := by simp; omega
      have e : decide (p = 1) = false := by simp; omega
      rw [e, ← hpd, ← hnd]
      clear HF hnr hpd hnd
      go_enter Try.func52, Try.ntmps52
      go_wp2
      go_ret
      exact ⟨by simp, rfl⟩
  have z5 : (t == 6) = false := by simpa using h5
  rw [HF.out, e60, if_neg h3, if_neg h4, if_neg h5, ← hpd, ← hnd]
  clear HF hnr hpd hnd h3 h4 h5
  by_cases h6 : 1 ≤ t
  · by_cases h7 : t ≤ 7
    · have e : decide (t ≤ 7) = true := by simpa using h7
      have e' : decide (1 ≤ t) = true := by simpa using h6
      rw [e, e']
      go_enter Try.func52, Try.ntmps52
      go_wp2
      go_ret
      exact ⟨rfl, rfl⟩
    · have e : decide (t ≤ 7) = false := by simpa using h7
      have e' : decide (1 ≤ t) = true := by simpa using h6
      rw [e, e']
      go_enter Try.func52, Try.ntmps52
      go_wp2
      go_ret
      exact ⟨rfl, rfl⟩
  · have e : decide (1 ≤ t) = false := by simpa using h6
    rw [e]
    go_enter Try.func52, Try.ntmps52
    go_wp2
    go_ret
    exact ⟨rfl, rfl⟩
end Go.Proofs.Ytkekekdkfjjifaa
namespace Go.Proofs.Ytkekekdkfjjifaa
open Go Go.RowKit
set_option linter.unusedVariables false
set_option linter.unusedSimpArgs false
def bey (os : List Ob) (a : Int) : Bool := (a != (total os : Nat)) && !(ob os a).isSome
theorem beyond_o {w : World} {b : Nat} {G : Option Nat} {os : List Ob} {m : Nat} (h : HpO w b G os m) (a : Int) (ha : -9223372036854775808 ≤ a) (ha2 : a ≤ 9223372036854775807) :
    Calls Try.prog 54 #[.pointer (some ⟨b, 0, none⟩), .int .i64 a] w (RetV (.bool (bey os a)) w) := by
  have F40 := Lib.hid (head_o h a ha ha2)
  have F43 := Lib.hid (fun W => is_any (hdo os a).t (hdo os a).p (hdo os a).n (hdo os a).s W)
  rw [is_ob] at F43
  have F48 := Lib.hid (end_any h.1)
  rw [wds_length] at F48
  have hbl := h.1.lt
  obtain ⟨c, hc⟩ : ∃ c, c = (ob os a).isSome := ⟨_, rfl⟩
  have HR : Hid (bey os a = ((a != (total os : Nat)) && !c)) := by show _ = _; rw [hc]; rfl
  rw [← hc] at F43
  clear hc h
  generalize hdo os a = x at F40 F43
  generalize total os = N at F48 HR
  cases q : (a != (N : Int)) with
  | false =>
    rw [q] at HR
    rw [HR.out]
    go_enter Try.func54, Try.ntmps54
    go_wp2_with fail
    refine F48.out.mono ?_
    rintro e w1 ⟨rfl, rfl⟩
    go_wp2_with fail
    go_ret
    exact ⟨rfl, Below.refl _ _⟩
  | true =>
    rw [q] at HR
    rw [HR.out]
    go_enter Try.func54, Try.ntmps54
    go_wp2_with fail
    refine F48.out.mono ?_
    rintro e w1 ⟨rfl, rfl⟩
    clear F48
    go_wp2_with fail
    refine F40.out.mono ?_
    rintro e w1 ⟨rfl, hw1⟩
    have HB1 := Lib.hid hw1
    clear hw1 F40
    go_wp2_with fail
    refine (F43.out _).mono ?_
    rintro e w2 ⟨rfl, hw2⟩
    have HB2 := Lib.hid (HB1.out.trans (hw2.mono HB1.out.size))
    clear hw2 F43
    go_wp2_with fail
    go_ret
    exact ⟨rfl, HB2.out⟩
theorem IsS.below {w w' : World} {v : Value} {l : List Int} (h : IsS w v l) (hb : Below w.heap.size w w') : IsS w' v l := by
  obtain ⟨ao, cap, e, hc, h⟩ := h
  refine ⟨ao, cap, e, hc, ?_⟩
  rcases h with h | ⟨g, o, e2, h⟩
  · exact .inl h
  · refine .inr ⟨g, o, e2, fun i hi => ?_⟩
    have := h i hi
    exact (hb.cell (p := ⟨g, o + i, none⟩) (World.block_lt_of_cell? w _ this)).trans this
def IxInv (os : List Ob) (ps : List Int) (w : World) (iv : Value) (wr : World) : Prop :=
  ∃ j : Nat, j ≤ ps.length ∧ iv = .int .i64 (j : Int) ∧ (ps.take j).any (bey os) = false ∧ Below w.heap.size w wr
set_option maxHeartbeats 8000000 in
set_option maxRecDepth 100000 in
theorem indexFunc_o {w : World} {b : Nat} {G : Option Nat} {os : List Ob} {m : Nat} (h : HpO w b G os m) (pv : Value) (ps : List Int) (hp : IsS w pv ps) (hpl : ps.length ≤ 1000000) (hpr : ∀ p ∈ ps, -9223372036854775808 ≤ p ∧ p ≤ 9223372036854775807) :
    Calls Try.prog 70 #[pv, .func (.func 54) #[.pointer (some ⟨b, 0, none⟩)] #[]] w fun e w' => ∃ r : Int, e = .returned (.int .i64 r) ∧ decide (0 ≤ r) = ps.any (bey os) ∧ Below w.heap.size w w' := by
  have F46 := Lib.hid (fun W (hb : Below w.heap.size w W) (a : Int) (h1 : -9223372036854775808 ≤ a) (h2 : a ≤ 9223372036854775807) => beyond_o (h.below hb) a h1 h2)
  have HP := Lib.hid hp
  obtain ⟨ao, cap, rfl, hcap, _⟩ := hp
  have hbl := h.1.lt
  have HPR := Lib.hid hpr
  clear h hpr
  obtain ⟨n, hn⟩ : ∃ n, n = ps.length := ⟨_, rfl⟩
  rw [← hn] at hpl hcap ⊢
  have HN := Lib.hid hn
  clear hn
  have H0 : Hid (IxInv os ps w (.int .i64 0) w) := ⟨0, Nat.zero_le _, rfl, rfl, Below.refl _ _⟩
  go_enter Try.func70, Try.ntmps70
  go_wp2_with fail
  go_loopw [8] (fun iv wr => IxInv os ps w iv wr) (fun iv _ => n - (intOf iv).toNat)
  case atStart => exact H0.out
  case round =>
    clear H0
    obtain ⟨j, hj, rfl, hany, hbel⟩ := hrel
    rw [← HN.out] at hj
    have HB := Lib.hid hbel
    have HA := Lib.hid hany
    clear hany hbel
    by_cases hjn : j < n
    · have q1 : decide ((j : Int) < (n : Int)) = true := decide_eq_true (by omega)
      have hjl : j < ps.length := by rw [← HN.out]; exact hjn
      obtain ⟨ao', cap', e1, _, hr⟩ := HP.out.below HB.out
      injection e1 with e1 e2 e3
      rcases hr with ⟨_, e⟩ | ⟨g, o, e4, hc⟩
      · have := HN.out; rw [e] at this; simp at this; omega
      · rw [← e1] at e4
        subst e4
        have c0 := hc j hjl
        have hpj := HPR.out _ (List.getElem_mem hjl)
        have HNX : Hid ((ps.take (j + 1)).any (bey os) = bey os ps[j]) := by
          show _ = _
          rw [List.take_succ_eq_append_getElem hjl, List.any_append, HA.out]; simp
        have HAN : Hid (bey os ps[j] = true → ps.any (bey os) = true) := fun h => List.any_eq_true.2 ⟨_, List.getElem_mem hjl, h⟩
        generalize ps[j] = p at c0 hpj HNX HAN
        have F := Lib.hid (F46.out wr HB.out p hpj.1 hpj.2)
        generalize bey os p = t at F HNX HAN
        clear e1 e2 e3 hc hpj
        go_wp2_with fail
        refine F.out.mono ?_
        rintro e w2 ⟨rfl, hb2⟩
        have HB2 := Lib.hid (HB.out.trans (hb2.mono HB.out.size))
        clear hb2 F
        cases t with
        | true =>
          go_wp2_with fail
          go_ret
          exact ⟨_, rfl, by rw [HAN.out (by trivial)]; simp, HB2.out⟩
        | false =>
          go_wp2_with fail
          go_roundw
          case rel => exact ⟨j + 1, by rw [← HN.out]; omega, by go_num, HNX.out, HB2.out⟩
          case measure => simp [intOf]; omega
    · have hjn2 : j = n := by omega
      subst hjn2
      have q1 : decide ((j : Int) < (j : Int)) = false := decide_eq_false (by omega)
      have HR : Hid (ps.any (bey os) = false) := by
        have := HA.out
        rw [HN.out, List.take_length] at this
        exact this
      go_wp2_with fail
      go_ret
      exact ⟨_, rfl, by rw [HR.out]; rfl, HB.out⟩
theorem containsFunc_o {w : World} {b : Nat} {G : Option Nat} {os : List Ob} {m : Nat} (h : HpO w b G os m) (pv : Value) (ps : List Int) (hp : IsS w pv ps) (hpl : ps.length ≤ 1000000) (hpr : ∀ p ∈ ps, -9223372036854775808 ≤ p ∧ p ≤ 9223372036854775807) :
    Calls Try.prog 53 #[pv, .func (.func 54) #[.pointer (some ⟨b, 0, none⟩)] #[]] w (RetV (.bool (ps.any (bey os))) w) := by
  have F := Lib.hid (indexFunc_o h pv ps hp hpl hpr)
  clear h hp hpl hpr
  generalize ps.any (bey os) = c at F
  go_enter Try.func53, Try.ntmps53
  go_wp2_with fail
  refine F.out.mono ?_
  rintro e w1 ⟨r, rfl, hr, hb⟩
  have HB := Lib.hid hb
  have HR := Lib.hid hr
  clear hb hr F
  go_wp2_with fail
  go_ret
  exact ⟨by rw [← HR.out]; rfl, HB.out⟩
end Go.Proofs.Ytkekekdkfjjifaa
namespace Go.Proofs.Ytkekekdkfjjifaa
open Go Go.RowKit
set_option linter.unusedVariables false
set_option linter.unusedSimpArgs false
/-- Words with these values from place f on. -/
def filled (l : List Wd) (f : Nat) : List Int → List Wd
  | [] => l
  | v :: r => filled (l.set f { l.getD f ⟨0, 0, 0, 0, 0⟩ with v := v }) (f + 1) r
theorem filled_len : ∀ (r : List Int) (l : List Wd) (f : Nat), (filled l f r).length = l.length
  | [], l, f => rfl
  | v :: r, l, f => by unfold filled; rw [filled_len r]; simp
theorem filled_snoc : ∀ (r : List Int) (l : List Wd) (f : Nat) (v : Int), filled l f (r ++ [v]) = (filled l f r).set (f + r.length) { (filled l f r).getD (f + r.length) ⟨0, 0, 0, 0, 0⟩ with v := v }
  | [], l, f, v => by simp [filled]
  | u :: r, l, f, v => by
    show filled _ (f + 1) (r ++ [v]) = _
    rw [filled_snoc r _ (f + 1) v]
    have e : f + 1 + r.length = f + (u :: r).length := by simp; omega
    rw [e]; rfl
theorem filled_append : ∀ (r q : List Int) (l : List Wd) (f : Nat), filled l f (r ++ q) = filled (filled l f r) (f + r.length) q
  | [], q, l, f => rfl
  | u :: r, q, l, f => by
    show filled _ (f + 1) (r ++ q) = filled (filled _ (f + 1) r) _ q
    rw [filled_append r q _ (f + 1), show f + 1 + r.length = f + (u :: r).length by simp; omega]
theorem filled_new : ∀ (r : List Int) (l m : List Wd), filled (l ++ List.replicate r.length ⟨0, 0, 0, 0, 0⟩ ++ m) l.length r = l ++ r.map (fun v => (⟨0, 0, 0, 0, v⟩ : Wd)) ++ m
  | [], l, m => by simp [filled]
  | v :: r, l, m => by
    unfold filled
    have e1 : l ++ List.replicate (v :: r).length (⟨0, 0, 0, 0, 0⟩ : Wd) ++ m = l ++ (⟨0, 0, 0, 0, 0⟩ :: (List.replicate r.length ⟨0, 0, 0, 0, 0⟩ ++ m)) := by simp [List.replicate_succ]
    rw [e1]
    have e2 : (l ++ ((⟨0, 0, 0, 0, 0⟩ : Wd) :: (List.replicate r.length ⟨0, 0, 0, 0, 0⟩ ++ m))).getD l.length ⟨0, 0, 0, 0, 0⟩ = ⟨0, 0, 0, 0, 0⟩ := by simp
    rw [e2]
    have e3 : (l ++ ((⟨0, 0, 0, 0, 0⟩ : Wd) :: (List.replicate r.length ⟨0, 0, 0, 0, 0⟩ ++ m))).set l.length ⟨0, 0, 0, 0, v⟩ = (l ++ [⟨0, 0, 0, 0, v⟩]) ++ List.replicate r.length ⟨0, 0, 0, 0, 0⟩ ++ m := by
      rw [List.set_append_right _ _ (by omega)]; simp
    rw [e3]
    have := filled_new r (l ++ [⟨0, 0, 0, 0, v⟩]) m
    simp only [List.length_append, List.length_cons, List.length_nil] at this
    rw [this]; simp
/-- A slice's cells lie elsewhere. -/
def Apart (xv : Value) (b : Nat) (G : Option Nat) : Prop := ∀ ao n c g o, xv = .slice ao n c → 0 < n → ao = some ⟨g, o, none⟩ → g ≠ b ∧ G ≠ some g
def FillInv (b : Nat) (G : Option Nat) (l : List Wd) (m f : Nat) (xs : List Int) (w : World) (iv : Value) (wr : World) : Prop :=
  ∃ j : Nat, j ≤ xs.length ∧ iv = .int .i64 (j : Int) ∧ Hp wr b G (filled l f (xs.take j)) m ∧ Fr (own b G) w wr
set_option maxHeartbeats 8000000 in
set_option maxRecDepth 100000 in
theorem fill_any {w : World} {b : Nat} {G : Option Nat} {l : List Wd} {m : Nat} (h : Hp w b G l m) (f : Nat) (xv : Value) (xs : List Int) (hx : IsS w xv xs)
    (hxo : Apart xv b G) (hfl : f + xs.length ≤ l.length) :
    Calls Try.prog 71 #[.pointer (some ⟨b, 0, none⟩), .int .i64 f, xv] w fun e w' => e = .returned (.tuple #[]) ∧ Hp w' b G (filled l f xs) m ∧ Fr (own b G) w w' := by
  have HX := Lib.hid hx
  obtain ⟨ao, cap, rfl, hcap, _⟩ := hx
  have hbl := h.lt
  have hll : l.length ≤ 1000000 := by obtain ⟨_, _, _, _, h, _⟩ := h; exact h
  have HXO := Lib.hid hxo
  have H0 : Hid (FillInv b G l m f xs w (.int .i64 0) w) := ⟨0, Nat.zero_le _, rfl, by simpa [filled] using h, Fr.refl _ _⟩
  clear h hxo
  obtain ⟨n, hn⟩ : ∃ n, n = xs.length := ⟨_, rfl⟩
  rw [← hn] at hcap hfl ⊢
  have HN := Lib.hid hn
  clear hn
  obtain ⟨L, hL⟩ : ∃ L, L = l.length := ⟨_, rfl⟩
  rw [← hL] at hfl hll
  have HLL := Lib.hid hL
  clear hL
  go_enter Try.func71, Try.ntmps71
  go_wp2_with fail
  go_loopw [10] (fun iv wr => FillInv b G l m f xs w iv wr) (fun iv _ => n - (intOf iv).toNat)
  case atStart => exact H0.out
  case round =>
    clear H0
    obtain ⟨j, hj, rfl, hHp, hfr⟩ := hrel
    rw [← HN.out] at hj
    have HH := Lib.hid hHp
    have HFR := Lib.hid hfr
    clear hHp hfr
    by_cases hjn : j < n
    · have q1 : decide ((j : Int) < (n : Int)) = true := decide_eq_true (by omega)
      have hjl : j < xs.length := by rw [← HN.out]; exact hjn
      obtain ⟨ao', cap', e1, _, hr⟩ := HX.out
      injection e1 with e1 e2 e3
      rcases hr with ⟨_, e⟩ | ⟨g, o, e4, hc⟩
      · have := HN.out; rw [e] at this; simp at this; omega
      · rw [← e1] at e4
        subst e4
        have c0 := hc j hjl
        have hgl : g < w.heap.size := World.block_lt_of_cell? w _ c0
        obtain ⟨hgb, hgG⟩ := HXO.out _ _ _ g o rfl (by omega) rfl
        have c1 : wr.cell? ⟨g, o + j, none⟩ = some (.int .i64 xs[j]) := by
          rw [← c0]
          exact World.cell?_of_block (w := w) (HFR.out.block g hgl (fun hh => by rcases hh with hh | hh; exact hgb hh; exact hgG hh))
        obtain ⟨k, hk⟩ : ∃ k, k = f + j := ⟨_, rfl⟩
        have hkL : k < L := by omega
        have hfj : (f : Int) + (j : Int) = (k : Int) := by omega
        have hFL : (filled l f (xs.take j)).length = L := by rw [filled_len, HLL.out]
        obtain ⟨aw, capw, hc0, -, -, hcapw, hcw⟩ := HH.out.cell
        have hkF : k < (filled l f (xs.take j)).length := by rw [hFL]; exact hkL
        obtain ⟨gw, rfl, hGw, ⟨cc, hcc⟩, -, -, -, -, d4⟩ := hcw k hkF
        have hfz := frozen_of_row wr gw (k * 5 + 4) _ _ hcc
        have hnx : filled l f (xs.take (j + 1)) = (filled l f (xs.take j)).set k { (filled l f (xs.take j))[k] with v := xs[j] } := by
          rw [List.take_succ_eq_append_getElem hjl, filled_snoc]
          have e : f + (xs.take j).length = k := by rw [List.length_take]; omega
          rw [e, List.getD_eq_getElem?_getD, List.getElem?_eq_getElem hkF]; rfl
        have hput := HH.out.putv hGw k hkF xs[j]
        rw [← hnx] at hput
        have hfr := HFR.out.setCell (p := ⟨gw, k * 5 + 4, none⟩) (.inr hGw) (.int .i64 xs[j])
        generalize xs[j] = p at c1 hput hfr
        have HREL : Hid (FillInv b G l m f xs w (.int .i64 ((j : Int) + 1)) (wr.setCell ⟨gw, k * 5 + 4, none⟩ (.int .i64 p))) :=
          ⟨j + 1, by rw [← HN.out]; omega, by go_num, hput, hfr⟩
        generalize ((filled l f (xs.take j))[k]).v = v0 at d4
        rw [hFL] at hc0 hcapw
        have hkLi : (k : Int) < (L : Int) := by omega
        clear e1 e2 e3 hc c0 hgb hgG hkF hcw hcc hGw hnx hput hfr hFL hk
        go_wp2_with fail
        go_roundw
        case rel => exact HREL.out
        case measure => simp [intOf]; omega
    · have hjn2 : j = n := by omega
      subst hjn2
      have q1 : decide ((j : Int) < (j : Int)) = false := decide_eq_false (by omega)
      have HR : Hid (Hp wr b G (filled l f xs) m) := by
        have := HH.out
        rw [HN.out, List.take_length] at this
        exact this
      go_wp2_with fail
      go_end0
      exact ⟨rfl, HR.out, HFR.out⟩
end Go.Proofs.Ytkekekdkfjjifaa
namespace Go.Proofs.Ytkekekdkfjjifaa
open Go Go.RowKit
set_option linter.unusedVariables false
set_option linter.unusedSimpArgs false
def zw : Wd := ⟨0, 0, 0, 0, 0⟩
theorem infoW : (Try.prog.info? 79).map (fun i => (i.zero, i.size, i.bytes)) = some (some (.agg #[.int .u8 0, .int .u8 0, .int .u8 0, .int .u8 0, .int .i64 0]), 5, 16) := by kernel_rfl
def Z5 : Array Value := #[.int .u8 0, .int .u8 0, .int .u8 0, .int .u8 0, .int .i64 0]
theorem z5_at (r : Nat) (h : r < 5) : Z5[r]! = zw.cells[r]?.getD undef := by
  rcases (show r = 0 ∨ r = 1 ∨ r = 2 ∨ r = 3 ∨ r = 4 by omega) with rfl | rfl | rfl | rfl | rfl <;> rfl
theorem zw_some (r : Nat) (h : r < 5) : some (zw.cells[r]?.getD undef) = zw.cells[r]? := by
  rcases (show r = 0 ∨ r = 1 ∨ r = 2 ∨ r = 3 ∨ r = 4 by omega) with rfl | rfl | rfl | rfl | rfl <;> rfl
theorem zero_words (n : Nat) : (Builtin.zeroCells Z5 n).toList = wcells (List.replicate n zw) := by
  apply List.ext_getElem?
  intro i
  have hl : (wcells (List.replicate n zw)).length = n * 5 := by rw [wcells_length, List.length_replicate]
  have hz : Z5.size = 5 := rfl
  have hl2 : (Builtin.zeroCells Z5 n).toList.length = n * 5 := by rw [Array.length_toList, size_zeroCells, hz]
  by_cases h : i < n * 5
  · have e : i = i / 5 * 5 + i % 5 := by omega
    have h5 : i % 5 < 5 := Nat.mod_lt _ (by decide)
    have hd : i / 5 < (List.replicate n zw).length := by rw [List.length_replicate]; omega
    have h1 := wcells_get (List.replicate n zw) (i / 5) hd (i % 5) h5
    rw [← e] at h1
    rw [h1, List.getElem_replicate, ← zw_some _ h5, ← z5_at _ h5]
    simp only [Builtin.zeroCells, Array.toList_map, Array.toList_range, List.getElem?_map, hz]
    rw [List.getElem?_range h]
    rfl
  · rw [List.getElem?_eq_none (by omega), List.getElem?_eq_none (by omega)]
theorem wcells_one (l : List Wd) : ∀ u ∈ wcells l, u.oneCell' = true := by
  intro u hu
  obtain ⟨x, _, hx⟩ := List.mem_flatMap.1 hu
  simp [Wd.cells] at hx
  rcases hx with rfl | rfl | rfl | rfl | rfl <;> rfl
set_option maxRecDepth 100000 in
theorem run_appZ (w : World) (ty : Nat) (v : Value) (n : Nat) (xs : List Value) (hown : w.ownsRow 0 79 5 v n xs) (m : Nat) (hm : 1 ≤ m) (hn : n + m ≤ 1000000000) :
    ∃ v' w', (Builtin.append_ #[71, 3] ty #[v, .int .i64 m]).run Try.prog w = .ok v' w' ∧ w'.ownsRow 0 79 5 v' (n + m) (xs ++ wcells (List.replicate m zw)) ∧ w.grownBy w' v.ownBlock ∧ (∀ k, v'.ownBlock = some k → v.ownBlock = some k ∨ w.heap.size ≤ k) := by
  obtain ⟨i, hi, hz, hs, hb⟩ := info_parts infoW
  have hlz : (wcells (List.replicate m zw)).length = m * 5 := by rw [wcells_length, List.length_replicate]
  have hw : IntKind.i64.wrap (m : Int) = m := by rw [IntKind.wrap_i64]; omega
  have hw0 : ¬ ((m : Int) < 0) := by omega
  have hbig : ¬ (281474976710656 < (m : Int) * 16) := by omega
  have hm0 : m * 5 ≠ 0 := by omega
  have hm1 : m ≠ 0 := by omega
  have hcz0 := zero_words m
  have hcz : (Builtin.zeroCells (Value.agg #[.int .u8 0, .int .u8 0, .int .u8 0, .int .u8 0, .int .i64 0]).cells m).toList = wcells (List.replicate m zw) := hcz0
  have hcz2 : Builtin.zeroCells (Value.agg #[.int .u8 0, .int .u8 0, .int .u8 0, .int .u8 0, .int .i64 0]).cells m = (wcells (List.replicate m zw)).toArray := by
    apply Array.ext'; rw [hcz]
  have hlen : (xs ++ wcells (List.replicate m zw)).length = (n + m) * 5 := by rw [List.length_append, hown.1, hlz, Nat.add_mul]
  have hz5 : (Value.agg #[.int .u8 0, .int .u8 0, .int .u8 0, .int .u8 0, .int .i64 0]).cells.size = 5 := rfl
  have hmn : n + m ≤ maxLen := by unfold maxLen; omega
  have h63 : ¬ (9223372036854775807 < ((n : Int) + (m : Int))) := by omega
  have grown : ∀ (old : Nat), old < n + m → ∀ (row : Option Nat),
      (w.drew.alloc (.cells (xs.toArray ++ (wcells (List.replicate m zw)).toArray ++ Builtin.zeroCells (Value.agg #[.int .u8 0, .int .u8 0, .int .u8 0, .int .u8 0, .int .i64 0]).cells (grownCap w (n + m) old 79 - (n + m))) 79)).ownsRow 0 79 5
        (.slice (some ⟨w.heap.size, 0, none⟩) (n + m) (grownCap w (n + m) old 79)) (n + m) (xs ++ wcells (List.replicate m zw)) ∧
      w.grownBy (w.drew.alloc (.cells (xs.toArray ++ (wcells (List.replicate m zw)).toArray ++ Builtin.zeroCells (Value.agg #[.int .u8 0, .int .u8 0, .int .u8 0, .int .u8 0, .int .i64 0]).cells (grownCap w (n + m) old 79 - (n + m))) 79)) row := by
    intro old ho row
    have hge := grownCap_ge w (n + m) old 79
    have hcm : grownCap w (n + m) old 79 ≤ maxLen := grownCap_le_maxLen w (n + m) old 79 hmn
    refine ⟨⟨hlen, .inr ⟨w.heap.size, _, _, rfl, Nat.zero_le _, heap_alloc_new w.drew _, hge, hcm, ?_, ?_⟩⟩, ⟨rfl, rfl, rfl, by simp, fun k hk _ => Below.heap_alloc w.drew _ k hk⟩⟩
    · simp only [Array.size_append, List.size_toArray, size_zeroCells, hz5, hown.1, hlz, ← Nat.add_mul]
      congr 1
      omega
    · simp only [Array.toList_append, List.append_assoc]
      rw [← List.append_assoc, ← hlen]
      exact List.take_left
  rcases hown.2 with ⟨rfl, rfl⟩ | ⟨g, cap, cur, rfl, hbg, hg, hnc, hcm, hcs, htake⟩
  · have hx : xs = [] := List.eq_nil_of_length_eq_zero (by simpa using hown.1)
    subst hx
    have hcap : ¬ (281474976710656 < Builtin.nextslicecap m 0 * 16) := by rw [nextslicecap_zero (by omega)]; omega
    have h63' : ¬ (9223372036854775807 < (m : Int)) := by omega
    have hr : (Builtin.append_ #[71, 3] ty #[.slice none 0 0, .int .i64 m]).run Try.prog w = .ok (.slice (some ⟨w.heap.size, 0, none⟩) m (grownCap w m 0 79)) (w.drew.alloc (.cells ((wcells (List.replicate m zw)).toArray ++ Builtin.zeroCells (Value.agg #[.int .u8 0, .int .u8 0, .int .u8 0, .int .u8 0, .int .i64 0]).cells (grownCap w m 0 79 - m)) 79)) := by
      simp [Builtin.append_, run_underlying Try.underlying71, run_underlying Try.underlying3, sizeOf, typeInfo, zeroValue, hi, hz, hs, hb, hw, hw0, hbig, hm0, hm1, hcap, h63', asInt, asIntOf, hcz2, Question.forced, run_firstCells_none, newRow, grownCap]
    have hgr := grown 0 (by omega) (Value.ownBlock (.slice none 0 0))
    simp only [Nat.zero_add, List.nil_append, Array.empty_append] at hgr ⊢
    exact ⟨_, _, hr, hgr.1, hgr.2, fun k hk => .inr (Nat.le_of_eq (Option.some.inj hk))⟩
  · by_cases hroom : n + m ≤ cap
    · have hfit : n * 5 + (wcells (List.replicate m zw)).length ≤ cur.size := by rw [hlz, hcs]; omega
      have hst := run_storeCells_at Try.prog g (n * 5) 79 (wcells (List.replicate m zw)) 0 cur w hg (by simpa using hfit) (wcells_one _)
      simp only [Nat.add_zero] at hst
      have hr : (Builtin.append_ #[71, 3] ty #[.slice (some ⟨g, 0, none⟩) n cap, .int .i64 m]).run Try.prog w = .ok (.slice (some ⟨g, 0, none⟩) (n + m) cap) (w.setRow g (cur.toList.take (n * 5) ++ wcells (List.replicate m zw) ++ cur.toList.drop (n * 5 + (wcells (List.replicate m zw)).length)).toArray) := by
        simp [Builtin.append_, run_underlying Try.underlying71, run_underlying Try.underlying3, sizeOf, typeInfo, zeroValue, hi, hz, hs, hb, hw, hw0, hbig, hm0, hm1, asInt, asIntOf, hroom, Addr.add_lit, hcz, hst]
      refine ⟨_, _, hr, ⟨hlen, .inr ⟨g, cap, _, rfl, hbg, setRow_heap w g cur _ 79 _ hg, hroom, hcm, ?_, ?_⟩⟩, ⟨rfl, rfl, rfl, by simp, fun k _ hk => setRow_other w g k _ (fun e => hk (by simp [Value.ownBlock, e]))⟩, fun k hk => .inl hk⟩
      · simp only [List.size_toArray, List.length_append, List.length_take, List.length_drop, Array.length_toList]
        omega
      · rw [htake, ← hlen]
        exact List.take_left
    · have holds : ∀ j u, xs[j]? = some u → w.cell? ((⟨g, 0, none⟩ : Addr).add j) = some u := hown.cells (g := g) rfl
      have hold := run_firstCells_some (P := Try.prog) w.drew 5 n ⟨g, 0, none⟩ n cap xs hown.1 (by simpa using holds)
      have hfits := growslice_fits (need := n + m) (old := cap) (bytes := 16) (by omega) (by omega)
      have hcap : ¬ (281474976710656 < Builtin.nextslicecap (n + m) cap * 16) := by omega
      have hr : (Builtin.append_ #[71, 3] ty #[.slice (some ⟨g, 0, none⟩) n cap, .int .i64 m]).run Try.prog w = .ok (.slice (some ⟨w.heap.size, 0, none⟩) (n + m) (grownCap w (n + m) cap 79)) (w.drew.alloc (.cells (xs.toArray ++ (wcells (List.replicate m zw)).toArray ++ Builtin.zeroCells (Value.agg #[.int .u8 0, .int .u8 0, .int .u8 0, .int .u8 0, .int .i64 0]).cells (grownCap w (n + m) cap 79 - (n + m))) 79)) := by
        simp [Builtin.append_, run_underlying Try.underlying71, run_underlying Try.underlying3, sizeOf, typeInfo, zeroValue, hi, hz, hs, hb, hw, hw0, hbig, hm0, hm1, hcap, h63, hroom, asInt, asIntOf, hcz2, hold, Question.forced, newRow, grownCap]
        try (congr 2; apply Array.ext'; simp [List.append_assoc])
      have hgr := grown cap (by omega) (Value.ownBlock (.slice (some ⟨g, 0, none⟩) n cap))
      exact ⟨_, _, hr, hgr.1, hgr.2, fun k hk => .inr (Nat.le_of_eq (Option.some.inj hk))⟩
theorem wp_appZ {o : Oper} {a : Act} {w : World} {K : Act → World → Prop} {Q : Exit → Act → World → Prop} (s x : Operand)
    (ho : o.op = .call { callee := .builtin .append, args := #[s, x], argTypes := #[71, 3] }) (v : Value) (n : Nat) (xs : List Value) (hs : a.eval s = v) (hown : w.ownsRow 0 79 5 v n xs)
    (m : Nat) (hx : a.eval x = .int .i64 m) (hm : 1 ≤ m) (hn : n + m ≤ 1000000000)
    (h : ∀ v' w', w'.ownsRow 0 79 5 v' (n + m) (xs ++ wcells (List.replicate m zw)) → w.grownBy w' v.ownBlock → (∀ k, v'.ownBlock = some k → v.ownBlock = some k ∨ w.heap.size ≤ k) → K (a.put o.dst v') w') : o.wp Try.prog a w K Q := by
  obtain ⟨v', w', hr, h2, h3, h4⟩ := run_appZ w o.type v n xs hown m hm hn
  unfold Oper.wp execOp
  simp only [ho, resolve, invoke, builtin, Sem.run_bind, Sem.run_pure, Result.andThen_ok, List.map_toArray, List.map_cons, List.map_nil, hs, hx, hr]
  exact h v' w' h2 h3 h4
end Go.Proofs.Ytkekekdkfjjifaa
namespace Go
section
variable {P : Program} {ops : Array Oper} {Q : Exit → Act → World → Prop} {md : Region.Mode} {S : World → Prop} {late : Nat → Bool}
/-- Whatever comes up: behind a late operation nothing is known any more, behind each other one S holds. -/
def wpAnyL (P : Program) (md : Region.Mode) (ops : Array Oper) (Q : Exit → Act → World → Prop) (S : World → Prop) (late : Nat → Bool) : Nat → Array Bool → Act → World → Prop
  | 0, listed, a, w => Region.ready md ops listed = [] ∧ Q .normal a w
  | n + 1, listed, a, w =>
    (Region.ready md ops listed = [] → Q .normal a w) ∧
    ∀ i ∈ Region.ready md ops listed, wpOp P ops Q i (fun b v => (late i = true ∧ wpAny P md ops Q n (listed.setIfInBounds i true) b v) ∨ (late i = false ∧ S v ∧ wpAnyL P md ops Q S late n (listed.setIfInBounds i true) b v)) a w
theorem wpAnyL.any : ∀ {n : Nat} {listed : Array Bool} {a : Act} {w : World}, wpAnyL P md ops Q S late n listed a w → wpAny P md ops Q n listed a w
  | 0, _, _, _, h => h
  | _ + 1, _, _, _, h => ⟨h.1, fun i hi => wpOp_mono (fun _ _ h => by
      rcases h with h | h
      · exact h.2
      · exact h.2.2.any) (h.2 i hi)⟩
/-- B: operations that are not listed and wait, at last, for number i; the late ones are among them. -/
def waitsB (md : Region.Mode) (ops : Array Oper) (late : Nat → Bool) (B : List Nat) (listed : Array Bool) (i : Nat) : Bool :=
  !late i && (List.range ops.size).all (fun j => !late j || B.contains j) && B.all (fun k => !listed.getD k true && (match ops[k]? with | some o => o.after.any fun e => Region.binds md e && (e.on == i || B.contains e.on) | none => false))
def Waits (md : Region.Mode) (ops : Array Oper) (B : List Nat) (listed : Array Bool) (i : Nat) : Prop := ∀ k ∈ B, listed.getD k true = false ∧ ∀ o, ops[k]? = some o → ∃ e ∈ o.after, Region.binds md e = true ∧ (e.on = i ∨ e.on ∈ B)
theorem waits_spec {B : List Nat} {listed : Array Bool} {i : Nat} (h : waitsB md ops late B listed i = true) : late i = false ∧ (∀ j oj, ops[j]? = some oj → late j = true → j ∈ B) ∧ Waits md ops B listed i := by
  unfold waitsB at h
  simp only [Bool.and_eq_true] at h
  obtain ⟨⟨h1, h2⟩, h3⟩ := h
  refine ⟨by simpa using h1, fun j oj hj hl => ?_, fun k hk => ?_⟩
  · have h4 := List.all_eq_true.1 h2 j (List.mem_range.2 (Array.getElem?_eq_some_iff.1 hj).1)
    rw [hl] at h4
    simpa using h4
  · have h4 := List.all_eq_true.1 h3 k hk
    rw [Bool.and_eq_true] at h4
    refine ⟨by simpa using h4.1, fun o ho => ?_⟩
    have h5 := h4.2
    rw [ho] at h5
    obtain ⟨e, he, h6⟩ := Array.any_eq_true'.1 h5
    rw [Bool.and_eq_true, Bool.or_eq_true, beq_iff_eq] at h6
    exact ⟨e, he, h6.1, h6.2.imp id (fun h => by simpa using h)⟩
theorem wpAnyL_pull {i : Nat} {oi : Oper} {v : Value} (hi : ops[i]? = some oi) (hsel : Region.noSelect ops = true) (hQ : ∀ c a w, Q (.panic c) (a.put oi.dst v) w → Q (.panic c) a w) (hli : late i = false) {B : List Nat} (hlB : ∀ j oj, ops[j]? = some oj → late j = true → j ∈ B) :
    ∀ (n : Nat) (listed : Array Bool) (a : Act) (w : World),
      (∀ j oj, ops[j]? = some oj → j ≠ i → listed.getD j true = false → (∀ e ∈ oj.after, Region.binds md e = true → e.on ≠ i) → oi.apart ops oj = true) →
      i ∈ Region.ready md ops listed → Waits md ops B listed i → YieldsIf P ops S oi v a → S w →
      wpAnyL P md ops Q S late n (listed.setIfInBounds i true) (a.put oi.dst v) w → wpAnyL P md ops Q S late (n + 1) listed a w
  | n, listed, a, w, hfree, hr, hwt, hy, hS, H => by
    refine ⟨fun h => (by rw [h] at hr; cases hr), fun j hj => ?_⟩
    by_cases hji : j = i
    · rw [hji]
      exact hy.wpOp hi hS (.inr ⟨hli, hS, H⟩)
    · obtain ⟨hun, oj, hoj, hall⟩ := mem_ready.1 hj
      have hnot : ∀ e ∈ oj.after, Region.binds md e = true → e.on ≠ i := fun e he hb heq => by
        have h1 := hall e he hb
        have h0 := (mem_ready.1 hr).1
        rw [heq] at h1
        rcases Nat.lt_or_ge i listed.size with h' | h'
        · simp [h'] at h0 h1; rw [h0] at h1; cases h1
        · simp [Array.getElem?_eq_none h'] at h1
      have hnB : j ∉ B := fun h => by
        obtain ⟨_, h2⟩ := hwt j h
        obtain ⟨e, he, hb, h3⟩ := h2 oj hoj
        rcases h3 with h3 | h3
        · exact hnot e he hb h3
        · have h4 := (hwt _ h3).1
          have h5 := hall e he hb
          rcases Nat.lt_or_ge e.on listed.size with h' | h'
          · simp [h'] at h4 h5; rw [h4] at h5; cases h5
          · simp [Array.getElem?_eq_none h'] at h4
      have hlj : late j = false := by
        cases h : late j with
        | false => rfl
        | true => exact absurd (hlB j oj hoj h) hnB
      have hj2 := ready_mono hj hji
      cases n with
      | zero =>
        rw [H.1] at hj2
        cases hj2
      | succ n =>
        have h2 := wpOp_putIf hoj (hfree j oj hoj hji hun hnot) (fun cs b => Region.noSelect_spec hsel i oi cs b hi) (fun cs b => Region.noSelect_spec hsel j oj cs b hoj) hQ hy (H.2 j hj2)
        refine wpOp_mono (fun b u h3 => .inr ⟨hlj, ?_⟩) h2
        obtain ⟨h4, h5⟩ := h3
        rcases h5 with h5 | h5
        · rw [hlj] at h5; cases h5.1
        · refine ⟨h5.2.1, wpAnyL_pull hi hsel hQ hli hlB n (listed.setIfInBounds j true) b u (fun k ok hk hki hun2 hno => ?_) (ready_mono hr (Ne.symm hji)) (fun k hk => ⟨?_, (hwt k hk).2⟩) h4 h5.2.1 ?_⟩
          · refine hfree k ok hk hki ?_ hno
            by_cases hjk : j = k
            · subst hjk; exact hun
            · rw [getD_set_ne true hjk] at hun2; exact hun2
          · rw [getD_set_ne true (fun e => hnB (by rw [e]; exact hk))]; exact (hwt k hk).1
          · rw [Array.setIfInBounds_comm _ _ hji]
            exact h5.2.2
theorem wpAnyL_take {i : Nat} {oi : Oper} {v : Value} {n : Nat} {listed : Array Bool} {a : Act} {w : World} (hi : ops[i]? = some oi)
    (hs : Region.noSelect ops = true) (hf : Region.free md ops listed i = true) (hr : (Region.ready md ops listed).contains i = true) {B : List Nat} (hw : waitsB md ops late B listed i = true)
    (hQ : ∀ c a w, Q (.panic c) (a.put oi.dst v) w → Q (.panic c) a w) (hy : YieldsIf P ops S oi v a) (hS : S w)
    (h : wpAnyL P md ops Q S late n (listed.setIfInBounds i true) (a.put oi.dst v) w) : wpAnyL P md ops Q S late (n + 1) listed a w :=
  wpAnyL_pull hi hs hQ (waits_spec hw).1 (waits_spec hw).2.1 n listed a w (Region.free_spec hi hf) (by simpa using hr) (waits_spec hw).2.2 hy hS h
theorem wpAnyL_done {n : Nat} {listed : Array Bool} {a : Act} {w : World} (hr : Region.ready md ops listed = []) (h : Q .normal a w) : wpAnyL P md ops Q S late n listed a w := by
  cases n with
  | zero => exact ⟨hr, h⟩
  | succ n => exact ⟨fun _ => h, by rw [hr]; simp⟩
/-- Each of these comes up next. -/
def AllL (P : Program) (md : Region.Mode) (ops : Array Oper) (Q : Exit → Act → World → Prop) (S : World → Prop) (late : Nat → Bool) (n : Nat) (listed : Array Bool) (a : Act) (w : World) (rs : List Nat) : Prop :=
  ∀ i ∈ rs, wpOp P ops Q i (fun b v => (late i = true ∧ wpAny P md ops Q n (listed.setIfInBounds i true) b v) ∨ (late i = false ∧ S v ∧ wpAnyL P md ops Q S late n (listed.setIfInBounds i true) b v)) a w
theorem wpAnyL_ready {rs : List Nat} {n : Nat} {listed : Array Bool} {a : Act} {w : World} (hr : Region.ready md ops listed = rs) (hne : rs ≠ [])
    (h : AllL P md ops Q S late n listed a w rs) : wpAnyL P md ops Q S late (n + 1) listed a w := ⟨fun h0 => absurd (hr ▸ h0) hne, hr ▸ h⟩
theorem AllL.nil {n : Nat} {listed : Array Bool} {a : Act} {w : World} : AllL P md ops Q S late n listed a w [] := fun _ h => by cases h
theorem AllL.cons {n : Nat} {listed : Array Bool} {a : Act} {w : World} {i : Nat} {o : Oper} {rs : List Nat} (ho : ops[i]? = some o) (hl : late i = false)
    (h : ∀ K' : Act → World → Prop, Shut (∀ a w, S w → (S w → wpAnyL P md ops Q S late n (listed.setIfInBounds i true) a w) → K' a w) → if Region.wanted o (yielded ops a.tmps) = true then Oper.wp P o a w K' Q else K' (a.put o.dst undef) w)
    (hs : AllL P md ops Q S late n listed a w rs) : AllL P md ops Q S late n listed a w (i :: rs) := fun j hj => by
  rcases List.mem_cons.1 hj with e | hj
  · rw [e]; exact wpOp_step ho (fun K' hK => h K' (fun a w hS hW => hK a w (.inr ⟨hl, hS, hW hS⟩)))
  · exact hs j hj
/-- A late one: what follows goes under another condition. -/
theorem AllL.last {S2 : World → Prop} {n : Nat} {listed : Array Bool} {a : Act} {w : World} {i : Nat} {o : Oper} {rs : List Nat} (ho : ops[i]? = some o) (hl : late i = true)
    (h : ∀ K' : Act → World → Prop, Shut (∀ a w, S2 w → (S2 w → wpAnyH P md ops Q S2 n (listed.setIfInBounds i true) a w) → K' a w) → if Region.wanted o (yielded ops a.tmps) = true then Oper.wp P o a w K' Q else K' (a.put o.dst undef) w)
    (hs : AllL P md ops Q S late n listed a w rs) : AllL P md ops Q S late n listed a w (i :: rs) := fun j hj => by
  rcases List.mem_cons.1 hj with e | hj
  · rw [e]; exact wpOp_step ho (fun K' hK => h K' (fun a w hS hW => hK a w (.inl ⟨hl, wpAny_of_held _ _ _ _ (hW hS)⟩)))
  · exact hs j hj
theorem wp_region_late {id : Nat} {a : Act} {w : World} (late : Nat → Bool) (hm : P.follows .mixedOrders = true) (hS : S w.drew)
    (h : S w.drew → wpAnyL P .any ops Q S late ops.size (Array.replicate ops.size false) a w.drew) : (Code.region id ops true).wp P Q a w :=
  wp_region_any hm (h hS).any
end
end Go
