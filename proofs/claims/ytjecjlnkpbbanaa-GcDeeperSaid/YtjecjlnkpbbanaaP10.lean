/- Is one of these pointers no object's? -/
import Derived.Test.YtjecjlnkpbbanaaP9
import Derived.Test.YtjecjlnkpbbanaaP5
namespace Go.Proofs.Ytjecjlnkpbbanaa
open Go Go.RowKit
set_option linter.unusedVariables false
set_option linter.unusedSimpArgs false
def bey (os : List Ob) (a : Int) : Bool := (a != (total os : Nat)) && !(ob os a).isSome
theorem beyond_o {w : World} {b : Nat} {G : Option Nat} {os : List Ob} {m : Nat} (h : HpO w b G os m) (a : Int) (ha : -9223372036854775808 ≤ a) (ha2 : a ≤ 9223372036854775807) :
    Calls Try.prog 54 #[.pointer (some ⟨b, 0, none⟩), .int .i64 a] w (RetV (.bool (bey os a)) w) := by
  have F40 := Lib.hid (head_o h a ha ha2)
  have F43 := Lib.hid (fun W => is_any (hdo os a).t (hdo os a).p (hdo os a).n (hdo os a).s W)
  rw [is_ob] at F43
  have F48 := Lib.hid (end_any h.1)
  rw [wds_length] at F48
  have hbl := h.1.lt
  obtain ⟨c, hc⟩ : ∃ c, c = (ob os a).isSome := ⟨_, rfl⟩
  have HR : Hid (bey os a = ((a != (total os : Nat)) && !c)) := by show _ = _; rw [hc]; rfl
  rw [← hc] at F43
  clear hc h
  generalize hdo os a = x at F40 F43
  generalize total os = N at F48 HR
  cases q : (a != (N : Int)) with
  | false =>
    rw [q] at HR
    rw [HR.out]
    go_enter Try.func54, Try.ntmps54
    go_wp2_with fail
    refine F48.out.mono ?_
    rintro e w1 ⟨rfl, rfl⟩
    go_wp2_with fail
    go_ret
    exact ⟨rfl, Below.refl _ _⟩
  | true =>
    rw [q] at HR
    rw [HR.out]
    go_enter Try.func54, Try.ntmps54
    go_wp2_with fail
    refine F48.out.mono ?_
    rintro e w1 ⟨rfl, rfl⟩
    clear F48
    go_wp2_with fail
    refine F40.out.mono ?_
    rintro e w1 ⟨rfl, hw1⟩
    have HB1 := Lib.hid hw1
    clear hw1 F40
    go_wp2_with fail
    refine (F43.out _).mono ?_
    rintro e w2 ⟨rfl, hw2⟩
    have HB2 := Lib.hid (HB1.out.trans (hw2.mono HB1.out.size))
    clear hw2 F43
    go_wp2_with fail
    go_ret
    exact ⟨rfl, HB2.out⟩
theorem IsS.below {w w' : World} {v : Value} {l : List Int} (h : IsS w v l) (hb : Below w.heap.size w w') : IsS w' v l := by
  obtain ⟨ao, cap, e, hc, h⟩ := h
  refine ⟨ao, cap, e, hc, ?_⟩
  rcases h with h | ⟨g, o, e2, h⟩
  · exact .inl h
  · refine .inr ⟨g, o, e2, fun i hi => ?_⟩
    have := h i hi
    exact (hb.cell (p := ⟨g, o + i, none⟩) (World.block_lt_of_cell? w _ this)).trans this
def IxInv (os : List Ob) (ps : List Int) (w : World) (iv : Value) (wr : World) : Prop :=
  ∃ j : Nat, j ≤ ps.length ∧ iv = .int .i64 (j : Int) ∧ (ps.take j).any (bey os) = false ∧ Below w.heap.size w wr
set_option maxHeartbeats 8000000 in
set_option maxRecDepth 100000 in
theorem indexFunc_o {w : World} {b : Nat} {G : Option Nat} {os : List Ob} {m : Nat} (h : HpO w b G os m) (pv : Value) (ps : List Int) (hp : IsS w pv ps) (hpl : ps.length ≤ 1000000) (hpr : ∀ p ∈ ps, -9223372036854775808 ≤ p ∧ p ≤ 9223372036854775807) :
    Calls Try.prog 70 #[pv, .func (.func 54) #[.pointer (some ⟨b, 0, none⟩)] #[]] w fun e w' => ∃ r : Int, e = .returned (.int .i64 r) ∧ decide (0 ≤ r) = ps.any (bey os) ∧ Below w.heap.size w w' := by
  have F46 := Lib.hid (fun W (hb : Below w.heap.size w W) (a : Int) (h1 : -9223372036854775808 ≤ a) (h2 : a ≤ 9223372036854775807) => beyond_o (h.below hb) a h1 h2)
  have HP := Lib.hid hp
  obtain ⟨ao, cap, rfl, hcap, _⟩ := hp
  have hbl := h.1.lt
  have HPR := Lib.hid hpr
  clear h hpr
  obtain ⟨n, hn⟩ : ∃ n, n = ps.length := ⟨_, rfl⟩
  rw [← hn] at hpl hcap ⊢
  have HN := Lib.hid hn
  clear hn
  have H0 : Hid (IxInv os ps w (.int .i64 0) w) := ⟨0, Nat.zero_le _, rfl, rfl, Below.refl _ _⟩
  go_enter Try.func70, Try.ntmps70
  go_wp2_with fail
  go_loopw [8] (fun iv wr => IxInv os ps w iv wr) (fun iv _ => n - (intOf iv).toNat)
  case atStart => exact H0.out
  case round =>
    clear H0
    obtain ⟨j, hj, rfl, hany, hbel⟩ := hrel
    rw [← HN.out] at hj
    have HB := Lib.hid hbel
    have HA := Lib.hid hany
    clear hany hbel
    by_cases hjn : j < n
    · have q1 : decide ((j : Int) < (n : Int)) = true := decide_eq_true (by omega)
      have hjl : j < ps.length := by rw [← HN.out]; exact hjn
      obtain ⟨ao', cap', e1, _, hr⟩ := HP.out.below HB.out
      injection e1 with e1 e2 e3
      rcases hr with ⟨_, e⟩ | ⟨g, o, e4, hc⟩
      · have := HN.out; rw [e] at this; simp at this; omega
      · rw [← e1] at e4
        subst e4
        have c0 := hc j hjl
        have hpj := HPR.out _ (List.getElem_mem hjl)
        have HNX : Hid ((ps.take (j + 1)).any (bey os) = bey os ps[j]) := by
          show _ = _
          rw [List.take_succ_eq_append_getElem hjl, List.any_append, HA.out]; simp
        have HAN : Hid (bey os ps[j] = true → ps.any (bey os) = true) := fun h => List.any_eq_true.2 ⟨_, List.getElem_mem hjl, h⟩
        generalize ps[j] = p at c0 hpj HNX HAN
        have F := Lib.hid (F46.out wr HB.out p hpj.1 hpj.2)
        generalize bey os p = t at F HNX HAN
        clear e1 e2 e3 hc hpj
        go_wp2_with fail
        refine F.out.mono ?_
        rintro e w2 ⟨rfl, hb2⟩
        have HB2 := Lib.hid (HB.out.trans (hb2.mono HB.out.size))
        clear hb2 F
        cases t with
        | true =>
          go_wp2_with fail
          go_ret
          exact ⟨_, rfl, by rw [HAN.out (by trivial)]; simp, HB2.out⟩
        | false =>
          go_wp2_with fail
          go_roundw
          case rel => exact ⟨j + 1, by rw [← HN.out]; omega, by go_num, HNX.out, HB2.out⟩
          case measure => simp [intOf]; omega
    · have hjn2 : j = n := by omega
      subst hjn2
      have q1 : decide ((j : Int) < (j : Int)) = false := decide_eq_false (by omega)
      have HR : Hid (ps.any (bey os) = false) := by
        have := HA.out
        rw [HN.out, List.take_length] at this
        exact this
      go_wp2_with fail
      go_ret
      exact ⟨_, rfl, by rw [HR.out]; rfl, HB.out⟩
theorem containsFunc_o {w : World} {b : Nat} {G : Option Nat} {os : List Ob} {m : Nat} (h : HpO w b G os m) (pv : Value) (ps : List Int) (hp : IsS w pv ps) (hpl : ps.length ≤ 1000000) (hpr : ∀ p ∈ ps, -9223372036854775808 ≤ p ∧ p ≤ 9223372036854775807) :
    Calls Try.prog 53 #[pv, .func (.func 54) #[.pointer (some ⟨b, 0, none⟩)] #[]] w (RetV (.bool (ps.any (bey os))) w) := by
  have F := Lib.hid (indexFunc_o h pv ps hp hpl hpr)
  clear h hp hpl hpr
  generalize ps.any (bey os) = c at F
  go_enter Try.func53, Try.ntmps53
  go_wp2_with fail
  refine F.out.mono ?_
  rintro e w1 ⟨r, rfl, hr, hb⟩
  have HB := Lib.hid hb
  have HR := Lib.hid hr
  clear hb hr F
  go_wp2_with fail
  go_ret
  exact ⟨by rw [← HR.out]; rfl, HB.out⟩
end Go.Proofs.Ytjecjlnkpbbanaa
