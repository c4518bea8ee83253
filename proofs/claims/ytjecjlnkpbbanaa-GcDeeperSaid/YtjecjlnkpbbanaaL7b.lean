/- Set, Over on both heaps. -/
import Derived.Test.YtjecjlnkpbbanaaL7
namespace Go.Proofs.Ytjecjlnkpbbanaa
open Go Go.RowKit
set_option linter.unusedVariables false
set_option linter.unusedSimpArgs false
def TwoP (c : Prop) (os' : List Ob) (b m : Nat) (G : Option Nat) (w : World) (e : Ending) (w' : World) : Prop :=
  (¬ c ∧ RetV (.bool false) w e w') ∨ (c ∧ RetHp (.bool true) b G os' m w e w')
def TwoR (c : Prop) (os' : List Ob) (x m : Nat) (C : Nat → Nat) (w : World) (e : Ending) (w' : World) : Prop :=
  (¬ c ∧ RetV (.bool false) w e w') ∨ (c ∧ RetR (.bool true) x C os' m w e w')
theorem TwoP.fr {c : Prop} {os' : List Ob} {b m : Nat} {G : Option Nat} {w w' : World} {e : Ending} (h : TwoP c os' b m G w e w') : Fr (own b G) w w' ∧ ∃ is : Bool, e = .returned (.bool is) := by
  rcases h with ⟨_, h1, h2⟩ | ⟨_, h1, G', h2, h3, h4⟩
  · exact ⟨Fr.of_below h2, false, h1⟩
  · exact ⟨h3, true, h1⟩
theorem both_two {B w w0 w1 w2 w3 : World} {b x : Nat} {G : Option Nat} {C : Nat → Nat} {qs : List Nat} {os os' : List Ob} {m : Nat} {c : Prop} {e1 e2 : Ending} (h : Pr B w b x G C qs os m) (h0 : Below w.heap.size w w0)
    (h1 : TwoP c os' b m G w0 e1 w1) (h4 : Below w1.heap.size w1 w2) (h2 : TwoR c os' x m C w2 e2 w3) : ∃ is : Bool, e1 = .returned (.bool is) ∧ e2 = .returned (.bool is) ∧ ∀ e, e = .returned (.bool true) → RetPr (.bool true) B b x m G C w e w3 := by
  have s0 := h0.size
  have s4 := h4.size
  rcases h1 with ⟨n1, r1⟩ | ⟨f1, r1⟩
  · rcases h2 with ⟨_, r2⟩ | ⟨g1, _⟩
    · refine ⟨false, r1.1, r2.1, fun e he => RetPr.of_below h he ?_⟩
      have s1 := r1.2.size
      exact h0.trans ((r1.2.mono s0).trans ((h4.mono (by omega)).trans (r2.2.mono (by omega))))
    · exact absurd g1 n1
  · rcases h2 with ⟨n2, _⟩ | ⟨_, r2⟩
    · exact absurd f1 n2
    · exact ⟨true, r1.1, r2.1, fun e he => h.both h0 r1 r2 h4 he⟩
def SetC (os : List Ob) (a i tt : Int) : Prop := 0 ≤ i ∧ i < ((hdo os a).p : Int) ∧ (ob os tt).isSome = true
def setL (os : List Ob) (a i tt : Int) : List Ob := match loc os a with | some k => upd os k (fun o => setO o i.toNat tt) | none => os
def OverC (os : List Ob) (a tt : Int) : Prop := a ≠ tt ∧ (ob os a).isSome = true ∧ (ob os tt).isSome = true
def overL (os : List Ob) (a tt : Int) : List Ob := match loc os a with | some k => upd os k (fun o => overO o tt) | none => os
theorem set_p {w : World} {b : Nat} {G : Option Nat} {os : List Ob} {m : Nat} (h : HpO w b G os m) (a i tt : Int) (ha : -1000000000 ≤ a) (ha2 : a ≤ 1000000000) (hi : -1000000000 ≤ i) (hi2 : i ≤ 1000000000) (ht : -1000000000 ≤ tt) (ht2 : tt ≤ 1000000000) :
    Calls Try.prog 29 #[.pointer (some ⟨b, 0, none⟩), .int .i64 a, .int .i64 i, .int .i64 tt] w (TwoP (SetC os a i tt) (setL os a i tt) b m G w) := by
  by_cases hc : SetC os a i tt
  · obtain ⟨h0, h1, h2⟩ := hc
    cases hl : loc os a with
    | none => exact absurd h1 (by rw [p_none hl]; omega)
    | some k => 
      refine (set_yes h a i tt ha ha2 hi hi2 ht ht2 k hl h0 h1 h2).mono fun e w' hr => .inr ⟨⟨h0, h1, h2⟩, ?_⟩
      unfold setL; rw [hl]; exact hr
  · refine (set_no h a i tt ha ha2 hi hi2 ht ht2 ?_).mono fun e w' hr => .inl ⟨hc, hr⟩
    by_cases h0 : i < 0
    · exact .inl h0
    · by_cases h1 : ((hdo os a).p : Int) ≤ i
      · exact .inr (.inl h1)
      · refine .inr (.inr ?_)
        cases h2 : (ob os tt).isSome with
        | false => rfl
        | true => exact absurd ⟨by omega, by omega, h2⟩ hc
theorem rset_p {w : World} {x : Nat} {C : Nat → Nat} {qs : List Nat} {os : List Ob} {m : Nat} (h : Rh w x C qs os m) (a i tt : Int) :
    Calls Try.prog 60 #[.pointer (some ⟨x, 0, none⟩), .int .i64 a, .int .i64 i, .int .i64 tt] w (TwoR (SetC os a i tt) (setL os a i tt) x m C w) := by
  by_cases hc : SetC os a i tt
  · obtain ⟨h0, h1, h2⟩ := hc
    cases hl : loc os a with
    | none => exact absurd h1 (by rw [p_none hl]; omega)
    | some k => 
      refine (rset_yes h a i tt k hl h0 h1 h2).mono fun e w' hr => .inr ⟨⟨h0, h1, h2⟩, ?_⟩
      unfold setL; rw [hl]; exact hr
  · refine (rset_no h a i tt ?_).mono fun e w' hr => .inl ⟨hc, hr⟩
    by_cases h0 : i < 0
    · exact .inl h0
    · by_cases h1 : ((hdo os a).p : Int) ≤ i
      · exact .inr (.inl h1)
      · refine .inr (.inr ?_)
        cases h2 : (ob os tt).isSome with
        | false => rfl
        | true => exact absurd ⟨by omega, by omega, h2⟩ hc
theorem over_p {w : World} {b : Nat} {G : Option Nat} {os : List Ob} {m : Nat} (h : HpO w b G os m) (a tt : Int) (ha : -1000000000 ≤ a) (ha2 : a ≤ 1000000000) (ht : -1000000000 ≤ tt) (ht2 : tt ≤ 1000000000) :
    Calls Try.prog 61 #[.pointer (some ⟨b, 0, none⟩), .int .i64 a, .int .i64 tt] w (TwoP (OverC os a tt) (overL os a tt) b m G w) := by
  by_cases hc : OverC os a tt
  · obtain ⟨h0, h1, h2⟩ := hc
    cases hl : loc os a with
    | none => rw [ob_none.2 hl] at h1; cases h1
    | some k => 
      refine (over_yes h a tt ha ha2 ht ht2 k hl h0 h2).mono fun e w' hr => .inr ⟨⟨h0, h1, h2⟩, ?_⟩
      unfold overL; rw [hl]; exact hr
  · refine (over_no h a tt ha ha2 ht ht2 ?_).mono fun e w' hr => .inl ⟨hc, hr⟩
    by_cases h0 : a = tt
    · exact .inl h0
    · cases h1 : (ob os a).isSome with
      | false => exact .inr (.inl rfl)
      | true =>
        cases h2 : (ob os tt).isSome with
        | false => exact .inr (.inr rfl)
        | true => exact absurd ⟨h0, h1, h2⟩ hc
theorem rover_p {w : World} {x : Nat} {C : Nat → Nat} {qs : List Nat} {os : List Ob} {m : Nat} (h : Rh w x C qs os m) (a tt : Int) :
    Calls Try.prog 62 #[.pointer (some ⟨x, 0, none⟩), .int .i64 a, .int .i64 tt] w (TwoR (OverC os a tt) (overL os a tt) x m C w) := by
  by_cases hc : OverC os a tt
  · obtain ⟨h0, h1, h2⟩ := hc
    cases hl : loc os a with
    | none => rw [ob_none.2 hl] at h1; cases h1
    | some k => 
      refine (rover_yes h a tt k hl h0 h2).mono fun e w' hr => .inr ⟨⟨h0, h1, h2⟩, ?_⟩
      unfold overL; rw [hl]; exact hr
  · refine (rover_no h a tt ?_).mono fun e w' hr => .inl ⟨hc, hr⟩
    by_cases h0 : a = tt
    · exact .inl h0
    · cases h1 : (ob os a).isSome with
      | false => exact .inr (.inl rfl)
      | true =>
        cases h2 : (ob os tt).isSome with
        | false => exact .inr (.inr rfl)
        | true => exact absurd ⟨h0, h1, h2⟩ hc
end Go.Proofs.Ytjecjlnkpbbanaa
