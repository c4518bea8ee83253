/- May an object be so? -/
import Derived.Test.YtjecjlnkpbbanaaP2
namespace Go.Proofs.Ytjecjlnkpbbanaa
open Go Go.RowKit
set_option linter.unusedVariables false
set_option linter.unusedSimpArgs false
/-- A slice that reads as these numbers. -/
def IsS (w : World) (v : Value) (l : List Int) : Prop := ∃ ao cap, v = .slice ao l.length cap ∧ l.length ≤ cap ∧ ((ao = none ∧ l = []) ∨ ∃ g o, ao = some ⟨g, o, none⟩ ∧ ∀ i (h : i < l.length), w.cell? ⟨g, o + i, none⟩ = some (.int .i64 l[i]))
/-- May an object be so? -/
def fitF (t : Int) (ps ns : List Int) : Bool :=
  decide (ps.length ≤ 60) && decide (ns.length ≤ 60) &&
    (if t = 2 then decide (ps.length = 2) && decide (ns.length = 0)
     else if t = 5 then decide (ps.length = 1) && decide (ns.length = 0)
     else if t = 6 then decide (ps.length = 1) && decide (ns.length = 1) && (decide (ns.headD 9 = 0) || decide (ns.headD 9 = 1))
     else decide (1 ≤ t) && decide (t ≤ 7))
set_option maxHeartbeats 8000000 in
set_option maxRecDepth 100000 in
theorem fits_any (t : Int) (ps ns : List Int) (pv nv : Value) (w : World) (hp : IsS w pv ps) (hn : IsS w nv ns) (hpl : ps.length ≤ 1000000) (hnl : ns.length ≤ 1000000) :
    Calls Try.prog 52 #[.int .i64 t, pv, nv] w fun e w' => e = .returned (.bool (fitF t ps ns)) ∧ w = w' := by
  obtain ⟨pa, pc, rfl, hpc, _⟩ := hp
  obtain ⟨na, nc, rfl, hnc, hnr⟩ := hn
  obtain ⟨p, hpd⟩ : ∃ p, p = ps.length := ⟨_, rfl⟩
  obtain ⟨n, hnd⟩ : ∃ n, n = ns.length := ⟨_, rfl⟩
  have HF : Hid (fitF t ps ns = (decide (p ≤ 60) && decide (n ≤ 60) && (if t = 2 then decide (p = 2) && decide (n = 0)
     else if t = 5 then decide (p = 1) && decide (n = 0)
     else if t = 6 then decide (p = 1) && decide (n = 1) && (decide (ns.headD 9 = 0) || decide (ns.headD 9 = 1))
     else decide (1 ≤ t) && decide (t ≤ 7)))) := by subst hpd hnd; rfl
  by_cases h1 : 60 < p
  · have e : fitF t ps ns = false := by rw [HF.out]; simp; omega
    rw [e]
    rw [← hpd]
    clear HF e hnr hpd
    have q : (60 : Int) < (p : Int) := by omega
    go_enter Try.func52, Try.ntmps52
    go_wp2
    go_ret
    exact ⟨rfl, rfl⟩
  by_cases h2 : 60 < n
  · have e : fitF t ps ns = false := by rw [HF.out]; simp; omega
    rw [e]
    rw [← hpd, ← hnd]
    clear HF e hnr hpd hnd
    have q : ¬ (60 : Int) < (p : Int) := by omega
    have q2 : (60 : Int) < (n : Int) := by omega
    go_enter Try.func52, Try.ntmps52
    go_wp2
    go_ret
    exact ⟨rfl, rfl⟩
  have q1 : ¬ (60 : Int) < (p : Int) := by omega
  have q2 : ¬ (60 : Int) < (n : Int) := by omega
  have e60 : (decide (p ≤ 60) && decide (n ≤ 60)) = true := by simp; omega
  by_cases h3 : t = 2
  · subst h3
    rw [HF.out, e60]
    rw [← hpd, ← hnd]
    clear HF hnr hpd hnd
    by_cases hp2 : p = 2
    · subst hp2
      by_cases hn0 : n = 0
      · subst hn0
        go_enter Try.func52, Try.ntmps52
        go_wp2
        go_ret
        exact ⟨rfl, rfl⟩
      · have q3 : ((n : Int) == 0) = false := by simp; omega
        have e : decide (n = 0) = false := by simp; omega
        rw [e]
        go_enter Try.func52, Try.ntmps52
        go_wp2
        go_ret
        exact ⟨rfl, rfl⟩
    · have q3 : ((p : Int) == 2) = false := by simp; omega
      have e : decide (p = 2) = false := by simp; omega
      rw [e]
      go_enter Try.func52, Try.ntmps52
      go_wp2
      go_ret
      exact ⟨rfl, rfl⟩
  have z3 : (t == 2) = false := by simpa using h3
  by_cases h4 : t = 5
  · subst h4
    rw [HF.out, e60]
    rw [← hpd, ← hnd]
    clear HF hnr hpd hnd
    by_cases hp2 : p = 1
    · subst hp2
      by_cases hn0 : n = 0
      · subst hn0
        go_enter Try.func52, Try.ntmps52
        go_wp2
        go_ret
        exact ⟨rfl, rfl⟩
      · have q3 : ((n : Int) == 0) = false := by simp; omega
        have e : decide (n = 0) = false := by simp; omega
        rw [e]
        go_enter Try.func52, Try.ntmps52
        go_wp2
        go_ret
        exact ⟨rfl, rfl⟩
    · have q3 : ((p : Int) == 1) = false := by simp; omega
      have e : decide (p = 1) = false := by simp; omega
      rw [e]
      go_enter Try.func52, Try.ntmps52
      go_wp2
      go_ret
      exact ⟨rfl, rfl⟩
  have z4 : (t == 5) = false := by simpa using h4
  by_cases h5 : t = 6
  · subst h5
    rw [HF.out, e60]
    by_cases hp2 : p = 1
    · by_cases hn0 : n = 1
      · rcases hnr with ⟨_, e⟩ | ⟨g, o, rfl, hc⟩
        · rw [e] at hnd; simp at hnd; omega
        · have c0 := hc 0 (by omega)
          obtain ⟨x, hx⟩ : ∃ x, x = ns[0]'(by omega) := ⟨_, rfl⟩
          have hh : ns.headD 9 = x := by
            rw [hx]
            cases ns with
            | nil => simp at hnd; omega
            | cons y l => rfl
          rw [← hx, Nat.add_zero] at c0
          rw [hh, ← hpd, ← hnd]
          subst hp2 hn0
          clear HF hc hpd hnd hx hh
          by_cases hx0 : x = 0
          · subst hx0
            go_enter Try.func52, Try.ntmps52
            go_wp2
            go_ret
            exact ⟨rfl, rfl⟩
          · have q3 : (x == 0) = false := by simpa using hx0
            by_cases hx1 : x = 1
            · subst hx1
              go_enter Try.func52, Try.ntmps52
              go_wp2
              go_ret
              exact ⟨rfl, rfl⟩
            · have q4 : (x == 1) = false := by simpa using hx1
              have e : decide (x = 0) = false := by simpa using hx0
              have e2 : decide (x = 1) = false := by simpa using hx1
              rw [e, e2]
              go_enter Try.func52, Try.ntmps52
              go_wp2
              go_ret
              exact ⟨rfl, rfl⟩
      · have q3 : ((n : Int) == 1) = false := by simp; omega
        have e : decide (n = 1) = false := by simp; omega
        rw [e, ← hpd, ← hnd]
        subst hp2
        clear HF hnr hpd hnd
        go_enter Try.func52, Try.ntmps52
        go_wp2
        go_ret
        exact ⟨rfl, rfl⟩
    · have q3 : ((p : Int) == 1) = false := by simp; omega
      have e : decide (p = 1) = false := by simp; omega
      rw [e, ← hpd, ← hnd]
      clear HF hnr hpd hnd
      go_enter Try.func52, Try.ntmps52
      go_wp2
      go_ret
      exact ⟨by simp, rfl⟩
  have z5 : (t == 6) = false := by simpa using h5
  rw [HF.out, e60, if_neg h3, if_neg h4, if_neg h5, ← hpd, ← hnd]
  clear HF hnr hpd hnd h3 h4 h5
  by_cases h6 : 1 ≤ t
  · by_cases h7 : t ≤ 7
    · have e : decide (t ≤ 7) = true := by simpa using h7
      have e' : decide (1 ≤ t) = true := by simpa using h6
      rw [e, e']
      go_enter Try.func52, Try.ntmps52
      go_wp2
      go_ret
      exact ⟨rfl, rfl⟩
    · have e : decide (t ≤ 7) = false := by simpa using h7
      have e' : decide (1 ≤ t) = true := by simpa using h6
      rw [e, e']
      go_enter Try.func52, Try.ntmps52
      go_wp2
      go_ret
      exact ⟨rfl, rfl⟩
  · have e : decide (1 ≤ t) = false := by simpa using h6
    rw [e]
    go_enter Try.func52, Try.ntmps52
    go_wp2
    go_ret
    exact ⟨rfl, rfl⟩
end Go.Proofs.Ytjecjlnkpbbanaa
