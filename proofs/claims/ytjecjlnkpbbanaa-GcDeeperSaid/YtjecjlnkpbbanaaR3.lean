/- The document's shape; what a heap is that has been turned. -/
import Derived.Test.YtjecjlnkpbbanaaR2
namespace Go.Proofs.Ytjecjlnkpbbanaa
open Go Go.RowKit
set_option linter.unusedVariables false
set_option linter.unusedSimpArgs false
set_option maxHeartbeats 8000000 in
set_option maxRecDepth 100000 in
theorem shape_any (t : Int) (ps ns : List Int) (pv nv : Value) (w : World) (hp : IsS w pv ps) (hn : IsS w nv ns) (hpl : ps.length ≤ 1000000) (hnl : ns.length ≤ 1000000) :
    Calls Try.prog 72 #[.int .i64 t, pv, nv] w fun e w' => e = .returned (.bool (fitF t ps ns)) ∧ w = w' := by
  obtain ⟨pa, pc, rfl, hpc, _⟩ := hp
  obtain ⟨na, nc, rfl, hnc, hnr⟩ := hn
  obtain ⟨p, hpd⟩ : ∃ p, p = ps.length := ⟨_, rfl⟩
  obtain ⟨n, hnd⟩ : ∃ n, n = ns.length := ⟨_, rfl⟩
  have HF : Hid (fitF t ps ns = (decide (p ≤ 60) && decide (n ≤ 60) && (if t = 2 then decide (p = 2) && decide (n = 0)
     else if t = 5 then decide (p = 1) && decide (n = 0)
     else if t = 6 then decide (p = 1) && decide (n = 1) && (decide (ns.headD 9 = 0) || decide (ns.headD 9 = 1))
     else decide (1 ≤ t) && decide (t ≤ 7)))) := by subst hpd hnd; rfl
  by_cases h3 : t = 2
  · subst h3
    have HG : Hid (fitF 2 ps ns = (decide (p = 2) && decide (n = 0))) := by
      show _ = _
      rw [HF.out]
      by_cases a1 : p = 2
      · by_cases a2 : n = 0
        · subst a1 a2; rfl
        · have e : decide (n = 0) = false := decide_eq_false a2
          simp [e]
      · have e : decide (p = 2) = false := decide_eq_false a1
        simp [e]
    rw [HG.out, ← hpd, ← hnd]
    clear HF HG hnr hpd hnd
    by_cases hp2 : p = 2
    · subst hp2
      by_cases hn0 : n = 0
      · subst hn0
        go_enter Try.func72, Try.ntmps72
        go_wp2
        go_ret
        exact ⟨rfl, rfl⟩
      · have q3 : ((n : Int) == 0) = false := by simp; omega
        have e : decide (n = 0) = false := by simp; omega
        rw [e]
        go_enter Try.func72, Try.ntmps72
        go_wp2
        go_ret
        exact ⟨rfl, rfl⟩
    · have q3 : ((p : Int) == 2) = false := by simp; omega
      have e : decide (p = 2) = false := by simp; omega
      rw [e]
      go_enter Try.func72, Try.ntmps72
      go_wp2
      go_ret
      exact ⟨rfl, rfl⟩
  have z2 : (t == 2) = false := by simpa using h3
  by_cases h4 : t = 5
  · subst h4
    have HG : Hid (fitF 5 ps ns = (decide (p = 1) && decide (n = 0))) := by
      show _ = _
      rw [HF.out]
      by_cases a1 : p = 1
      · by_cases a2 : n = 0
        · subst a1 a2; rfl
        · have e : decide (n = 0) = false := decide_eq_false a2
          simp [e]
      · have e : decide (p = 1) = false := decide_eq_false a1
        simp [e]
    rw [HG.out, ← hpd, ← hnd]
    clear HF HG hnr hpd hnd
    by_cases hp2 : p = 1
    · subst hp2
      by_cases hn0 : n = 0
      · subst hn0
        go_enter Try.func72, Try.ntmps72
        go_wp2
        go_ret
        exact ⟨rfl, rfl⟩
      · have q3 : ((n : Int) == 0) = false := by simp; omega
        have e : decide (n = 0) = false := by simp; omega
        rw [e]
        go_enter Try.func72, Try.ntmps72
        go_wp2
        go_ret
        exact ⟨rfl, rfl⟩
    · have q3 : ((p : Int) == 1) = false := by simp; omega
      have e : decide (p = 1) = false := by simp; omega
      rw [e]
      go_enter Try.func72, Try.ntmps72
      go_wp2
      go_ret
      exact ⟨rfl, rfl⟩
  have z5 : (t == 5) = false := by simpa using h4
  by_cases h5 : t = 6
  · subst h5
    have HG : Hid (fitF 6 ps ns = (decide (p = 1) && decide (n = 1) && (decide (ns.headD 9 = 0) || decide (ns.headD 9 = 1)))) := by
      show _ = _
      rw [HF.out]
      by_cases a1 : p = 1
      · by_cases a2 : n = 1
        · rw [a1, a2]; rfl
        · have e : decide (n = 1) = false := decide_eq_false a2
          simp [e]
      · have e : decide (p = 1) = false := decide_eq_false a1
        simp [e]
    rw [HG.out]
    by_cases hp2 : p = 1
    · by_cases hn0 : n = 1
      · rcases hnr with ⟨_, e⟩ | ⟨g, o, rfl, hc⟩
        · rw [e] at hnd; simp at hnd; omega
        · have c0 := hc 0 (by omega)
          obtain ⟨x, hx⟩ : ∃ x, x = ns[0]'(by omega) := ⟨_, rfl⟩
          have hh : ns.headD 9 = x := by
            rw [hx]
            cases ns with
            | nil => simp at hnd; omega
            | cons y l => rfl
          rw [← hx, Nat.add_zero] at c0
          rw [hh, ← hpd, ← hnd]
          subst hp2 hn0
          clear HF HG hc hpd hnd hx hh
          by_cases hx0 : x = 0
          · subst hx0
            go_enter Try.func72, Try.ntmps72
            go_wp2
            go_ret
            exact ⟨rfl, rfl⟩
          · have q3 : (x == 0) = false := by simpa using hx0
            by_cases hx1 : x = 1
            · subst hx1
              go_enter Try.func72, Try.ntmps72
              go_wp2
              go_ret
              exact ⟨rfl, rfl⟩
            · have q4 : (x == 1) = false := by simpa using hx1
              have e : decide (x = 0) = false := by simpa using hx0
              have e2 : decide (x = 1) = false := by simpa using hx1
              rw [e, e2]
              go_enter Try.func72, Try.ntmps72
              go_wp2
              go_ret
              exact ⟨rfl, rfl⟩
      · have q3 : ((n : Int) == 1) = false := by simp; omega
        have e : decide (n = 1) = false := by simp; omega
        rw [e, ← hpd, ← hnd]
        subst hp2
        clear HF HG hnr hpd hnd
        go_enter Try.func72, Try.ntmps72
        go_wp2
        go_ret
        exact ⟨rfl, rfl⟩
    · have q3 : ((p : Int) == 1) = false := by simp; omega
      have e : decide (p = 1) = false := by simp; omega
      rw [e, ← hpd, ← hnd]
      clear HF HG hnr hpd hnd
      go_enter Try.func72, Try.ntmps72
      go_wp2
      go_ret
      exact ⟨by simp, rfl⟩
  have z6 : (t == 6) = false := by simpa using h5
  have HG : Hid (fitF t ps ns = (decide (1 ≤ t) && decide (t ≤ 7) && decide (p ≤ 60) && decide (n ≤ 60))) := by
    show _ = _
    rw [HF.out, if_neg h3, if_neg h4, if_neg h5]
    cases decide (1 ≤ t) <;> cases decide (t ≤ 7) <;> cases decide (p ≤ 60) <;> cases decide (n ≤ 60) <;> rfl
  rw [HG.out, ← hpd, ← hnd]
  clear HF HG hnr hpd hnd h3 h4 h5
  by_cases h6 : 1 ≤ t
  · have e1 : decide (1 ≤ t) = true := decide_eq_true h6
    by_cases h7 : t ≤ 7
    · have e2 : decide (t ≤ 7) = true := decide_eq_true h7
      by_cases h8 : p ≤ 60
      · have e3 : decide (p ≤ 60) = true := decide_eq_true h8
        have e3' : decide ((p : Int) ≤ 60) = true := decide_eq_true (by omega)
        by_cases h9 : n ≤ 60
        · have e4 : decide (n ≤ 60) = true := decide_eq_true h9
          have e4' : decide ((n : Int) ≤ 60) = true := decide_eq_true (by omega)
          rw [e1, e2, e3, e4]
          go_enter Try.func72, Try.ntmps72
          go_wp2
          go_ret
          exact ⟨rfl, rfl⟩
        · have e4 : decide (n ≤ 60) = false := decide_eq_false h9
          have e4' : decide ((n : Int) ≤ 60) = false := decide_eq_false (by omega)
          rw [e1, e2, e3, e4]
          go_enter Try.func72, Try.ntmps72
          go_wp2
          go_ret
          exact ⟨rfl, rfl⟩
      · have e3 : decide (p ≤ 60) = false := decide_eq_false h8
        have e3' : decide ((p : Int) ≤ 60) = false := decide_eq_false (by omega)
        rw [e1, e2, e3]
        go_enter Try.func72, Try.ntmps72
        go_wp2
        go_ret
        exact ⟨rfl, rfl⟩
    · have e2 : decide (t ≤ 7) = false := decide_eq_false h7
      rw [e1, e2]
      go_enter Try.func72, Try.ntmps72
      go_wp2
      go_ret
      exact ⟨rfl, rfl⟩
  · have e1 : decide (1 ≤ t) = false := decide_eq_false h6
    rw [e1]
    go_enter Try.func72, Try.ntmps72
    go_wp2
    go_ret
    exact ⟨rfl, rfl⟩
/-- What a call that turns the document's heap leaves. -/
def RetR (v : Value) (x : Nat) (C : Nat → Nat) (os' : List Ob) (m : Nat) (w : World) (e : Ending) (w' : World) : Prop :=
  e = .returned v ∧ ∃ C' qs', Rh w' x C' qs' os' m ∧ Fr (fun k => C k ≠ 0) w w' ∧ (∀ k, C' k ≠ 0 → C k ≠ 0 ∨ w.heap.size ≤ k)
end Go.Proofs.Ytjecjlnkpbbanaa
