/- norm.Is: where the arguments begin, which need names. -/
import Derived.Test.YtmcgocbkjdacaaaDoorNM
import Derived.Test.YtmcgocbkjdacaaaDoorZA
import Derived.Test.YtmcgocbkjdacaaaDoorZD
namespace Go.Proofs.YtmcgocbkjdacaaaDoor
open Go.RowKit Go.BigM
set_option linter.unusedVariables false
set_option linter.unusedSimpArgs false
def firstN (k : Int) (t : ByteArray) (n : Nat) : Nat := if k = 7 then (if n = 0 then 0 else 1) else if k = 10 ∧ (t.toList == [99, 111, 110, 115]) = true then 0 else n
theorem firstN_le (k : Int) (t : ByteArray) (n : Nat) : firstN k t n ≤ n := by
  unfold firstN; split
  · split <;> omega
  · split <;> omega
theorem firstN_slot (k : Int) (t : ByteArray) (n j : Nat) (h : j < n) : slot k t j = decide (firstN k t n ≤ j) := by
  unfold slot firstN
  by_cases h7 : k = 7
  · subst h7
    rw [if_pos rfl, if_neg (by omega)]; simp
  · by_cases h10 : k = 10
    · subst h10
      rw [if_neg h7]
      by_cases hc : (t.toList == [99, 111, 110, 115]) = true
      · rw [if_pos ⟨rfl, hc⟩, hc]; simp
      · rw [if_neg (fun e => hc e.2)]
        have : (t.toList == [99, 111, 110, 115]) = false := by cases h : (t.toList == [99, 111, 110, 115]) <;> simp_all
        rw [this]; simp; omega
    · rw [if_neg h7, if_neg (fun e => h10 e.1)]; simp [h7, h10]; omega
set_option maxHeartbeats 4000000 in
set_option maxRecDepth 100000 in
theorem first_any (k : Int) (t : ByteArray) (nv : Value) (ao : Option Addr) (n ac : Nat) (w : World) (hn : n ≤ 100000) (ht : t.size ≤ 100000) (o1 : nv.oneCell' = true) : Calls Tryd.prog 33 #[.agg #[.int .i64 k, .string t, nv, .slice ao n ac]] w (RetInt (firstN k t n : Nat) w) := by
  have HB := Lib.hid ((Below.refl w.heap.size w).alloc (Nat.le_refl _) (.cells #[.int .i64 k, .string t, nv, .slice ao n ac] 28))
  by_cases h7 : k = 7
  · subst h7
    by_cases h0 : n = 0
    · subst h0
      have HR : Hid (((firstN 7 t 0 : Nat) : Int) = 0) := by show _ = _; simp [firstN]
      go_enter Tryd.func33, Tryd.ntmps33
      go_wp2_with fail
      go_ret
      exact ⟨by rw [HR.out]; rfl, HB.out⟩
    · have HR : Hid (((firstN 7 t n : Nat) : Int) = 1) := by show _ = _; simp [firstN, h0]
      have q1 : min (1 : Int) (n : Int) = 1 := by omega
      go_enter Tryd.func33, Tryd.ntmps33
      go_wp2_with fail
      go_ret
      exact ⟨by rw [HR.out]; rfl, HB.out⟩
  · have q0 : (k == 7) = false := by simpa using h7
    by_cases h10 : k = 10
    · subst h10
      obtain ⟨b, hb⟩ : ∃ b, (t.toList == [99, 111, 110, 115]) = b := ⟨_, rfl⟩
      cases b
      · have HR : Hid (((firstN 10 t n : Nat) : Int) = (n : Int)) := by show _ = _; simp [firstN, hb]
        go_enter Tryd.func33, Tryd.ntmps33
        go_wp2_with fail
        go_ret
        exact ⟨by rw [HR.out]; rfl, HB.out⟩
      · have HR : Hid (((firstN 10 t n : Nat) : Int) = 0) := by show _ = _; simp [firstN, hb]
        go_enter Tryd.func33, Tryd.ntmps33
        go_wp2_with fail
        go_ret
        exact ⟨by rw [HR.out]; rfl, HB.out⟩
    · have q1 : (k == 10) = false := by simpa using h10
      have HR : Hid (((firstN k t n : Nat) : Int) = (n : Int)) := by show _ = _; simp [firstN, h7, h10]
      go_enter Tryd.func33, Tryd.ntmps33
      go_wp2_with fail
      go_ret
      exact ⟨by rw [HR.out]; rfl, HB.out⟩
set_option maxHeartbeats 4000000 in
set_option maxRecDepth 100000 in
theorem nameless_any (k : Int) (t : ByteArray) (nv av : Value) (w : World) (o1 : nv.oneCell' = true) (o2 : av.oneCell' = true) : Calls Tryd.prog 34 #[.agg #[.int .i64 k, .string t, nv, av]] w (RetBool (!atomB k) w) := by
  have HB := Lib.hid ((Below.refl w.heap.size w).alloc (Nat.le_refl _) (.cells #[.int .i64 k, .string t, nv, av] 28))
  by_cases h1 : k = 1
  · subst h1
    go_enter Tryd.func34, Tryd.ntmps34
    go_wp2_with fail
    go_ret
    exact ⟨rfl, HB.out⟩
  have q1 : (k == 1) = false := by simpa using h1
  by_cases h2 : k = 2
  · subst h2
    go_enter Tryd.func34, Tryd.ntmps34
    go_wp2_with fail
    go_ret
    exact ⟨rfl, HB.out⟩
  have q2 : (k == 2) = false := by simpa using h2
  by_cases h3 : k = 3
  · subst h3
    go_enter Tryd.func34, Tryd.ntmps34
    go_wp2_with fail
    go_ret
    exact ⟨rfl, HB.out⟩
  have q3 : (k == 3) = false := by simpa using h3
  by_cases h4 : k = 4
  · subst h4
    go_enter Tryd.func34, Tryd.ntmps34
    go_wp2_with fail
    go_ret
    exact ⟨rfl, HB.out⟩
  have q4 : (k == 4) = false := by simpa using h4
  by_cases h5 : k = 5
  · subst h5
    go_enter Tryd.func34, Tryd.ntmps34
    go_wp2_with fail
    go_ret
    exact ⟨rfl, HB.out⟩
  have q5 : (k == 5) = false := by simpa using h5
  have HR : Hid ((!atomB k) = true) := by show _ = _; unfold atomB; simp; omega
  clear h1 h2 h3 h4 h5
  go_enter Tryd.func34, Tryd.ntmps34
  go_wp2_with fail
  go_ret
  exact ⟨by rw [HR.out]; rfl, HB.out⟩
/-- A function on terms that tells whether something holds. -/
def Tells (g : Nat) (q : Et → Bool) (e : Et) : Prop := ∀ (S : Nat → Prop) (cs : Array Value) (w : World), Et.At S w e cs → Calls Tryd.prog g #[.agg cs] w (RetBool (q e) w)
theorem nameless_tells (e : Et) : Tells 34 (fun e => !e.atom) e := by
  intro S cs w hat
  obtain ⟨k, t, ns, l⟩ := e
  rw [EAt_mk] at hat
  obtain ⟨nv, av, rfl, hm, hl⟩ := hat
  exact nameless_any k t nv av w hm.one hl.one
def AnInv (q : Et → Bool) (l : List Et) (w : World) (iv : Value) (wr : World) : Prop := ∃ j : Nat, j ≤ l.length ∧ iv = .int .i64 (j : Int) ∧ (l.take j).any q = false ∧ Below w.heap.size w wr
def RetAn (q : Et → Bool) (l : List Et) (w : World) (e : Ending) (w' : World) : Prop := ∃ r : Int, e = .returned (.int .i64 r) ∧ decide (0 ≤ r) = l.any q ∧ Below w.heap.size w w'
set_option maxHeartbeats 4000000 in
set_option maxRecDepth 100000 in
theorem index_of34 (q : Et → Bool) (l : List Et) (ih : ∀ e ∈ l, Tells 34 q e) (S : Nat → Prop) (av : Value) (w : World) (hat : AAt S w av l) (hl : l.length ≤ 100000) : Calls Tryd.prog 50 #[av, .func (.func 34) #[] #[]] w (RetAn q l w) := by
  obtain ⟨ao, cap, rfl⟩ := hat.form
  have HL := Lib.hid hat
  have IH := Lib.hid ih
  clear hat ih
  go_enter Tryd.func50, Tryd.ntmps50
  go_wp2_with fail
  go_loopw [8] (fun iv wr => AnInv q l w iv wr) (fun iv _ => l.length - (intOf iv).toNat)
  case atStart => exact ⟨0, Nat.zero_le _, rfl, rfl, Below.refl _ _⟩
  case round =>
    obtain ⟨j, hj, rfl, hr, hb⟩ := hrel
    have G2 := Lib.hid hb
    have G3 := Lib.hid (HL.out.keeps (Keeps.of_below hb))
    clear hb
    by_cases hlt : j < l.length
    · have q1 : decide ((j : Int) < (l.length : Int)) = true := decide_eq_true (by omega)
      obtain ⟨g', o, k', t', nv', av', rfl, hS, -, hat, e0, e1, e2, e3, o1, o2⟩ := G3.out.get j hlt
      have HC := Lib.hid (IH.out l[j] (List.getElem_mem hlt) S _ wr hat)
      obtain ⟨b, hbb⟩ : ∃ b, q l[j] = b := ⟨_, rfl⟩
      have hst := take_snoc_et l j hlt
      rw [hbb] at HC
      cases b
      · have HN : Hid ((l.take (j + 1)).any q = false) := by show _ = _; rw [hst, List.any_append, hr]; simp [hbb]
        clear hst hbb hat
        go_wp2_with fail
        refine HC.out.mono ?_
        rintro e w1 ⟨rfl, hb⟩
        have HD := Lib.hid (G2.out.trans (hb.mono G2.out.size))
        clear hb
        go_wp2_with fail
        go_roundw
        case rel => exact ⟨j + 1, by omega, by go_num, HN.out, HD.out⟩
        case measure => simp [intOf]; omega
      · have HE : Hid (decide ((0 : Int) ≤ (j : Int)) = l.any q) := by
          show _ = _
          rw [decide_eq_true (by omega)]
          exact (List.any_eq_true.2 ⟨_, List.getElem_mem hlt, hbb⟩).symm
        clear hst hbb hat
        go_wp2_with fail
        refine HC.out.mono ?_
        rintro e w1 ⟨rfl, hb⟩
        have HD := Lib.hid (G2.out.trans (hb.mono G2.out.size))
        clear hb
        go_wp2_with fail
        go_ret
        exact ⟨_, rfl, HE.out, HD.out⟩
    · have q1 : decide ((j : Int) < (l.length : Int)) = false := decide_eq_false (by omega)
      have hjn : j = l.length := by omega
      have HE : Hid (decide ((0 : Int) ≤ -1) = l.any q) := by
        show _ = _
        rw [hjn, List.take_length] at hr
        rw [hr]; rfl
      clear hjn
      go_wp2_with fail
      go_ret
      exact ⟨_, rfl, HE.out, G2.out⟩
set_option maxHeartbeats 4000000 in
set_option maxRecDepth 100000 in
theorem contains_of34 (q : Et → Bool) (l : List Et) (ih : ∀ e ∈ l, Tells 34 q e) (S : Nat → Prop) (av : Value) (w : World) (hat : AAt S w av l) (hl : l.length ≤ 100000) : Calls Tryd.prog 32 #[av, .func (.func 34) #[] #[]] w (RetBool (l.any q) w) := by
  have HI := Lib.hid (index_of34 q l ih S av w hat hl)
  obtain ⟨ao, cap, rfl⟩ := hat.form
  clear hat ih
  go_enter Tryd.func32, Tryd.ntmps32
  go_wp2_with fail
  refine HI.out.mono ?_
  rintro e w1 ⟨r, rfl, hr, hb⟩
  have HD := Lib.hid hb
  have HE := Lib.hid hr
  clear hb hr
  go_wp2_with fail
  go_ret
  exact ⟨by rw [← HE.out]; rfl, HD.out⟩
set_option maxHeartbeats 4000000 in
set_option maxRecDepth 100000 in
theorem index_of35 (q : Et → Bool) (l : List Et) (ih : ∀ e ∈ l, Tells 35 q e) (S : Nat → Prop) (av : Value) (w : World) (hat : AAt S w av l) (hl : l.length ≤ 100000) : Calls Tryd.prog 50 #[av, .func (.func 35) #[] #[]] w (RetAn q l w) := by
  obtain ⟨ao, cap, rfl⟩ := hat.form
  have HL := Lib.hid hat
  have IH := Lib.hid ih
  clear hat ih
  go_enter Tryd.func50, Tryd.ntmps50
  go_wp2_with fail
  go_loopw [8] (fun iv wr => AnInv q l w iv wr) (fun iv _ => l.length - (intOf iv).toNat)
  case atStart => exact ⟨0, Nat.zero_le _, rfl, rfl, Below.refl _ _⟩
  case round =>
    obtain ⟨j, hj, rfl, hr, hb⟩ := hrel
    have G2 := Lib.hid hb
    have G3 := Lib.hid (HL.out.keeps (Keeps.of_below hb))
    clear hb
    by_cases hlt : j < l.length
    · have q1 : decide ((j : Int) < (l.length : Int)) = true := decide_eq_true (by omega)
      obtain ⟨g', o, k', t', nv', av', rfl, hS, -, hat, e0, e1, e2, e3, o1, o2⟩ := G3.out.get j hlt
      have HC := Lib.hid (IH.out l[j] (List.getElem_mem hlt) S _ wr hat)
      obtain ⟨b, hbb⟩ : ∃ b, q l[j] = b := ⟨_, rfl⟩
      have hst := take_snoc_et l j hlt
      rw [hbb] at HC
      cases b
      · have HN : Hid ((l.take (j + 1)).any q = false) := by show _ = _; rw [hst, List.any_append, hr]; simp [hbb]
        clear hst hbb hat
        go_wp2_with fail
        refine HC.out.mono ?_
        rintro e w1 ⟨rfl, hb⟩
        have HD := Lib.hid (G2.out.trans (hb.mono G2.out.size))
        clear hb
        go_wp2_with fail
        go_roundw
        case rel => exact ⟨j + 1, by omega, by go_num, HN.out, HD.out⟩
        case measure => simp [intOf]; omega
      · have HE : Hid (decide ((0 : Int) ≤ (j : Int)) = l.any q) := by
          show _ = _
          rw [decide_eq_true (by omega)]
          exact (List.any_eq_true.2 ⟨_, List.getElem_mem hlt, hbb⟩).symm
        clear hst hbb hat
        go_wp2_with fail
        refine HC.out.mono ?_
        rintro e w1 ⟨rfl, hb⟩
        have HD := Lib.hid (G2.out.trans (hb.mono G2.out.size))
        clear hb
        go_wp2_with fail
        go_ret
        exact ⟨_, rfl, HE.out, HD.out⟩
    · have q1 : decide ((j : Int) < (l.length : Int)) = false := decide_eq_false (by omega)
      have hjn : j = l.length := by omega
      have HE : Hid (decide ((0 : Int) ≤ -1) = l.any q) := by
        show _ = _
        rw [hjn, List.take_length] at hr
        rw [hr]; rfl
      clear hjn
      go_wp2_with fail
      go_ret
      exact ⟨_, rfl, HE.out, G2.out⟩
set_option maxHeartbeats 4000000 in
set_option maxRecDepth 100000 in
theorem contains_of35 (q : Et → Bool) (l : List Et) (ih : ∀ e ∈ l, Tells 35 q e) (S : Nat → Prop) (av : Value) (w : World) (hat : AAt S w av l) (hl : l.length ≤ 100000) : Calls Tryd.prog 32 #[av, .func (.func 35) #[] #[]] w (RetBool (l.any q) w) := by
  have HI := Lib.hid (index_of35 q l ih S av w hat hl)
  obtain ⟨ao, cap, rfl⟩ := hat.form
  clear hat ih
  go_enter Tryd.func32, Tryd.ntmps32
  go_wp2_with fail
  refine HI.out.mono ?_
  rintro e w1 ⟨r, rfl, hr, hb⟩
  have HD := Lib.hid hb
  have HE := Lib.hid hr
  clear hb hr
  go_wp2_with fail
  go_ret
  exact ⟨by rw [← HE.out]; rfl, HD.out⟩
/-- What is left of a row of terms from a place on. -/
theorem AAt.drop {S : Nat → Prop} {w : World} {g o n cap : Nat} {l : List Et} (h : AAt S w (.slice (some ⟨g, o, none⟩) n cap) l) (i : Nat) (hi : i ≤ l.length) : AAt S w (.slice (some ⟨g, o + i * 4, none⟩) (l.length - i) (cap - i)) (l.drop i) := by
  rcases h with ⟨e, _⟩ | ⟨g', o', cap', arr, fz, e, hS, hg, hd, hc⟩
  · cases e
  · injection e with e1 e2 e3
    injection e1 with e1
    injection e1 with e1 e4
    subst e1 e2 e3 e4
    refine .inr ⟨g, o + i * 4, cap - i, arr, fz, by rw [List.length_drop], hS, hg, ?_, by rw [List.length_drop]; omega⟩
    refine Ets.At.of_get _ _ _ fun j hj => ?_
    rw [List.length_drop] at hj
    obtain ⟨cs, h1, h2⟩ := Ets.At.get l arr o hd (i + j) (by omega)
    refine ⟨cs, fun x hx => ?_, ?_⟩
    · rw [← h1 x hx]; congr 1; omega
    · rw [List.getElem_drop]; exact h2
theorem AAt.drop2 {S : Nat → Prop} {w : World} {g o n cap : Nat} {l : List Et} (h : AAt S w (.slice (some ⟨g, o, none⟩) n cap) l) (i : Nat) (hi : i ≤ l.length) : AAt S w (.slice (some ⟨g, if cap = i then o else o + i * 4, none⟩) (l.length - i) (cap - i)) (l.drop i) := by
  by_cases hc : cap = i
  · rw [if_pos hc]
    have hcap := h.caps
    have hl : l.drop i = [] := List.drop_eq_nil_of_le (by omega)
    rw [hl]
    rcases h with ⟨e, _⟩ | ⟨g', o', cap', arr, fz, e, hS, hg, hd, hc⟩
    · cases e
    · injection e with e1 e2 e3
      injection e1 with e1
      injection e1 with e1 e4
      subst e1 e2 e3 e4
      exact .inr ⟨g, o, cap - i, arr, fz, by simp; omega, hS, hg, by unfold Ets.At; trivial, by simp⟩
  · rw [if_neg hc]; exact h.drop i hi
end Go.Proofs.YtmcgocbkjdacaaaDoor
