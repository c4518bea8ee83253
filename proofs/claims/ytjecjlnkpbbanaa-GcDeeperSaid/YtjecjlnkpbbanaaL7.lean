/- A heap and the document's, side by side; pick. -/
import Derived.Test.YtjecjlnkpbbanaaR8
import Derived.Test.YtjecjlnkpbbanaaL4
namespace Go.Proofs.Ytjecjlnkpbbanaa
open Go Go.RowKit
set_option linter.unusedVariables false
set_option linter.unusedSimpArgs false
structure Pr (B w : World) (b x : Nat) (G : Option Nat) (C : Nat → Nat) (qs : List Nat) (os : List Ob) (m : Nat) : Prop where
  hl : HL B w b G os m
  rh : Rh w x C qs os m
  cb : C b = 0
  cg : ∀ k, G = some k → C k = 0
  cB : ∀ k, C k ≠ 0 → B.heap.size ≤ k
def fp (b : Nat) (G : Option Nat) (C : Nat → Nat) (k : Nat) : Prop := own b G k ∨ C k ≠ 0
theorem Pr.below {B w w' : World} {b x : Nat} {G : Option Nat} {C : Nat → Nat} {qs : List Nat} {os : List Ob} {m : Nat} (h : Pr B w b x G C qs os m) (hb : Below w.heap.size w w') : Pr B w' b x G C qs os m := ⟨h.hl.below hb, h.rh.below hb, h.cb, h.cg, h.cB⟩
theorem Pr.fr {F : Nat → Prop} {B w w' : World} {b x : Nat} {G : Option Nat} {C : Nat → Nat} {qs : List Nat} {os : List Ob} {m : Nat} (h : Pr B w b x G C qs os m) (hf : Fr F w w') (h1 : ∀ k, F k → ¬ fp b G C k) (h2 : ∀ k, k < B.heap.size → ¬ F k) : Pr B w' b x G C qs os m :=
  ⟨h.hl.fr hf (fun e => h1 b e (.inl (.inl rfl))) (fun k hk e => h1 k e (.inl (.inr hk))) h2, h.rh.fr hf (fun k hk => Classical.byContradiction fun e => h1 k hk (.inr e)), h.cb, h.cg, h.cB⟩
theorem Pr.low {B w : World} {b x : Nat} {G : Option Nat} {C : Nat → Nat} {qs : List Nat} {os : List Ob} {m : Nat} (h : Pr B w b x G C qs os m) (k : Nat) (hk : fp b G C k) : B.heap.size ≤ k ∧ k < w.heap.size := by
  rcases hk with (rfl | hk) | hk
  · exact ⟨h.hl.hb, h.hl.hp.1.lt⟩
  · exact ⟨h.hl.hg k hk, (h.hl.hp.1.glt k hk).1⟩
  · refine ⟨h.cB k hk, ?_⟩
    apply Classical.byContradiction
    intro e
    exact hk (h.rh.fresh k (by omega))
/-- What a step leaves. -/
def RetPr (v : Value) (B : World) (b x m : Nat) (G : Option Nat) (C : Nat → Nat) (w : World) (e : Ending) (w' : World) : Prop :=
  e = .returned v ∧ ∃ G' C' qs' os', Pr B w' b x G' C' qs' os' m ∧ Fr (fp b G C) w w' ∧ ∀ k, fp b G' C' k → fp b G C k ∨ w.heap.size ≤ k
theorem RetPr.of_below {v : Value} {B w w' : World} {b x m : Nat} {G : Option Nat} {C : Nat → Nat} {qs : List Nat} {os : List Ob} {e : Ending} (h : Pr B w b x G C qs os m) (he : e = .returned v) (hb : Below w.heap.size w w') : RetPr v B b x m G C w e w' :=
  ⟨he, G, C, qs, os, h.below hb, Fr.of_below hb, fun k hk => .inl hk⟩
/-- Both heaps turned alike. -/
theorem Pr.both {B w w0 w1 w2 w3 : World} {b x : Nat} {G : Option Nat} {C : Nat → Nat} {qs : List Nat} {os os' : List Ob} {m : Nat} {v1 v2 v : Value} {e1 e2 e : Ending} (h : Pr B w b x G C qs os m) (h0 : Below w.heap.size w w0) (h1 : RetHp v1 b G os' m w0 e1 w1)
    (h3 : RetR v2 x C os' m w2 e2 w3) (h4 : Below w1.heap.size w1 w2) (he : e = .returned v) : RetPr v B b x m G C w e w3 := by
  obtain ⟨-, G', a1, a2, a3⟩ := h1
  obtain ⟨-, C', qs', c1, c2, c3⟩ := h3
  have k0 := h.below h0
  have s0 := h0.size
  have s1 := a2.size
  have s2 := h4.size
  -- the new block of words is none of the document's
  have hG' : ∀ k, G' = some k → C k = 0 := by
    intro k hk
    rcases a3 k hk with h5 | h5
    · exact h.cg k h5
    · exact k0.rh.fresh k h5
  have hl1 : HL B w1 b G' os' m := ⟨a1, k0.hl.bel.trans (a2.below (fun y hy h9 => by
      rcases h9 with h9 | h9
      · have := h.hl.hb; omega
      · have := h.hl.hg y h9; omega) k0.hl.bel.size), h.hl.hb, fun k hk => by
    rcases a3 k hk with h5 | h5
    · exact h.hl.hg k h5
    · have := k0.hl.bel.size; omega⟩
  have hl2 : HL B w2 b G' os' m := hl1.below h4
  have hl3 : HL B w3 b G' os' m := hl2.fr c2 (fun e => e h.cb) (fun k hk e => e (hG' k hk)) (fun k hk e => by have := h.cB k e; omega)
  have f1 : Fr (fp b G C) w w1 := (Fr.of_below h0).trans a2 (fun k _ hk => .inl hk)
  have f2 : Fr (fp b G C) w w2 := f1.trans (Fr.of_below (F := fun _ => False) h4) (fun _ _ h => h.elim)
  have f3 : Fr (fp b G C) w w3 := f2.trans c2 (fun k _ hk => .inr hk)
  refine ⟨he, G', C', qs', os', ⟨hl3, c1, ?_, ?_, ?_⟩, f3, ?_⟩
  · apply Classical.byContradiction
    intro e
    rcases c3 b e with h5 | h5
    · exact h5 h.cb
    · have := hl2.hp.1.lt; omega
  · intro k hk
    apply Classical.byContradiction
    intro e
    rcases c3 k e with h5 | h5
    · exact h5 (hG' k hk)
    · have := (hl2.hp.1.glt k hk).1; omega
  · intro k hk
    rcases c3 k hk with h5 | h5
    · exact h.cB k h5
    · have := hl2.bel.size; omega
  · rintro k ((rfl | hk) | hk)
    · exact .inl (.inl (.inl rfl))
    · rcases a3 k hk with h5 | h5
      · exact .inl (.inl (.inr h5))
      · exact .inr (by omega)
    · rcases c3 k hk with h5 | h5
      · exact .inl (.inr h5)
      · exact .inr (by omega)
/-- Which address is taken. -/
def pickF (os : List Ob) (n : Int) : Int := if os.length = 0 ∨ n % 19 = 0 then (n.tdiv 19) % 30 - 3 else (adrs os).getD (n % (os.length : Int)).toNat 0
theorem pickF_bd {os : List Ob} {n : Int} (h : total os ≤ 1000000) : -3 ≤ pickF os n ∧ pickF os n ≤ 1000000 := by
  unfold pickF
  split
  · have := Int.emod_nonneg (n.tdiv 19) (show (30 : Int) ≠ 0 by omega)
    have := Int.emod_lt_of_pos (n.tdiv 19) (show (0 : Int) < 30 by omega)
    omega
  · rename_i h1
    have h2 : ¬ os.length = 0 := fun e => h1 (.inl e)
    have h3 := Int.emod_nonneg n (show (os.length : Int) ≠ 0 by omega)
    have h4 := Int.emod_lt_of_pos n (show (0 : Int) < os.length by omega)
    have h5 : (n % (os.length : Int)).toNat < (adrs os).length := by rw [adrs_len]; omega
    rw [List.getD_eq_getElem?_getD, List.getElem?_eq_getElem h5, Option.getD_some, adrs_get]
    rw [adrs_len] at h5
    have := adr_le h5
    omega
theorem tdiv_bd {y : Int} {d : Int} (hd : 1 ≤ d) (hy : I64 y) : I64 (y.tdiv d) := by
  unfold I64 at *
  by_cases h : 0 ≤ y
  · have h1 := Int.tdiv_nonneg h (show 0 ≤ d by omega)
    have h2 := Int.tdiv_le_self d h
    omega
  · have h3 : (-y).tdiv d = -(y.tdiv d) := Int.neg_tdiv _ _
    have h1 := Int.tdiv_nonneg (show 0 ≤ -y by omega) (show 0 ≤ d by omega)
    have h2 := Int.tdiv_le_self d (show 0 ≤ -y by omega)
    omega
set_option maxHeartbeats 8000000 in
set_option maxRecDepth 100000 in
theorem pick_r {w : World} {x : Nat} {C : Nat → Nat} {qs : List Nat} {os : List Ob} {m : Nat} (h : Rh w x C qs os m) (n : Int) (hn : I64 n) : Calls Try.prog 58 #[.pointer (some ⟨x, 0, none⟩), .int .i64 n] w (RetV (.int .i64 (pickF os n)) w) := by
  have F37 := Lib.hid (robjects_r h)
  have hol := total_len os
  have hm := h.most
  have hrm := h.room
  clear h
  have F19 := Lib.hid (fun W => within_any n 19 W hn.1 hn.2 (by omega) (by omega))
  obtain ⟨d, hd⟩ : ∃ d, d = n.tdiv 19 := ⟨_, rfl⟩
  have hdb : I64 d := by rw [hd]; exact tdiv_bd (by omega) hn
  have hdw : IntKind.i64.wrap (n.tdiv 19) = d := by rw [IntKind.wrap_i64, hd]; have := tdiv_bd (d := 19) (by omega) hn; unfold I64 at this; omega
  have hdw2 : wrap64 (n.tdiv 19) = d := by rw [hd]; have := tdiv_bd (d := 19) (by omega) hn; unfold I64 at this; unfold wrap64; omega
  have F30 := Lib.hid (fun W => within_any d 30 W hdb.1 hdb.2 (by omega) (by omega))
  have h30 := Int.emod_nonneg d (show (30 : Int) ≠ 0 by omega)
  have h31 := Int.emod_lt_of_pos d (show (0 : Int) < 30 by omega)
  have HD := Lib.hid hd
  clear hd
  obtain ⟨r, hr⟩ : ∃ r, r = d % 30 := ⟨_, rfl⟩
  rw [← hr] at F30 h30 h31
  have HRR := Lib.hid hr
  clear hr
  by_cases h0 : os.length = 0
  · have HR : Hid (pickF os n = r - 3) := by show _ = _; unfold pickF; rw [if_pos (.inl h0), ← HD.out, HRR.out]
    have e0 : (adrs os).length = 0 := by rw [adrs_len]; exact h0
    clear h0 hol
    go_enter Try.func58, Try.ntmps58
    go_wp2_with fail
    refine F37.out.mono ?_
    rintro e w1 hr
    obtain ⟨ao, c, rfl, -, hb1⟩ := hr.form
    rw [e0]
    have HB1 := Lib.hid hb1
    clear hr hb1 F37
    go_wp2_with fail
    refine (F30.out _).mono ?_
    rintro e w2 ⟨rfl, rfl⟩
    go_wp2_with fail
    go_ret
    exact ⟨by rw [HR.out]; rfl, HB1.out⟩
  · by_cases h19 : n % 19 = 0
    · have HR : Hid (pickF os n = r - 3) := by show _ = _; unfold pickF; rw [if_pos (.inr h19), ← HD.out, HRR.out]
      rw [h19] at F19
      have e0 : (((adrs os).length : Int) == 0) = false := beq_eq_false_iff_ne.2 (by rw [adrs_len]; omega)
      obtain ⟨L, hL⟩ : ∃ L, L = (adrs os).length := ⟨_, rfl⟩
      rw [← hL] at e0
      have HL := Lib.hid hL.symm
      clear h0 hol h19 hL
      go_enter Try.func58, Try.ntmps58
      go_wp2_with fail
      refine F37.out.mono ?_
      rintro e w1 hr
      obtain ⟨ao, c, rfl, -, hb1⟩ := hr.form
      rw [HL.out]
      have HB1 := Lib.hid hb1
      clear hr hb1 F37
      go_wp2_with fail
      refine (F19.out _).mono ?_
      rintro e w2 ⟨rfl, rfl⟩
      go_wp2_with fail
      refine (F30.out _).mono ?_
      rintro e w2 ⟨rfl, rfl⟩
      go_wp2_with fail
      go_ret
      exact ⟨by rw [HR.out]; rfl, HB1.out⟩
    · have e0 : (((adrs os).length : Int) == 0) = false := beq_eq_false_iff_ne.2 (by rw [adrs_len]; omega)
      obtain ⟨t, ht⟩ : ∃ t, t = n % 19 := ⟨_, rfl⟩
      rw [← ht] at F19
      have e1 : (t == 0) = false := by rw [ht]; simpa using h19
      have hLp : 1 ≤ os.length := by omega
      have F9 := Lib.hid (fun W => within_any n (os.length : Int) W hn.1 hn.2 (by omega) (by omega))
      have h3 := Int.emod_nonneg n (show (os.length : Int) ≠ 0 by omega)
      have h4 := Int.emod_lt_of_pos n (show (0 : Int) < os.length by omega)
      obtain ⟨q, hq⟩ : ∃ q : Nat, (q : Int) = n % (os.length : Int) := ⟨(n % (os.length : Int)).toNat, by omega⟩
      have hqL : q < (adrs os).length := by rw [adrs_len]; omega
      have HR : Hid (pickF os n = (adrs os)[q]) := by
        show _ = _
        unfold pickF
        rw [if_neg (by rintro (h | h); exact h0 h; exact h19 h), ← hq, Int.toNat_natCast, List.getD_eq_getElem?_getD, List.getElem?_eq_getElem hqL, Option.getD_some]
      rw [← hq, ← adrs_len] at F9
      obtain ⟨L, hL⟩ : ∃ L, L = (adrs os).length := ⟨_, rfl⟩
      have hqL2 : q < L := by omega
      have hqi : (q : Int) < (L : Int) := by omega
      have HQ : Hid (∀ W v, W.ownsRow w.heap.size 3 1 v (adrs os).length ((adrs os).map (Value.int .i64)) → IsS W v (adrs os)) := fun W v h => own_isS h
      rw [← hL] at e0 F9
      have HLL := Lib.hid hL.symm
      clear h0 h19 ht h3 h4 hq hL hol hLp
      go_enter Try.func58, Try.ntmps58
      go_wp2_with fail
      refine F37.out.mono ?_
      rintro e w1 hr
      obtain ⟨ao, c, rfl, ho1, hb1⟩ := hr.form
      obtain ⟨ao', c', e4, _, hrr⟩ := HQ.out _ _ ho1
      injection e4 with e4 e5 e6
      rcases hrr with ⟨_, hz⟩ | ⟨g, o, e7, hc⟩
      · rw [hz] at hqL; simp at hqL
      · rw [← e4] at e7
        subst e7
        have c0 := hc q hqL
        generalize (adrs os)[q] = z at c0 HR
        rw [HLL.out]
        have HB1 := Lib.hid hb1
        clear hr hb1 F37 e4 e5 e6 hc ho1 hqL
        go_wp2_with fail
        refine (F19.out _).mono ?_
        rintro e w2 ⟨rfl, rfl⟩
        go_wp2_with fail
        refine (F9.out _).mono ?_
        rintro e w2 ⟨rfl, rfl⟩
        go_wp2_with fail
        go_ret
        exact ⟨by rw [HR.out]; rfl, HB1.out⟩
end Go.Proofs.Ytjecjlnkpbbanaa
