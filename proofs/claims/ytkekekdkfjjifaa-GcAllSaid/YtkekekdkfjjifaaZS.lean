/- The document's Follow. -/
import Derived.Test.YtkekekdkfjjifaaR7
import Derived.Test.YtkekekdkfjjifaaZD
namespace Go.Proofs.Ytkekekdkfjjifaa
open Go Go.RowKit
set_option linter.unusedVariables false
set_option linter.unusedSimpArgs false
def RfInv (qs : List Nat) (os : List Ob) (a : Int) (ov iv : Value) : Prop :=
  ∃ (i : Nat) (c : Int), iv = .int .i64 (i : Int) ∧ ov = fptr qs os c ∧ ((i ≤ os.length ∧ folOf os a = fol os (os.length - i) c) ∨ (i = os.length + 1 ∧ folOf os a = -1))
theorem fol_none {os : List Ob} {n : Nat} {c : Int} (h : ob os c = none) : fol os n c = -1 := by unfold fol; rw [h]
theorem fol_here {os : List Ob} {n : Nat} {c : Int} {o : Ob} (h : ob os c = some o) (ht : o.tag ≠ 5) : fol os n c = c := by unfold fol; rw [h]; simp [ht]
theorem fol_next {os : List Ob} {n : Nat} {c : Int} {o : Ob} (h : ob os c = some o) (ht : o.tag = 5) : fol os (n + 1) c = fol os n (o.body.headD 0) := by
  conv => lhs; unfold fol
  rw [h]; simp [ht]
theorem fol_out {os : List Ob} {c : Int} {o : Ob} (h : ob os c = some o) (ht : o.tag = 5) : fol os 0 c = -1 := by unfold fol; rw [h]; simp [ht]
set_option maxHeartbeats 16000000 in
set_option maxRecDepth 100000 in
theorem rfollow_r {w : World} {x : Nat} {C : Nat → Nat} {qs : List Nat} {os : List Ob} {m : Nat} (h : Rh w x C qs os m) (a : Int) : Calls Try.prog 43 #[.pointer (some ⟨x, 0, none⟩), .int .i64 a] w (RetV (.int .i64 (folOf os a)) w) := by
  have F42 := Lib.hid (find_r h a)
  have FN := Lib.hid (fun c => find_r h c)
  obtain ⟨la, lc, -, -, c2, hcap, -, -, hr⟩ := h.cells
  have HH := Lib.hid h
  have hlen := h.len
  have hol := total_len os
  have hm := h.most
  have hrm := h.room
  clear h hr
  have H0 : Hid (RfInv qs os a (fptr qs os a) (.int .i64 0)) := ⟨0, a, rfl, rfl, .inl ⟨Nat.zero_le _, rfl⟩⟩
  obtain ⟨n, hn⟩ : ∃ n, n = os.length := ⟨_, rfl⟩
  have hn9 : n ≤ 1000000 := by omega
  rw [← hn] at c2 hcap
  have HN := Lib.hid hn
  clear hn hlen hol hm hrm
  go_enter Try.func43, Try.ntmps43
  go_wp2_with fail
  refine F42.out.mono ?_
  rintro e w1 ⟨rfl, rfl⟩
  clear F42
  go_wp2_with fail
  go_loop [5, 6] (fun ov iv => RfInv qs os a ov iv) (fun _ iv => n + 2 - (intOf iv).toNat)
  case atStart => exact H0.out
  case round =>
    clear H0
    obtain ⟨i, c, rfl, rfl, hi⟩ := hrel
    rw [← HN.out] at hi
    rcases hi with ⟨hi, hf⟩ | ⟨rfl, hf⟩
    · have q1 : decide ((i : Int) ≤ (n : Int)) = true := decide_eq_true (by omega)
      have HF := Lib.hid hf
      clear hf
      rcases HH.out.at c with ⟨-, h2, h3⟩ | ⟨k, q, o, -, hkl, -, -, hck, h2, h3, h4⟩
      · rw [h2]
        have HR : Hid (folOf os a = -1) := by show _ = _; rw [HF.out]; exact fol_none h3
        clear h2 h3
        go_wp2_with fail
        go_ret
        exact ⟨by rw [HR.out]; rfl, Below.refl _ _⟩
      · rw [h2]
        obtain ⟨pa, pc, na, nc, d0, d1, d2, -, o1, -⟩ := h4.cells
        have hok := HH.out.oks o (ob_mem h3)
        by_cases h5 : o.tag = 5
        · have hq5 : ((o.tag : Int) != 5) = false := by rw [h5]; rfl
          have hpl : o.ptrs.length = 1 := by
            have := hok.pn
            have := hok.ind h5
            rw [Ob.ptrs, List.length_take]; omega
          have hp0 : o.ptrs = [o.body.headD 0] := by
            have h9 := hok.ind h5
            have h8 := hok.b1
            unfold Ob.ptrs
            rw [h9]
            cases hb : o.body with
            | nil => rw [hb] at h8; simp at h8
            | cons y l => simp
          have hs := own_isS o1
          rw [hpl] at d2
          obtain ⟨ao', cap', e1, _, hrr⟩ := hs
          injection e1 with e1 e2 e3
          rcases hrr with ⟨_, e⟩ | ⟨g, oo, e4, hc0⟩
          · rw [hp0] at e; simp at e
          · rw [← e1] at e4
            subst e4
            have cc := hc0 0 (by omega)
            rw [Nat.add_zero] at cc
            obtain ⟨v, hv⟩ : ∃ v, v = o.body.headD 0 := ⟨_, rfl⟩
            have hv0 : o.ptrs[0]'(by omega) = v := by simp only [hp0]; exact hv.symm
            rw [hv0] at cc
            have HREL : Hid (RfInv qs os a (fptr qs os v) (.int .i64 ((i : Int) + 1))) := by
              refine ⟨i + 1, v, by go_num, rfl, ?_⟩
              by_cases hin : i < os.length
              · refine .inl ⟨by omega, ?_⟩
                rw [HF.out, HN.out, show os.length - i = (os.length - (i + 1)) + 1 by omega, fol_next h3 h5, hv]
              · have : i = os.length := by rw [HN.out] at hi; omega
                refine .inr ⟨by omega, ?_⟩
                rw [HF.out, HN.out, this, Nat.sub_self, fol_out h3 h5]
            have F := Lib.hid (FN.out v)
            generalize o.tag = tg at d1 hq5
            clear h2 h3 h4 o1 hok h5 hpl hp0 e1 e2 e3 hc0 hv hv0 hck d0
            go_wp2_with fail
            refine F.out.mono ?_
            rintro e w2 ⟨rfl, rfl⟩
            clear F
            go_wp2_with fail
            go_round
            case rel => exact HREL.out
            case measure => simp [intOf]; omega
        · have hq5 : ((o.tag : Int) != 5) = true := by simp; omega
          have HR : Hid (folOf os a = (adr os k : Nat)) := by show _ = _; rw [HF.out, fol_here h3 h5, hck]
          obtain ⟨ad, had⟩ : ∃ ad, ad = adr os k := ⟨_, rfl⟩
          rw [← had] at d0 HR
          generalize o.tag = tg at d1 hq5
          clear h2 h3 h4 o1 hok h5 hck had d2
          go_wp2_with fail
          go_ret
          exact ⟨by rw [HR.out]; rfl, Below.refl _ _⟩
    · have q1 : decide (((n : Int) + 1) ≤ (n : Int)) = false := decide_eq_false (by omega)
      have q2 : decide ((((n + 1 : Nat)) : Int) ≤ (n : Int)) = false := decide_eq_false (by omega)
      have HR := Lib.hid hf
      clear hf
      generalize fptr qs os c = fv
      go_wp2_with fail
      go_ret
      exact ⟨by rw [HR.out]; rfl, Below.refl _ _⟩
end Go.Proofs.Ytkekekdkfjjifaa
namespace Go.Proofs.Ytkekekdkfjjifaa
open Go Go.RowKit
set_option linter.unusedVariables false
set_option linter.unusedSimpArgs false
structure Pr (B w : World) (b x : Nat) (G : Option Nat) (C : Nat → Nat) (qs : List Nat) (os : List Ob) (m : Nat) : Prop where
  hl : HL B w b G os m
  rh : Rh w x C qs os m
  cb : C b = 0
  cg : ∀ k, G = some k → C k = 0
  cB : ∀ k, C k ≠ 0 → B.heap.size ≤ k
def fp (b : Nat) (G : Option Nat) (C : Nat → Nat) (k : Nat) : Prop := own b G k ∨ C k ≠ 0
theorem Pr.below {B w w' : World} {b x : Nat} {G : Option Nat} {C : Nat → Nat} {qs : List Nat} {os : List Ob} {m : Nat} (h : Pr B w b x G C qs os m) (hb : Below w.heap.size w w') : Pr B w' b x G C qs os m := ⟨h.hl.below hb, h.rh.below hb, h.cb, h.cg, h.cB⟩
theorem Pr.fr {F : Nat → Prop} {B w w' : World} {b x : Nat} {G : Option Nat} {C : Nat → Nat} {qs : List Nat} {os : List Ob} {m : Nat} (h : Pr B w b x G C qs os m) (hf : Fr F w w') (h1 : ∀ k, F k → ¬ fp b G C k) (h2 : ∀ k, k < B.heap.size → ¬ F k) : Pr B w' b x G C qs os m :=
  ⟨h.hl.fr hf (fun e => h1 b e (.inl (.inl rfl))) (fun k hk e => h1 k e (.inl (.inr hk))) h2, h.rh.fr hf (fun k hk => Classical.byContradiction fun e => h1 k hk (.inr e)), h.cb, h.cg, h.cB⟩
theorem Pr.low {B w : World} {b x : Nat} {G : Option Nat} {C : Nat → Nat} {qs : List Nat} {os : List Ob} {m : Nat} (h : Pr B w b x G C qs os m) (k : Nat) (hk : fp b G C k) : B.heap.size ≤ k ∧ k < w.heap.size := by
  rcases hk with (rfl | hk) | hk
  · exact ⟨h.hl.hb, h.hl.hp.1.lt⟩
  · exact ⟨h.hl.hg k hk, (h.hl.hp.1.glt k hk).1⟩
  · refine ⟨h.cB k hk, ?_⟩
    apply Classical.byContradiction
    intro e
    exact hk (h.rh.fresh k (by omega))
/-- What a step leaves. -/
def RetPr (v : Value) (B : World) (b x m : Nat) (G : Option Nat) (C : Nat → Nat) (w : World) (e : Ending) (w' : World) : Prop :=
  e = .returned v ∧ ∃ G' C' qs' os', Pr B w' b x G' C' qs' os' m ∧ Fr (fp b G C) w w' ∧ ∀ k, fp b G' C' k → fp b G C k ∨ w.heap.size ≤ k
theorem RetPr.of_below {v : Value} {B w w' : World} {b x m : Nat} {G : Option Nat} {C : Nat → Nat} {qs : List Nat} {os : List Ob} {e : Ending} (h : Pr B w b x G C qs os m) (he : e = .returned v) (hb : Below w.heap.size w w') : RetPr v B b x m G C w e w' :=
  ⟨he, G, C, qs, os, h.below hb, Fr.of_below hb, fun k hk => .inl hk⟩
/-- Both heaps turned alike. -/
theorem Pr.both {B w w0 w1 w2 w3 : World} {b x : Nat} {G : Option Nat} {C : Nat → Nat} {qs : List Nat} {os os' : List Ob} {m : Nat} {v1 v2 v : Value} {e1 e2 e : Ending} (h : Pr B w b x G C qs os m) (h0 : Below w.heap.size w w0) (h1 : RetHp v1 b G os' m w0 e1 w1)
    (h3 : RetR v2 x C os' m w2 e2 w3) (h4 : Below w1.heap.size w1 w2) (he : e = .returned v) : RetPr v B b x m G C w e w3 := by
  obtain ⟨-, G', a1, a2, a3⟩ := h1
  obtain ⟨-, C', qs', c1, c2, c3⟩ := h3
  have k0 := h.below h0
  have s0 := h0.size
  have s1 := a2.size
  have s2 := h4.size
  -- the new block of words is none of the document's
  have hG' : ∀ k, G' = some k → C k = 0 := by
    intro k hk
    rcases a3 k hk with h5 | h5
    · exact h.cg k h5
    · exact k0.rh.fresh k h5
  have hl1 : HL B w1 b G' os' m := ⟨a1, k0.hl.bel.trans (a2.below (fun y hy h9 => by
      rcases h9 with h9 | h9
      · have := h.hl.hb; omega
      · have := h.hl.hg y h9; omega) k0.hl.bel.size), h.hl.hb, fun k hk => by
    rcases a3 k hk with h5 | h5
    · exact h.hl.hg k h5
    · have := k0.hl.bel.size; omega⟩
  have hl2 : HL B w2 b G' os' m := hl1.below h4
  have hl3 : HL B w3 b G' os' m := hl2.fr c2 (fun e => e h.cb) (fun k hk e => e (hG' k hk)) (fun k hk e => by have := h.cB k e; omega)
  have f1 : Fr (fp b G C) w w1 := (Fr.of_below h0).trans a2 (fun k _ hk => .inl hk)
  have f2 : Fr (fp b G C) w w2 := f1.trans (Fr.of_below (F := fun _ => False) h4) (fun _ _ h => h.elim)
  have f3 : Fr (fp b G C) w w3 := f2.trans c2 (fun k _ hk => .inr hk)
  refine ⟨he, G', C', qs', os', ⟨hl3, c1, ?_, ?_, ?_⟩, f3, ?_⟩
  · apply Classical.byContradiction
    intro e
    rcases c3 b e with h5 | h5
    · exact h5 h.cb
    · have := hl2.hp.1.lt; omega
  · intro k hk
    apply Classical.byContradiction
    intro e
    rcases c3 k e with h5 | h5
    · exact h5 (hG' k hk)
    · have := (hl2.hp.1.glt k hk).1; omega
  · intro k hk
    rcases c3 k hk with h5 | h5
    · exact h.cB k h5
    · have := hl2.bel.size; omega
  · rintro k ((rfl | hk) | hk)
    · exact .inl (.inl (.inl rfl))
    · rcases a3 k hk with h5 | h5
      · exact .inl (.inl (.inr h5))
      · exact .inr (by omega)
    · rcases c3 k hk with h5 | h5
      · exact .inl (.inr h5)
      · exact .inr (by omega)
/-- Which address is taken. -/
def pickF (os : List Ob) (n : Int) : Int := if os.length = 0 ∨ n % 19 = 0 then (n.tdiv 19) % 30 - 3 else (adrs os).getD (n % (os.length : Int)).toNat 0
theorem pickF_bd {os : List Ob} {n : Int} (h : total os ≤ 1000000) : -3 ≤ pickF os n ∧ pickF os n ≤ 1000000 := by
  unfold pickF
  split
  · have := Int.emod_nonneg (n.tdiv 19) (show (30 : Int) ≠ 0 by omega)
    have := Int.emod_lt_of_pos (n.tdiv 19) (show (0 : Int) < 30 by omega)
    omega
  · rename_i h1
    have h2 : ¬ os.length = 0 := fun e => h1 (.inl e)
    have h3 := Int.emod_nonneg n (show (os.length : Int) ≠ 0 by omega)
    have h4 := Int.emod_lt_of_pos n (show (0 : Int) < os.length by omega)
    have h5 : (n % (os.length : Int)).toNat < (adrs os).length := by rw [adrs_len]; omega
    rw [List.getD_eq_getElem?_getD, List.getElem?_eq_getElem h5, Option.getD_some, adrs_get]
    rw [adrs_len] at h5
    have := adr_le h5
    omega
theorem tdiv_bd {y : Int} {d : Int} (hd : 1 ≤ d) (hy : I64 y) : I64 (y.tdiv d) := by
  unfold I64 at *
  by_cases h : 0 ≤ y
  · have h1 := Int.tdiv_nonneg h (show 0 ≤ d by omega)
    have h2 := Int.tdiv_le_self d h
    omega
  · have h3 : (-y).tdiv d = -(y.tdiv d) := Int.neg_tdiv _ _
    have h1 := Int.tdiv_nonneg (show 0 ≤ -y by omega) (show 0 ≤ d by omega)
    have h2 := Int.tdiv_le_self d (show 0 ≤ -y by omega)
    omega
set_option maxHeartbeats 8000000 in
set_option maxRecDepth 100000 in
theorem pick_r {w : World} {x : Nat} {C : Nat → Nat} {qs : List Nat} {os : List Ob} {m : Nat} (h : Rh w x C qs os m) (n : Int) (hn : I64 n) : Calls Try.prog 58 #[.pointer (some ⟨x, 0, none⟩), .int .i64 n] w (RetV (.int .i64 (pickF os n)) w) := by
  have F37 := Lib.hid (robjects_r h)
  have hol := total_len os
  have hm := h.most
  have hrm := h.room
  clear h
  have F19 := Lib.hid (fun W => within_any n 19 W hn.1 hn.2 (by omega) (by omega))
  obtain ⟨d, hd⟩ : ∃ d, d = n.tdiv 19 := ⟨_, rfl⟩
  have hdb : I64 d := by rw [hd]; exact tdiv_bd (by omega) hn
  have hdw : IntKind.i64.wrap (n.tdiv 19) = d := by rw [IntKind.wrap_i64, hd]; have := tdiv_bd (d := 19) (by omega) hn; unfold I64 at this; omega
  have hdw2 : wrap64 (n.tdiv 19) = d := by rw [hd]; have := tdiv_bd (d := 19) (by omega) hn; unfold I64 at this; unfold wrap64; omega
  have F30 := Lib.hid (fun W => within_any d 30 W hdb.1 hdb.2 (by omega) (by omega))
  have h30 := Int.emod_nonneg d (show (30 : Int) ≠ 0 by omega)
  have h31 := Int.emod_lt_of_pos d (show (0 : Int) < 30 by omega)
  have HD := Lib.hid hd
  clear hd
  obtain ⟨r, hr⟩ : ∃ r, r = d % 30 := ⟨_, rfl⟩
  rw [← hr] at F30 h30 h31
  have HRR := Lib.hid hr
  clear hr
  by_cases h0 : os.length = 0
  · have HR : Hid (pickF os n = r - 3) := by show _ = _; unfold pickF; rw [if_pos (.inl h0), ← HD.out, HRR.out]
    have e0 : (adrs os).length = 0 := by rw [adrs_len]; exact h0
    clear h0 hol
    go_enter Try.func58, Try.ntmps58
    go_wp2_with fail
    refine F37.out.mono ?_
    rintro e w1 hr
    obtain ⟨ao, c, rfl, -, hb1⟩ := hr.form
    rw [e0]
    have HB1 := Lib.hid hb1
    clear hr hb1 F37
    go_wp2_with fail
    refine (F30.out _).mono ?_
    rintro e w2 ⟨rfl, rfl⟩
    go_wp2_with fail
    go_ret
    exact ⟨by rw [HR.out]; rfl, HB1.out⟩
  · by_cases h19 : n % 19 = 0
    · have HR : Hid (pickF os n = r - 3) := by show _ = _; unfold pickF; rw [if_pos (.inr h19), ← HD.out, HRR.out]
      rw [h19] at F19
      have e0 : (((adrs os).length : Int) == 0) = false := beq_eq_false_iff_ne.2 (by rw [adrs_len]; omega)
      obtain ⟨L, hL⟩ : ∃ L, L = (adrs os).length := ⟨_, rfl⟩
      rw [← hL] at e0
      have HL := Lib.hid hL.symm
      clear h0 hol h19 hL
      go_enter Try.func58, Try.ntmps58
      go_wp2_with fail
      refine F37.out.mono ?_
      rintro e w1 hr
      obtain ⟨ao, c, rfl, -, hb1⟩ := hr.form
      rw [HL.out]
      have HB1 := Lib.hid hb1
      clear hr hb1 F37
      go_wp2_with fail
      refine (F19.out _).mono ?_
      rintro e w2 ⟨rfl, rfl⟩
      go_wp2_with fail
      refine (F30.out _).mono ?_
      rintro e w2 ⟨rfl, rfl⟩
      go_wp2_with fail
      go_ret
      exact ⟨by rw [HR.out]; rfl, HB1.out⟩
    · have e0 : (((adrs os).length : Int) == 0) = false := beq_eq_false_iff_ne.2 (by rw [adrs_len]; omega)
      obtain ⟨t, ht⟩ : ∃ t, t = n % 19 := ⟨_, rfl⟩
      rw [← ht] at F19
      have e1 : (t == 0) = false := by rw [ht]; simpa using h19
      have hLp : 1 ≤ os.length := by omega
      have F9 := Lib.hid (fun W => within_any n (os.length : Int) W hn.1 hn.2 (by omega) (by omega))
      have h3 := Int.emod_nonneg n (show (os.length : Int) ≠ 0 by omega)
      have h4 := Int.emod_lt_of_pos n (show (0 : Int) < os.length by omega)
      obtain ⟨q, hq⟩ : ∃ q : Nat, (q : Int) = n % (os.length : Int) := ⟨(n % (os.length : Int)).toNat, by omega⟩
      have hqL : q < (adrs os).length := by rw [adrs_len]; omega
      have HR : Hid (pickF os n = (adrs os)[q]) := by
        show _ = _
        unfold pickF
        rw [if_neg (by rintro (h | h); exact h0 h; exact h19 h), ← hq, Int.toNat_natCast, List.getD_eq_getElem?_getD, List.getElem?_eq_getElem hqL, Option.getD_some]
      rw [← hq, ← adrs_len] at F9
      obtain ⟨L, hL⟩ : ∃ L, L = (adrs os).length := ⟨_, rfl⟩
      have hqL2 : q < L := by omega
      have hqi : (q : Int) < (L : Int) := by omega
      have HQ : Hid (∀ W v, W.ownsRow w.heap.size 3 1 v (adrs os).length ((adrs os).map (Value.int .i64)) → IsS W v (adrs os)) := fun W v h => own_isS h
      rw [← hL] at e0 F9
      have HLL := Lib.hid hL.symm
      clear h0 h19 ht h3 h4 hq hL hol hLp
      go_enter Try.func58, Try.ntmps58
      go_wp2_with fail
      refine F37.out.mono ?_
      rintro e w1 hr
      obtain ⟨ao, c, rfl, ho1, hb1⟩ := hr.form
      obtain ⟨ao', c', e4, _, hrr⟩ := HQ.out _ _ ho1
      injection e4 with e4 e5 e6
      rcases hrr with ⟨_, hz⟩ | ⟨g, o, e7, hc⟩
      · rw [hz] at hqL; simp at hqL
      · rw [← e4] at e7
        subst e7
        have c0 := hc q hqL
        generalize (adrs os)[q] = z at c0 HR
        rw [HLL.out]
        have HB1 := Lib.hid hb1
        clear hr hb1 F37 e4 e5 e6 hc ho1 hqL
        go_wp2_with fail
        refine (F19.out _).mono ?_
        rintro e w2 ⟨rfl, rfl⟩
        go_wp2_with fail
        refine (F9.out _).mono ?_
        rintro e w2 ⟨rfl, rfl⟩
        go_wp2_with fail
        go_ret
        exact ⟨by rw [HR.out]; rfl, HB1.out⟩
end Go.Proofs.Ytkekekdkfjjifaa
namespace Go.Proofs.Ytkekekdkfjjifaa
open Go Go.RowKit
set_option linter.unusedVariables false
set_option linter.unusedSimpArgs false
def TwoP (c : Prop) (os' : List Ob) (b m : Nat) (G : Option Nat) (w : World) (e : Ending) (w' : World) : Prop :=
  (¬ c ∧ RetV (.bool false) w e w') ∨ (c ∧ RetHp (.bool true) b G os' m w e w')
def TwoR (c : Prop) (os' : List Ob) (x m : Nat) (C : Nat → Nat) (w : World) (e : Ending) (w' : World) : Prop :=
  (¬ c ∧ RetV (.bool false) w e w') ∨ (c ∧ RetR (.bool true) x C os' m w e w')
theorem TwoP.fr {c : Prop} {os' : List Ob} {b m : Nat} {G : Option Nat} {w w' : World} {e : Ending} (h : TwoP c os' b m G w e w') : Fr (own b G) w w' ∧ ∃ is : Bool, e = .returned (.bool is) := by
  rcases h with ⟨_, h1, h2⟩ | ⟨_, h1, G', h2, h3, h4⟩
  · exact ⟨Fr.of_below h2, false, h1⟩
  · exact ⟨h3, true, h1⟩
theorem both_two {B w w0 w1 w2 w3 : World} {b x : Nat} {G : Option Nat} {C : Nat → Nat} {qs : List Nat} {os os' : List Ob} {m : Nat} {c : Prop} {e1 e2 : Ending} (h : Pr B w b x G C qs os m) (h0 : Below w.heap.size w w0)
    (h1 : TwoP c os' b m G w0 e1 w1) (h4 : Below w1.heap.size w1 w2) (h2 : TwoR c os' x m C w2 e2 w3) : ∃ is : Bool, e1 = .returned (.bool is) ∧ e2 = .returned (.bool is) ∧ ∀ e, e = .returned (.bool true) → RetPr (.bool true) B b x m G C w e w3 := by
  have s0 := h0.size
  have s4 := h4.size
  rcases h1 with ⟨n1, r1⟩ | ⟨f1, r1⟩
  · rcases h2 with ⟨_, r2⟩ | ⟨g1, _⟩
    · refine ⟨false, r1.1, r2.1, fun e he => RetPr.of_below h he ?_⟩
      have s1 := r1.2.size
      exact h0.trans ((r1.2.mono s0).trans ((h4.mono (by omega)).trans (r2.2.mono (by omega))))
    · exact absurd g1 n1
  · rcases h2 with ⟨n2, _⟩ | ⟨_, r2⟩
    · exact absurd f1 n2
    · exact ⟨true, r1.1, r2.1, fun e he => h.both h0 r1 r2 h4 he⟩
def SetC (os : List Ob) (a i tt : Int) : Prop := 0 ≤ i ∧ i < ((hdo os a).p : Int) ∧ (ob os tt).isSome = true
def setL (os : List Ob) (a i tt : Int) : List Ob := match loc os a with | some k => upd os k (fun o => setO o i.toNat tt) | none => os
def OverC (os : List Ob) (a tt : Int) : Prop := a ≠ tt ∧ (ob os a).isSome = true ∧ (ob os tt).isSome = true
def overL (os : List Ob) (a tt : Int) : List Ob := match loc os a with | some k => upd os k (fun o => overO o tt) | none => os
theorem set_p {w : World} {b : Nat} {G : Option Nat} {os : List Ob} {m : Nat} (h : HpO w b G os m) (a i tt : Int) (ha : -1000000000 ≤ a) (ha2 : a ≤ 1000000000) (hi : -1000000000 ≤ i) (hi2 : i ≤ 1000000000) (ht : -1000000000 ≤ tt) (ht2 : tt ≤ 1000000000) :
    Calls Try.prog 29 #[.pointer (some ⟨b, 0, none⟩), .int .i64 a, .int .i64 i, .int .i64 tt] w (TwoP (SetC os a i tt) (setL os a i tt) b m G w) := by
  by_cases hc : SetC os a i tt
  · obtain ⟨h0, h1, h2⟩ := hc
    cases hl : loc os a with
    | none => exact absurd h1 (by rw [p_none hl]; omega)
    | some k => 
      refine (set_yes h a i tt ha ha2 hi hi2 ht ht2 k hl h0 h1 h2).mono fun e w' hr => .inr ⟨⟨h0, h1, h2⟩, ?_⟩
      unfold setL; rw [hl]; exact hr
  · refine (set_no h a i tt ha ha2 hi hi2 ht ht2 ?_).mono fun e w' hr => .inl ⟨hc, hr⟩
    by_cases h0 : i < 0
    · exact .inl h0
    · by_cases h1 : ((hdo os a).p : Int) ≤ i
      · exact .inr (.inl h1)
      · refine .inr (.inr ?_)
        cases h2 : (ob os tt).isSome with
        | false => rfl
        | true => exact absurd ⟨by omega, by omega, h2⟩ hc
theorem rset_p {w : World} {x : Nat} {C : Nat → Nat} {qs : List Nat} {os : List Ob} {m : Nat} (h : Rh w x C qs os m) (a i tt : Int) :
    Calls Try.prog 60 #[.pointer (some ⟨x, 0, none⟩), .int .i64 a, .int .i64 i, .int .i64 tt] w (TwoR (SetC os a i tt) (setL os a i tt) x m C w) := by
  by_cases hc : SetC os a i tt
  · obtain ⟨h0, h1, h2⟩ := hc
    cases hl : loc os a with
    | none => exact absurd h1 (by rw [p_none hl]; omega)
    | some k => 
      refine (rset_yes h a i tt k hl h0 h1 h2).mono fun e w' hr => .inr ⟨⟨h0, h1, h2⟩, ?_⟩
      unfold setL; rw [hl]; exact hr
  · refine (rset_no h a i tt ?_).mono fun e w' hr => .inl ⟨hc, hr⟩
    by_cases h0 : i < 0
    · exact .inl h0
    · by_cases h1 : ((hdo os a).p : Int) ≤ i
      · exact .inr (.inl h1)
      · refine .inr (.inr ?_)
        cases h2 : (ob os tt).isSome with
        | false => rfl
        | true => exact absurd ⟨by omega, by omega, h2⟩ hc
theorem over_p {w : World} {b : Nat} {G : Option Nat} {os : List Ob} {m : Nat} (h : HpO w b G os m) (a tt : Int) (ha : -1000000000 ≤ a) (ha2 : a ≤ 1000000000) (ht : -1000000000 ≤ tt) (ht2 : tt ≤ 1000000000) :
    Calls Try.prog 61 #[.pointer (some ⟨b, 0, none⟩), .int .i64 a, .int .i64 tt] w (TwoP (OverC os a tt) (overL os a tt) b m G w) := by
  by_cases hc : OverC os a tt
  · obtain ⟨h0, h1, h2⟩ := hc
    cases hl : loc os a with
    | none => rw [ob_none.2 hl] at h1; cases h1
    | some k => 
      refine (over_yes h a tt ha ha2 ht ht2 k hl h0 h2).mono fun e w' hr => .inr ⟨⟨h0, h1, h2⟩, ?_⟩
      unfold overL; rw [hl]; exact hr
  · refine (over_no h a tt ha ha2 ht ht2 ?_).mono fun e w' hr => .inl ⟨hc, hr⟩
    by_cases h0 : a = tt
    · exact .inl h0
    · cases h1 : (ob os a).isSome with
      | false => exact .inr (.inl rfl)
      | true =>
        cases h2 : (ob os tt).isSome with
        | false => exact .inr (.inr rfl)
        | true => exact absurd ⟨h0, h1, h2⟩ hc
theorem rover_p {w : World} {x : Nat} {C : Nat → Nat} {qs : List Nat} {os : List Ob} {m : Nat} (h : Rh w x C qs os m) (a tt : Int) :
    Calls Try.prog 62 #[.pointer (some ⟨x, 0, none⟩), .int .i64 a, .int .i64 tt] w (TwoR (OverC os a tt) (overL os a tt) x m C w) := by
  by_cases hc : OverC os a tt
  · obtain ⟨h0, h1, h2⟩ := hc
    cases hl : loc os a with
    | none => rw [ob_none.2 hl] at h1; cases h1
    | some k => 
      refine (rover_yes h a tt k hl h0 h2).mono fun e w' hr => .inr ⟨⟨h0, h1, h2⟩, ?_⟩
      unfold overL; rw [hl]; exact hr
  · refine (rover_no h a tt ?_).mono fun e w' hr => .inl ⟨hc, hr⟩
    by_cases h0 : a = tt
    · exact .inl h0
    · cases h1 : (ob os a).isSome with
      | false => exact .inr (.inl rfl)
      | true =>
        cases h2 : (ob os tt).isSome with
        | false => exact .inr (.inr rfl)
        | true => exact absurd ⟨h0, h1, h2⟩ hc
end Go.Proofs.Ytkekekdkfjjifaa
namespace Go.Proofs.Ytkekekdkfjjifaa
open Go Go.RowKit
set_option linter.unusedVariables false
set_option linter.unusedSimpArgs false
theorem adrs_bd {os : List Ob} (h : total os ≤ 1000000) : ∀ a ∈ adrs os, 0 ≤ a ∧ a ≤ 1000000 := by
  intro a ha
  obtain ⟨i, hi, rfl⟩ := List.mem_map.1 ha
  have hi' : i < os.length := List.mem_range.1 hi
  have := adr_le hi'
  omega
def SmInv (w : World) (n : Nat) (iv : Value) (wr : World) : Prop := ∃ j : Nat, j ≤ n ∧ iv = .int .i64 (j : Int) ∧ Below w.heap.size w wr
set_option maxHeartbeats 16000000 in
set_option maxRecDepth 100000 in
theorem same_r {B w : World} {b x : Nat} {G : Option Nat} {C : Nat → Nat} {qs : List Nat} {os : List Ob} {m : Nat} (h : Pr B w b x G C qs os m) : Calls Try.prog 19 #[.pointer (some ⟨b, 0, none⟩), .pointer (some ⟨x, 0, none⟩)] w (RetV (.bool true) w) := by
  have HH := Lib.hid h
  have htm : total os ≤ 1000000 := by have := h.hl.hp.2.2.2; omega
  have hol := total_len os
  have F23 : Hid (∀ W, Below w.heap.size w W → Calls Try.prog 20 #[.pointer (some ⟨b, 0, none⟩)] W fun e w' => e = .returned (.int .i64 (total os : Nat)) ∧ W = w') := fun W hb => by
    have := used_any (h.below hb).hl.hp.1
    rw [wds_length] at this
    exact this
  have F35 := Lib.hid (fun W (hb : Below w.heap.size w W) => rused_r (h.below hb).rh)
  have F26 := Lib.hid (fun W (hb : Below w.heap.size w W) => words_any (h.below hb).hl.hp.1)
  have F36 := Lib.hid (fun W (hb : Below w.heap.size w W) => rwords_r (h.below hb).rh)
  have F25 := Lib.hid (fun W (hb : Below w.heap.size w W) => objects_o (h.below hb).hl.hp)
  have F37 := Lib.hid (fun W (hb : Below w.heap.size w W) => robjects_r (h.below hb).rh)
  have F18 := Lib.hid (fun W (hb : Below w.heap.size w W) (a : Int) (h1 : -9223372036854775808 ≤ a) (h2 : a ≤ 9223372036854775807) => tagm_any (h.below hb).hl.hp a h1 h2)
  have F19 := Lib.hid (fun W (hb : Below w.heap.size w W) (a : Int) => rtag_r (h.below hb).rh a)
  have F27 := Lib.hid (fun W (hb : Below w.heap.size w W) (a : Int) (h1 : -1000000000 ≤ a) (h2 : a ≤ 1000000000) => ptrs_o (h.below hb).hl.hp a h1 h2)
  have F38 := Lib.hid (fun W (hb : Below w.heap.size w W) (a : Int) => rptrs_r (h.below hb).rh a)
  have F28 := Lib.hid (fun W (hb : Below w.heap.size w W) (a : Int) (h1 : -1000000000 ≤ a) (h2 : a ≤ 1000000000) => nums_o (h.below hb).hl.hp a h1 h2)
  have F39 := Lib.hid (fun W (hb : Below w.heap.size w W) (a : Int) => rnums_r (h.below hb).rh a)
  have F20 := Lib.hid (fun W (hb : Below w.heap.size w W) (a : Int) (h1 : -9223372036854775808 ≤ a) (h2 : a ≤ 9223372036854775807) => follow_o (h.below hb).hl.hp a h1 h2)
  have F21 := Lib.hid (fun W (hb : Below w.heap.size w W) (a : Int) => rfollow_r (h.below hb).rh a)
  have HPL : Hid (∀ a, (ptrsOf os a).length ≤ 255 ∧ (numsOf os a).length ≤ 255) := fun a => by
    have h1 := hdo_low h.hl.hp.2.1 a
    rw [ptrsOf_len h.hl.hp.2.1, numsOf_len h.hl.hp.2.1]
    exact ⟨h1.2.1, h1.2.2.1⟩
  have HAB := Lib.hid (adrs_bd htm)
  have hal : (adrs os).length ≤ 1000000 := by rw [adrs_len]; omega
  clear h
  obtain ⟨U, hU⟩ : ∃ U, U = total os := ⟨_, rfl⟩
  rw [← hU] at F23 F35 htm hol
  clear hU
  generalize adrs os = ads at F25 F37 HAB hal
  obtain ⟨L, hL⟩ : ∃ L, L = ads.length := ⟨_, rfl⟩
  have HLL := Lib.hid hL
  clear hL hol
  go_enter Try.func19, Try.ntmps19
  go_wp2_with fail
  refine (F23.out w (Below.refl _ _)).mono ?_
  rintro e w1 ⟨rfl, rfl⟩
  go_wp2_with fail
  refine (F35.out w (Below.refl _ _)).mono ?_
  rintro e w1 ⟨rfl, rfl⟩
  go_wp2_with fail
  refine (F26.out w (Below.refl _ _)).mono ?_
  rintro e w1 ⟨rfl, rfl⟩
  go_wp2_with fail
  refine (F36.out w (Below.refl _ _)).mono ?_
  rintro e w1 ⟨rfl, rfl⟩
  go_wp2_with fail
  refine (F25.out w (Below.refl _ _)).mono ?_
  rintro e w1 hr
  obtain ⟨ao1, c1, rfl, ho1, hb1⟩ := hr.form
  have HB1 := Lib.hid hb1
  have R1 := Lib.hid (own_isS ho1)
  rw [← HLL.out] at R1 ⊢
  clear hr ho1 hb1
  go_wp2_with fail
  refine (F37.out w1 HB1.out).mono ?_
  rintro e w2 hr
  obtain ⟨ao2, c2, rfl, ho2, hb2⟩ := hr.form
  have HB2 := Lib.hid (HB1.out.trans (hb2.mono HB1.out.size))
  have R2 := Lib.hid (own_isS ho2)
  have F24 := Lib.hid (ints_eq (R1.out.below hb2) R2.out hal)
  rw [← HLL.out] at F24 ⊢
  clear hr ho2 hb2 HB1 R1 R2
  go_wp2_with fail
  refine F24.out.mono ?_
  rintro e w3 ⟨rfl, hb3⟩
  have HB3 := Lib.hid (HB2.out.trans (hb3.mono HB2.out.size))
  clear hb3 F24 HB2
  go_wp2_with fail
  refine (F37.out w3 HB3.out).mono ?_
  rintro e w4 hr
  obtain ⟨ao4, c4, rfl, ho4, hb4⟩ := hr.form
  have HB4 := Lib.hid (HB3.out.trans (hb4.mono HB3.out.size))
  have HO4 := Lib.hid (own_less ho4 HB3.out.size)
  rw [← HLL.out] at HO4 ⊢
  clear hr ho4 hb4 HB3
  have HO5 := Lib.hid (HO4.out.alloc (.cells #[.int .i64 (-1), .int .i64 1, .int .i64 (U : Nat)] 3))
  have HB5 := Lib.hid (HB4.out.alloc HB4.out.size (.cells #[.int .i64 (-1), .int .i64 1, .int .i64 (U : Nat)] 3))
  have HSR : Hid (SrcA (w4.alloc (.cells #[.int .i64 (-1), .int .i64 1, .int .i64 (U : Nat)] 3)) 1 (.slice (some ⟨w4.heap.size, 0, none⟩) 3 3) 3 ([-1, 1, (U : Int)].map (Value.int .i64))) := isS_srcA (block_isS (l := [-1, 1, (U : Int)]) (alloc_at w4 _))
  have hL9 : L + 3 ≤ 1000000000 := by have := HLL.out; omega
  have HBD : Hid (∀ y ∈ ads ++ [-1, 1, (U : Int)], -1 ≤ y ∧ y ≤ 1000000) := fun y hy => by
    rcases List.mem_append.1 hy with h | h
    · have := HAB.out y h; omega
    · simp at h; omega
  go_wp2_with fail
  refine (F35.out w4 HB4.out).mono ?_
  rintro e w5 ⟨rfl, rfl⟩
  clear HO4
  go_wp2_with (refine wpList_wantedR (by rfl) fun K hK => ?_; refine wp_appI (Operand.tmp 29) (Operand.tmp 32) rfl w.heap.size (.slice ao4 L c4) L _ rfl HO5.out (.slice (some ⟨w4.heap.size, 0, none⟩) 3 3) rfl 3 _ HSR.out hL9 HB5.out.size ?_; intro v9 w9 hown9 hg9 hv9; rw [← List.map_append] at hown9; obtain ⟨a9, c9, hvf⟩ := own_sform hown9; subst hvf; have HB9 := Lib.hid (below_grown HB5.out HO5.out hg9); have HO9 := Lib.hid (own_isS hown9); clear hown9 hg9 hv9 HO5 HSR; refine hK _ _ ?_; clear hK K)
  have hn9 : (ads ++ [-1, 1, (U : Int)]).length = L + 3 := by rw [List.length_append, ← HLL.out]; rfl
  have HN9 := Lib.hid hn9
  generalize ads ++ [-1, 1, (U : Int)] = ll at HO9 HBD hn9 HN9
  obtain ⟨n, hn⟩ : ∃ n, n = L + 3 := ⟨_, rfl⟩
  have HN := Lib.hid hn
  rw [← hn] at hL9 hn9 HN9 ⊢
  have H0 : Hid (SmInv w9 n (.int .i64 0) w9) := ⟨0, Nat.zero_le _, rfl, Below.refl _ _⟩
  clear hn9 hn HLL HAB
  go_loopw [6] (fun iv wr => SmInv w9 n iv wr) (fun iv _ => n - (intOf iv).toNat)
  case atStart => exact H0.out
  case round =>
    clear H0
    obtain ⟨j, hj, rfl, hbel⟩ := hrel
    have HB := Lib.hid (HB9.out.trans (hbel.mono HB9.out.size))
    have HBL := Lib.hid hbel
    by_cases hjn : j < n
    · have q1 : decide ((j : Int) < (n : Int)) = true := decide_eq_true (by omega)
      have hjl : j < ll.length := by rw [HN9.out]; exact hjn
      obtain ⟨ao', cap', e1, _, hrr⟩ := HO9.out.below hbel
      injection e1 with e1 e2 e3
      rcases hrr with ⟨_, e⟩ | ⟨g, o, e4, hc⟩
      · rw [e] at hjl; simp at hjl
      · rw [← e1] at e4
        subst e4
        have c0 := hc j hjl
        have hyb := HBD.out _ (List.getElem_mem hjl)
        generalize ll[j] = a at c0 hyb
        obtain ⟨hpl, hnl⟩ := HPL.out a
        clear e1 e2 e3 hc hjl hbel
        go_wp2_with fail
        refine (F18.out wr HB.out a (by omega) (by omega)).mono ?_
        rintro e w1 ⟨rfl, hb1⟩
        have B1 := Lib.hid (HB.out.trans (hb1.mono HB.out.size))
        have K1 := Lib.hid (HBL.out.trans (hb1.mono HBL.out.size))
        clear hb1
        go_wp2_with fail
        refine (F19.out w1 B1.out a).mono ?_
        rintro e w2 ⟨rfl, hb2⟩
        have B2 := Lib.hid (B1.out.trans (hb2.mono B1.out.size))
        have K2 := Lib.hid (K1.out.trans (hb2.mono K1.out.size))
        clear hb2 B1 K1
        generalize (hdo os a).t = tg
        go_wp2_with fail
        refine (F27.out w2 B2.out a (by omega) (by omega)).mono ?_
        rintro e w3 hr
        obtain ⟨p1, d1, rfl, o1, hb3⟩ := hr.form
        have B3 := Lib.hid (B2.out.trans (hb3.mono B2.out.size))
        have K3 := Lib.hid (K2.out.trans (hb3.mono K2.out.size))
        have I1 := Lib.hid (own_isS o1)
        have FP := Lib.hid (F38.out w3 B3.out a)
        generalize ptrsOf os a = ps at hpl I1 FP
        clear hr o1 hb3 B2 K2
        go_wp2_with fail
        refine FP.out.mono ?_
        rintro e w4 hr
        obtain ⟨p2, d2, rfl, o2, hb4⟩ := hr.form
        have B4 := Lib.hid (B3.out.trans (hb4.mono B3.out.size))
        have K4 := Lib.hid (K3.out.trans (hb4.mono K3.out.size))
        have F24 := Lib.hid (ints_eq (I1.out.below hb4) (own_isS o2) (by omega))
        clear hr o2 hb4 B3 K3 I1 FP
        go_wp2_with fail
        refine F24.out.mono ?_
        rintro e w5 ⟨rfl, hb5⟩
        have B5 := Lib.hid (B4.out.trans (hb5.mono B4.out.size))
        have K5 := Lib.hid (K4.out.trans (hb5.mono K4.out.size))
        clear hb5 F24 B4 K4
        go_wp2_with fail
        refine (F28.out w5 B5.out a (by omega) (by omega)).mono ?_
        rintro e w6 hr
        obtain ⟨p3, d3, rfl, o3, hb6⟩ := hr.form
        have B6 := Lib.hid (B5.out.trans (hb6.mono B5.out.size))
        have K6 := Lib.hid (K5.out.trans (hb6.mono K5.out.size))
        have I3 := Lib.hid (own_isS o3)
        have FP := Lib.hid (F39.out w6 B6.out a)
        generalize numsOf os a = ns at hnl I3 FP
        clear hr o3 hb6 B5 K5
        go_wp2_with fail
        refine FP.out.mono ?_
        rintro e w7 hr
        obtain ⟨p4, d4, rfl, o4, hb7⟩ := hr.form
        have B7 := Lib.hid (B6.out.trans (hb7.mono B6.out.size))
        have K7 := Lib.hid (K6.out.trans (hb7.mono K6.out.size))
        have F24 := Lib.hid (ints_eq (I3.out.below hb7) (own_isS o4) (by omega))
        clear hr o4 hb7 B6 K6 I3 FP
        go_wp2_with fail
        refine F24.out.mono ?_
        rintro e w8 ⟨rfl, hb8⟩
        have B8 := Lib.hid (B7.out.trans (hb8.mono B7.out.size))
        have K8 := Lib.hid (K7.out.trans (hb8.mono K7.out.size))
        clear hb8 F24 B7 K7
        go_wp2_with fail
        refine (F20.out w8 B8.out a (by omega) (by omega)).mono ?_
        rintro e u1 ⟨rfl, hb1⟩
        have B9 := Lib.hid (B8.out.trans (hb1.mono B8.out.size))
        have K9 := Lib.hid (K8.out.trans (hb1.mono K8.out.size))
        clear hb1 B8 K8
        go_wp2_with fail
        refine (F21.out u1 B9.out a).mono ?_
        rintro e u2 ⟨rfl, hb2⟩
        have KE := Lib.hid (K9.out.trans (hb2.mono K9.out.size))
        clear hb2 B9 K9
        generalize folOf os a = fv
        go_wp2_with fail
        go_roundw
        case rel => exact ⟨j + 1, by omega, by go_num, KE.out⟩
        case measure => simp [intOf]; omega
    · obtain rfl : j = n := by omega
      have q1 : decide ((j : Int) < (j : Int)) = false := decide_eq_false (by omega)
      clear hbel
      go_wp2_with fail
      go_ret
      exact ⟨rfl, HB.out⟩
end Go.Proofs.Ytkekekdkfjjifaa
namespace Go.Proofs.Ytkekekdkfjjifaa
open Go Go.RowKit
set_option linter.unusedVariables false
set_option linter.unusedSimpArgs false
theorem new_r (n : Int) (w : World) : Calls Try.prog 30 #[.int .i64 n] w
    fun e w' => e = .returned (.pointer (some ⟨w.heap.size, 0, none⟩)) ∧ w' = w.alloc (.cells #[.int .i64 n, .int .i64 0, .slice none 0 0] 67) := by
  go_enter Try.func30, Try.ntmps30
  go_wp2
  go_ret
  exact ⟨rfl, rfl⟩
theorem Pr.new {B w w1 w2 : World} (hb : Below B.heap.size B w) (m : Nat) (hm : m ≤ 1000000) (h1 : w1 = w.alloc (.cells #[.slice none 0 0, .int .i64 m] 75)) (h2 : w2 = w1.alloc (.cells #[.int .i64 m, .int .i64 0, .slice none 0 0] 67)) :
    ∃ C, Pr B w2 w.heap.size w1.heap.size none C [] [] m ∧ (∀ k, fp w.heap.size none C k → w.heap.size ≤ k) ∧ Below w.heap.size w w2 := by
  have s1 : w1.heap.size = w.heap.size + 1 := by rw [h1]; exact Array.size_push _
  have s2 : w2.heap.size = w1.heap.size + 1 := by rw [h2]; exact Array.size_push _
  have b1 : Below w.heap.size w w1 := by rw [h1]; exact (Below.refl _ _).alloc (Nat.le_refl _) _
  have b2 : Below w1.heap.size w1 w2 := by rw [h2]; exact (Below.refl _ _).alloc (Nat.le_refl _) _
  have hl : HL B w1 w.heap.size none [] m := by rw [h1]; exact HL.new hb m hm
  have hs := hb.size
  refine ⟨fun k => if k = w1.heap.size then 1 else 0, ⟨hl.below b2, ⟨?_, ?_, rfl, ?_, ?_, ?_, hm, Nat.zero_le _, ?_⟩, ?_, ?_, ?_⟩, ?_, ?_⟩
  · exact ⟨.slice none 0 0, by rw [h2]; exact alloc_at _ _, World.ownsRow_nil _ _ _ _, fun k hk => by cases hk⟩
  · simp
  · intro i hi; simp at hi
  · intro o h; simp at h
  · intro o h; simp at h
  · intro k hk
    have : k ≠ w1.heap.size := by omega
    simp [this]
  · have : w.heap.size ≠ w1.heap.size := by omega
    simp [this]
  · intro k hk; cases hk
  · intro k hk
    have : k = w1.heap.size := by
      apply Classical.byContradiction
      intro e
      simp [e] at hk
    omega
  · rintro k ((rfl | hk) | hk)
    · exact Nat.le_refl _
    · cases hk
    · have : k = w1.heap.size := by
        apply Classical.byContradiction
        intro e
        simp [e] at hk
      omega
  · exact b1.trans (b2.mono (by omega))
end Go.Proofs.Ytkekekdkfjjifaa
