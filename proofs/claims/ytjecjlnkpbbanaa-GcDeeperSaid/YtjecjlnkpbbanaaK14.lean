/- Collect. -/
import Derived.Test.YtjecjlnkpbbanaaK13
namespace Go.Proofs.Ytjecjlnkpbbanaa
open Go Go.RowKit
set_option linter.unusedVariables false
set_option linter.unusedSimpArgs false
def okR (os : List Ob) (rs : List Int) : Bool := rs.all fun r => (ob os r).isSome
theorem tag_zero {os : List Ob} (hk : Oks os) (a : Int) : (((hdo os a).t : Int) == 0) = !(ob os a).isSome := by
  unfold hdo
  cases h : ob os a with
  | none => rfl
  | some o =>
    have := (hk o (ob_mem h)).t1
    have : ¬ (o.tag : Int) = 0 := by omega
    show ((o.tag : Int) == 0) = false
    simpa using this
def ArI (os : List Ob) (rs : List Int) (w : World) (iv : Value) (wr : World) : Prop := ∃ j : Nat, j ≤ rs.length ∧ iv = .int .i64 (j : Int) ∧ okR os (rs.take j) = true ∧ Below w.heap.size w wr
set_option maxHeartbeats 16000000 in
set_option maxRecDepth 100000 in
theorem are_any {w : World} {b : Nat} {G : Option Nat} {os : List Ob} {m : Nat} (h : HpO w b G os m) (rv : Value) (rs : List Int) (hr : IsS w rv rs) (hl : rs.length ≤ 1000000) (hb : ∀ r ∈ rs, I64 r) : Calls Try.prog 33 #[.pointer (some ⟨b, 0, none⟩), rv] w (RetV (.bool (okR os rs)) w) := by
  have HH := Lib.hid h
  have HR := Lib.hid hr
  have HB := Lib.hid hb
  have H0 : Hid (ArI os rs w (.int .i64 0) w) := ⟨0, Nat.zero_le _, rfl, rfl, Below.refl _ _⟩
  obtain ⟨rao, rcap, rfl, hcap, hrr⟩ := hr
  obtain ⟨n, hn⟩ : ∃ n, n = rs.length := ⟨_, rfl⟩
  rw [← hn] at hl hcap HR ⊢
  have HN := Lib.hid hn
  clear h hb hn hrr
  go_enter Try.func33, Try.ntmps33
  go_wp2_with fail
  go_loopw [9] (fun iv wr => ArI os rs w iv wr) (fun iv _ => n - (intOf iv).toNat)
  case atStart => exact H0.out
  case round =>
    clear H0
    obtain ⟨j, hj, rfl, hok, hbel⟩ := hrel
    have HOK := Lib.hid hok
    have HBL := Lib.hid hbel
    rw [← HN.out] at hj
    clear hok hbel
    by_cases hjn : j < n
    · have q1 : decide ((j : Int) < (n : Int)) = true := decide_eq_true (by omega)
      have hjl : j < rs.length := by rw [← HN.out]; exact hjn
      obtain ⟨ao', cap', e1, _, hr⟩ := HR.out.below HBL.out
      injection e1 with e1 e2 e3
      rcases hr with ⟨_, e⟩ | ⟨gl, ol, e4, hcl⟩
      · rw [e] at hjl; simp at hjl
      · rw [← e1] at e4
        subst e4
        have cl := hcl j hjl
        obtain ⟨a, ha⟩ : ∃ a, a = rs[j] := ⟨_, rfl⟩
        rw [← ha] at cl
        have hai := HB.out rs[j] (List.getElem_mem _)
        rw [← ha] at hai
        have F22 := Lib.hid (tagm_any (HH.out.below HBL.out) a hai.1 hai.2)
        have HT := Lib.hid (tag_zero HH.out.2.1 a)
        have HTK : Hid (rs.take (j + 1) = rs.take j ++ [a]) := by show _ = _; rw [List.take_succ_eq_append_getElem hjl, ha]
        clear hcl e1 e2 e3 hai
        cases ho : (ob os a).isSome with
        | false =>
          have q0 : (((hdo os a).t : Int) == 0) = true := by rw [HT.out, ho]; rfl
          have HF : Hid (okR os rs = false) := by
            show _ = _
            unfold okR
            rw [List.all_eq_false]
            exact ⟨rs[j], List.getElem_mem _, by rw [← ha, ho]; decide⟩
          clear ha HT
          go_wp2_with fail
          refine F22.out.mono ?_
          rintro e w2 ⟨rfl, hb2⟩
          have HB2 := Lib.hid (HBL.out.trans (hb2.mono HBL.out.size))
          clear hb2
          go_wp2_with fail
          go_ret
          exact ⟨by rw [HF.out]; rfl, HB2.out⟩
        | true =>
          have q0 : (((hdo os a).t : Int) == 0) = false := by rw [HT.out, ho]; rfl
          have HO9 : Hid (okR os (rs.take (j + 1)) = true) := by
            show _ = _
            have := HOK.out
            rw [HTK.out]; unfold okR at this ⊢; rw [List.all_append, this]; simp [ho]
          clear ha HT
          go_wp2_with fail
          refine F22.out.mono ?_
          rintro e w2 ⟨rfl, hb2⟩
          have HREL : Hid (ArI os rs w (.int .i64 ((j : Int) + 1)) w2) := ⟨j + 1, hjl, by go_num, HO9.out, HBL.out.trans (hb2.mono HBL.out.size)⟩
          clear hb2
          go_wp2_with fail
          go_roundw
          case rel => exact HREL.out
          case measure => simp [intOf]; omega
    · have hjn2 : j = n := by omega
      subst hjn2
      have q1 : decide ((j : Int) < (j : Int)) = false := decide_eq_false (by omega)
      have HF : Hid (okR os rs = true) := by have := HOK.out; rw [HN.out, List.take_length] at this; exact this
      clear HR
      go_wp2_with fail
      go_ret
      exact ⟨by rw [HF.out]; rfl, HBL.out⟩
/-- The copier, at the start. -/
theorem New.cop {w w' : World} {b : Nat} {G : Option Nat} {os : List Ob} {m dp c eb pb b2 kb : Nat} (h : HpO w b G os m) (n : New b m (total os) dp w c eb pb b2 kb w') :
    ∃ C, Cop w.heap.size w' C c b G os m dp eb pb (List.replicate (total os) none) b2 none kb (.slice none 0 0) [] [] ∧ ∀ k, k < w.heap.size → (k ≠ b ∧ G ≠ some k) → C k = 0 := by
  obtain ⟨cell, e, p, k, hh, bel, ⟨l1, l2, l3, l4, l5⟩, ⟨n1, n2, n3, n4, n5⟩⟩ := n
  have hb := h.1.lt
  have hG := h.1.glt
  have hcl : c < w'.heap.size := (Array.getElem?_eq_some_iff.1 cell).1
  refine ⟨fun k => if k = c then 1 else if k = b ∨ G = some k then 6 else if k = eb then 2 else if k = pb then 3 else if k = b2 then 5 else if k = kb then 7 else 0, ⟨⟨⟨h.below bel, ?_, ?_, ?_, ?_, ?_, ?_, ?_, by simp, p, ?_, ?_, ?_, ?_, ?_⟩, _, e, by simp, ?_⟩, cell, hh, .nil, by simp, by simp, ⟨_, k, by simp, ?_⟩, World.ownsRow_nil _ _ _ _, ?_, (fun k hk => nomatch hk), ?_, (fun k hk => nomatch hk), ?_⟩, ?_⟩
  · show (if b = c then 1 else _) = 6
    rw [if_neg (by omega), if_pos (.inl rfl)]
  · intro k hk
    have := (hG k hk).1
    show (if k = c then 1 else _) = 6
    rw [if_neg (by omega), if_pos (.inr hk)]
  · show (if c = c then 1 else _) = 1
    rw [if_pos rfl]
  · show (if eb = c then 1 else _) = 2
    rw [if_neg (by omega), if_neg (by rintro (e | e); omega; have := (hG _ e).1; omega), if_pos rfl]
  · show (if pb = c then 1 else _) = 3
    rw [if_neg (by omega), if_neg (by rintro (e | e); omega; have := (hG _ e).1; omega), if_neg (by omega), if_pos rfl]
  · intro i q hq; rw [List.getElem?_replicate] at hq; split at hq <;> simp at hq
  · intro i j q hq; rw [List.getElem?_replicate] at hq; split at hq <;> simp at hq
  · intro i q hq; rw [List.getElem?_replicate] at hq; split at hq <;> simp at hq
  · rw [cell_of_row _ _ _ _ _ _ cell]; rfl
  · rw [cell_of_row _ _ _ _ _ _ cell]; rfl
  · rw [cell_of_row _ _ _ _ _ _ cell]; rfl
  · intro k hk
    have h1 := e.lt
    have h2 := p.lt
    have h3 := bel.size
    show (if k = c then 1 else _) = 0
    rw [if_neg (by omega), if_neg (by rintro (e | e); omega; have := (hG _ e).1; omega), if_neg (by omega), if_neg (by omega), if_neg (by omega), if_neg (by omega)]
  · intro i v hv _
    rw [List.getElem?_replicate] at hv
    split at hv
    · injection hv with hv; exact .inl hv.symm
    · cases hv
  · intro i v hv _
    rw [List.getElem?_replicate] at hv
    split at hv
    · injection hv with hv; rw [if_neg (by simp)]; exact hv.symm
    · cases hv
  · show (if b2 = c then 1 else _) = 5
    rw [if_neg (by omega), if_neg (by rintro (e | e); omega; have := (hG _ e).1; omega), if_neg (by omega), if_neg (by omega), if_pos rfl]
  · show (if kb = c then 1 else _) = 7
    rw [if_neg (by omega), if_neg (by rintro (e | e); omega; have := (hG _ e).1; omega), if_neg (by omega), if_neg (by omega), if_neg (by omega), if_pos rfl]
  · intro k hk hk6
    apply Decidable.byContradiction
    intro hn
    by_cases e6 : k = b ∨ G = some k
    · exact hk6 (by show (if k = c then 1 else _) = 6; rw [if_neg (by omega), if_pos e6])
    · exact hk (by show (if k = c then 1 else _) = 0; rw [if_neg (by omega), if_neg e6, if_neg (by omega), if_neg (by omega), if_neg (by omega), if_neg (by omega)])
  · intro k hk hn
    show (if k = c then 1 else _) = 0
    rw [if_neg (by omega), if_neg (by rintro (e | e); exact hn.1 e; exact hn.2 e), if_neg (by omega), if_neg (by omega), if_neg (by omega), if_neg (by omega)]
theorem gcR_poss {os : List Ob} (dp : Nat) (rs : List Int) : poss os dp [] rs = gcR os dp rs := by
  unfold poss gcR allD
  apply List.map_congr_left
  intro r hr
  obtain ⟨E, hE⟩ := lead_ext os dp (vis os dp [] rs) 0 os.length
  rw [Nat.zero_add] at hE
  rw [hE]
  show _ = ((pos os (vis os dp [] rs ++ E) (shortO os dp r) : Nat) : Int)
  rw [pos_app _ ((vis_mem os dp rs [] _).2 (.inr ⟨r, hr, rfl⟩))]
def RetGc (os : List Ob) (m dp : Nat) (rs : List Int) (w : World) (e : Ending) (w' : World) : Prop :=
  ∃ (b2 g : Nat) (G2 : Option Nat), e = .returned (.tuple #[.pointer (some ⟨b2, 0, none⟩), .slice (some ⟨g, 0, none⟩) rs.length rs.length, .bool true]) ∧ HpO w' b2 G2 (gcO os dp rs) m ∧ IRw w' g (gcR os dp rs) ∧ Below w.heap.size w w' ∧
    w.heap.size ≤ b2 ∧ w.heap.size ≤ g ∧ (∀ k, G2 = some k → w.heap.size ≤ k) ∧ g ≠ b2 ∧ G2 ≠ some g
set_option maxHeartbeats 16000000 in
set_option maxRecDepth 100000 in
theorem collect_yes {w : World} {b : Nat} {G : Option Nat} {os : List Ob} {m : Nat} (h : HpO w b G os m) (dp : Nat) (hdp : dp ≤ 20) (rv : Value) (rs : List Int) (hr : IsS w rv rs) (ha : Apart rv b G) (hl : rs.length ≤ 1000000) (hv : ∀ r ∈ rs, Vd os r) :
    Calls Try.prog 16 #[.pointer (some ⟨b, 0, none⟩), rv, .int .i64 dp] w (RetGc os m dp rs w) := by
  have hm : total os ≤ 1000000 := by have := h.2.2.2.2; have := h.2.2.2.1; omega
  have hok : okR os rs = true := by
    unfold okR
    rw [List.all_eq_true]
    intro r hr
    obtain ⟨q, hq⟩ := hv r hr
    rw [hq]; rfl
  have F33 := Lib.hid (are_any h rv rs hr hl (fun r hr => by have := vd_lt (hv r hr); unfold I64; omega))
  rw [hok] at F33
  have F34 := Lib.hid (fun W (hb : Below w.heap.size w W) => newCopier_any (h.below hb) dp)
  have HH := Lib.hid h
  have HR := Lib.hid hr
  have HA := Lib.hid ha
  have HV := Lib.hid hv
  have q1 : decide ((dp : Int) < 0) = false := decide_eq_false (by omega)
  have q2 : decide ((20 : Int) < (dp : Int)) = false := decide_eq_false (by omega)
  have hsl : ∃ ao c, rv = .slice ao rs.length c := by obtain ⟨ao, c, e, _⟩ := hr; exact ⟨ao, c, e⟩
  obtain ⟨rao, rc, rfl⟩ := hsl
  obtain ⟨n, hn⟩ : ∃ n, n = rs.length := ⟨_, rfl⟩
  rw [← hn] at hl F33 HR HA ⊢
  have HN := Lib.hid hn
  clear h hr ha hv hok hn
  go_enter Try.func16, Try.ntmps16
  go_wp2_with fail
  refine F33.out.mono ?_
  rintro e w1 ⟨rfl, hb1⟩
  have HB1 := Lib.hid hb1
  clear F33 hb1
  go_wp2_with fail
  refine (F34.out w1 HB1.out).mono ?_
  rintro e w2 ⟨c, eb, pb, b2, kb, rfl, hnew⟩
  have hbel2 := hnew.bel
  obtain ⟨C2, hc2, h0⟩ := hnew.cop (HH.out.below HB1.out)
  have HB2 := Lib.hid (HB1.out.trans (hbel2.mono HB1.out.size))
  have HC2 := Lib.hid hc2
  have HRS := Lib.hid (HR.out.below HB2.out)
  have HOT : Hid (Out C2 (.slice rao n rc)) := by
    intro ao k cp g o x1 x2 x3
    obtain ⟨a1, a2⟩ := HA.out ao k cp g o x1 x2 x3
    refine h0 g ?_ ⟨a1, a2⟩
    obtain ⟨ao', cap', e4, _, hrr⟩ := HR.out
    rw [x1] at e4
    injection e4 with e4 e5 e6
    rcases hrr with ⟨_, e7⟩ | ⟨g', o', e7, e8⟩
    · rw [e5, e7] at x2; simp at x2
    · rw [x3, e7] at e4
      injection e4 with e4
      injection e4 with e9 e10
      subst e9
      have h1 := World.block_lt_of_cell? w _ (e8 0 (by omega))
      exact Nat.lt_of_lt_of_le h1 HB1.out.size
  have F35 := Lib.hid (copied_any hc2 hdp (.slice rao n rc) rs HRS.out HOT.out (by rw [← HN.out]; exact hl) HV.out)
  clear F34 hnew hbel2 hc2 h0 HRS HOT
  go_wp2_with fail
  refine F35.out.mono ?_
  rintro e w3 ⟨g, C3, pk3, G3, dv3, E3, rfl, hc3, hs3, hi3, hg3, hg0⟩
  rw [← HN.out]
  rw [List.nil_append] at hc3
  have F36 := Lib.hid (lead_any hc3 hdp)
  have HS3 := Lib.hid hs3
  have HI3 := Lib.hid hi3
  have HG0 := Lib.hid hg0
  have hgl := hi3.lt
  clear F35 hc3 hs3 hi3 hg0
  go_wp2_with fail
  refine F36.out.mono ?_
  rintro e w4 ⟨rfl, C4, pk4, G4, dv4, hc4, hs4⟩
  obtain ⟨-, -, c4, -, -⟩ := hc4.cells
  have HC4 := Lib.hid hc4
  have HS4 := Lib.hid hs4
  clear F36 hc4 hs4
  go_wp2_with fail
  go_ret3
  have hB : Below w.heap.size w w4 := by
    have h1 := HS3.out.trans HS4.out
    have h2 : Below w.heap.size w2 w4 := h1.fr.below (fun x hx e => by
      have := HC2.out.low x e.1 e.2
      have := HB1.out.size
      omega) HB2.out.size
    exact HB2.out.trans h2
  have hs1 := HB1.out.size
  have hs2 := HB2.out.size
  have hs3 := HS3.out.fr.size
  have hx := HC4.out.c2
  have hcg : C4 g = 0 := (HS4.out.col g hgl).trans HG0.out
  refine ⟨b2, g, G4, by rw [← HN.out]; rfl, HC4.out.new, ?_, hB, ?_, ?_, fun k hk => ?_, fun e => ?_, fun e => ?_⟩
  · have := HI3.out.fr' HS4.out.fr (fun e => e.1 HG0.out)
    rw [gcR_poss] at this; exact this
  · have := HC4.out.low b2 (by rw [hx]; decide) (by rw [hx]; decide); omega
  · omega
  · have h9 := HC4.out.cg2 k hk
    have := HC4.out.low k (by rw [h9]; decide) (by rw [h9]; decide); omega
  · rw [e, hx] at hcg; cases hcg
  · rw [HC4.out.cg2 g e] at hcg; cases hcg
end Go.Proofs.Ytjecjlnkpbbanaa
