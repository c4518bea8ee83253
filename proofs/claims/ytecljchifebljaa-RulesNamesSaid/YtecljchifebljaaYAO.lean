/- Rules: matching, patterns with dots too, as mathematics. -/
import Derived.Test.YtecljchifebljaaYAN
import Derived.Test.YtecljchifebljaaYAB
import Derived.Laws.Strings
set_option linter.unusedVariables false
set_option linter.unusedSimpArgs false
namespace Go.Proofs.Ytecljchifebljaa
open Go Go.RowKit
def Dt.dl9 : Dt → List Dt | .mk _ _ _ l _ => l
/-- Parts matched one by one. -/
def mE (f : Dt → Dt → Option (List Bd)) : List Dt → List Dt → Option (List Bd)
 | [], [] => some []
 | p :: ps, d :: ds => match f p d with
  | none => none
  | some r => match mE f ps ds with
   | none => none
   | some r2 => some (r ++ r2)
 | _, _ => none
/-- All of a row matched with one. -/
def allR (f : Dt → Option (List Bd)) : List Dt → Option (List (List Bd))
 | [] => some []
 | d :: r => match f d with
  | none => none
  | some x => match allR f r with
   | none => none
   | some y => some (x :: y)
def bZ : Bd := .mk dZ 0 dZ []
/-- The variables, each bound to the row of what it was bound to. -/
def mkRows (ns : List (Dt × Int)) (all : List (List Bd)) : List Bd := (List.range ns.length).map fun i => .mk ((ns[i]?).getD (dZ, 0)).1 ((ns[i]?).getD (dZ, 0)).2 dZ (all.map fun b => (b[i]?).getD bZ)
/-- A list's parts; those between what stands ahead of the part with dots and what stands behind the dots are that one's. -/
def mL (ls : List ByteArray) (f : Dt → Dt → Option (List Bd)) (l ds : List Dt) : Option (List Bd) :=
 if ixD l < 1 then mE f l ds
 else if ds.length < ((ixD l).toNat - 1) + (l.length - ((ixD l).toNat + 1)) then none
 else match mE f (l.take ((ixD l).toNat - 1)) (ds.take ((ixD l).toNat - 1)) with
  | none => none
  | some r1 => match allR (f ((l[(ixD l).toNat - 1]?).getD dZ)) ((ds.take (ds.length - (l.length - ((ixD l).toNat + 1)))).drop ((ixD l).toNat - 1)) with
   | none => none
   | some all => match mE f (l.drop ((ixD l).toNat + 1)) (ds.drop (ds.length - (l.length - ((ixD l).toNat + 1)))) with
    | none => none
    | some r3 => some (r1 ++ mkRows (((l[(ixD l).toNat - 1]?).getD dZ).vars (isVar ls) 1) all ++ r3)
/-- What a pattern's variables are bound to, in their order; none: it does not match. -/
def mRf (ls : List ByteArray) : Nat → Dt → Dt → Option (List Bd)
 | 0, _, _ => none
 | n + 1, p, d => if roleOf ls p = 2 then (if d.isS p.text = true then some [] else none) else if roleOf ls p = 3 then some [] else if roleOf ls p = 4 then some [.mk p 0 d []]
  else if p.kind ≠ d.kind then none else if p.kind = 1 ∨ p.kind = 2 then (if (p.text.toList == d.text.toList) = true then some [] else none) else if p.kind = 4 then mL ls (mRf ls n) p.dl9 d.dl9 else none
theorem mE_len (f : Dt → Dt → Option (List Bd)) : ∀ (ps ds : List Dt), ps.length ≠ ds.length → mE f ps ds = none
 | [], [], h => absurd rfl h
 | p :: ps, d :: ds, h => by
  rw [mE, mE_len f ps ds (fun e => h (by simp [e]))]
  cases f p d <;> rfl
 | [], d :: ds, _ => by unfold mE; rfl
 | p :: ps, [], _ => by unfold mE; rfl
theorem mE_cons (f : Dt → Dt → Option (List Bd)) (p d : Dt) (ps ds : List Dt) : mE f (p :: ps) (d :: ds) = match f p d with
  | none => none
  | some r => match mE f ps ds with
   | none => none
   | some r2 => some (r ++ r2) := by rw [mE]
theorem allR_length (f : Dt → Option (List Bd)) : ∀ (ds : List Dt) (all : List (List Bd)), allR f ds = some all → all.length = ds.length
 | [], all, h => by rw [allR] at h; injection h with h; subst h; rfl
 | d :: r, all, h => by
  rw [allR] at h
  cases h1 : f d with
  | none => rw [h1] at h; cases h
  | some x =>
   rw [h1] at h
   cases h2 : allR f r with
   | none => rw [h2] at h; cases h
   | some y =>
    rw [h2] at h; injection h with h; subst h
    simp [allR_length f r y h2]
theorem allR_snoc (f : Dt → Option (List Bd)) : ∀ (a : List Dt) (d : Dt), allR f (a ++ [d]) = match allR f a with
  | none => none
  | some y => match f d with
   | none => none
   | some x => some (y ++ [x])
 | [], d => by simp only [List.nil_append, allR]
 | e :: a, d => by
  rw [List.cons_append, allR, allR, allR_snoc f a d]
  cases f e with
  | none => rfl
  | some x =>
   cases allR f a with
   | none => rfl
   | some y => cases f d <;> rfl
theorem allR_none (f : Dt → Option (List Bd)) : ∀ (a b : List Dt), allR f a = none → allR f (a ++ b) = none
 | [], b, h => by rw [allR] at h; cases h
 | e :: a, b, h => by
  rw [List.cons_append, allR]
  rw [allR] at h
  cases h1 : f e with
  | none => rfl
  | some x =>
   rw [h1] at h
   cases h2 : allR f a with
   | none => rw [allR_none f a b h2]
   | some y => rw [h2] at h; cases h
theorem mkRows_length (ns : List (Dt × Int)) (all : List (List Bd)) : (mkRows ns all).length = ns.length := by unfold mkRows; simp
theorem mkRows_get (ns : List (Dt × Int)) (all : List (List Bd)) (i : Nat) (h : i < ns.length) : (mkRows ns all)[i]'(by rw [mkRows_length]; exact h) = .mk ns[i].1 ns[i].2 dZ (all.map fun b => (b[i]?).getD bZ) := by
 unfold mkRows
 simp [List.getElem?_eq_getElem h]
theorem mkRows_nil (ns : List (Dt × Int)) : mkRows ns [] = ns.map vB := by
 refine List.ext_getElem (by rw [mkRows_length, List.length_map]) fun i h1 h2 => ?_
 rw [mkRows_get ns [] i (by rwa [mkRows_length] at h1), List.getElem_map]; rfl
/-- How many variables. -/
theorem role_var {ls : List ByteArray} {d : Dt} : roleOf ls d = 4 ↔ isVar ls d = true := by
 unfold roleOf isVar
 by_cases hk : d.kind = 3
 ·rw [if_neg (fun h => h hk)]
  simp only [hk, beq_self_eq_true, Bool.true_and, Bool.and_eq_true, Bool.not_eq_true']
  cases d.dots <;> cases inL ls d.text <;> cases (d.text.toList == [95]) <;> simp
 ·rw [if_pos hk]
  simp [hk]
mutual
theorem vars_len_any (V : Dt → Bool) : ∀ (d : Dt) (n m : Int), (d.vars V n).length = (d.vars V m).length
 | .mk k t ms l p, n, m => by
  rw [vars_mk, vars_mk]
  split
  ·rfl
  ·exact varss_len_any V l n m
theorem varss_len_any (V : Dt → Bool) : ∀ (l : List Dt) (n m : Int), (varss V l n).length = (varss V l m).length
 | [], n, m => by rw [varss, varss]
 | d :: r, n, m => by
  rw [varss_cons, varss_cons, List.length_append, List.length_append, vars_len_any V d _ (if nxtDots r = true then m + 1 else m), varss_len_any V r n m]
end
def nv (V : Dt → Bool) (d : Dt) : Nat := (d.vars V 0).length
def nvs (V : Dt → Bool) (l : List Dt) : Nat := (varss V l 0).length
theorem nvs_cons (V : Dt → Bool) (d : Dt) (r : List Dt) : nvs V (d :: r) = nv V d + nvs V r := by
 unfold nvs nv
 rw [varss_cons, List.length_append, vars_len_any V d _ 0]
theorem nvs_append (V : Dt → Bool) : ∀ (a b : List Dt), nvs V (a ++ b) = nvs V a + nvs V b
 | [], b => by simp [nvs, varss]
 | d :: a, b => by rw [List.cons_append, nvs_cons, nvs_cons, nvs_append V a b]; omega
theorem mE_nv (V : Dt → Bool) (f : Dt → Dt → Option (List Bd)) : ∀ (ps ds : List Dt) (r : List Bd), (∀ p ∈ ps, ∀ d r, f p d = some r → r.length = nv V p) → mE f ps ds = some r → r.length = nvs V ps
 | [], [], r, _, h => by rw [mE] at h; injection h with h; subst h; simp [nvs, varss]
 | p :: ps, d :: ds, r, hf, h => by
  rw [mE_cons] at h
  cases h1 : f p d with
  | none => rw [h1] at h; cases h
  | some r1 =>
   rw [h1] at h
   cases h2 : mE f ps ds with
   | none => rw [h2] at h; cases h
   | some r2 =>
    rw [h2] at h; injection h with h; subst h
    rw [List.length_append, nvs_cons, hf p List.mem_cons_self d r1 h1, mE_nv V f ps ds r2 (fun q hq => hf q (List.mem_cons_of_mem _ hq)) h2]
 | [], d :: ds, r, _, h => by rw [mE_len f [] (d :: ds) (by simp)] at h; cases h
 | p :: ps, [], r, _, h => by rw [mE_len f (p :: ps) [] (by simp)] at h; cases h
theorem pats_mem {l : List Dt} (h : pats l true false = true) : ∀ p ∈ l, p.dots = false → p.pat = true := by
 rw [pats_is, Bool.and_eq_true, List.all_eq_true] at h
 intro p hp hd
 have := h.2 p hp
 rw [hd] at this
 simpa using this
/-- Where the dots stand in a list that may be. -/
theorem pats_split {l : List Dt} (h : pats l true false = true) : (ixD l = -1 ∧ ∀ p ∈ l, p.dots = false) ∨
  ∃ j, ixD l = ((j + 1 : Nat) : Int) ∧ ∃ hj : j + 1 < l.length, l[j + 1].dots = true ∧ (∀ p ∈ l.take (j + 1), p.dots = false) ∧ ∀ p ∈ l.drop (j + 2), p.dots = false := by
 rw [pats_is, Bool.and_eq_true] at h
 obtain ⟨h1, h2⟩ := h
 unfold dotsOk at h1
 simp only [Bool.and_eq_true, Bool.not_eq_true', beq_eq_false_iff_ne, Bool.and_eq_false_iff, decide_eq_false_iff_not] at h1
 obtain ⟨h3, h4⟩ := h1
 rcases ixD_spec l with ⟨e, he⟩ | ⟨j, hj, e, hd, he⟩
 ·exact .inl ⟨e, fun p hp => by obtain ⟨i, hi, rfl⟩ := List.getElem_of_mem hp; exact he i hi⟩
 ·cases j with
  | zero => exact absurd e h3
  | succ j =>
   refine .inr ⟨j, e, hj, hd, fun p hp => ?_, fun p hp => ?_⟩
   ·obtain ⟨i, hi, rfl⟩ := List.mem_take_iff_getElem.1 hp
    exact he i (by omega) (by omega)
   ·rcases h4 with h4 | h4
    ·rw [e] at h4; omega
    ·rw [e] at h4
     have h5 := List.any_eq_false.1 h4 p (by simpa using hp)
     simpa using h5
theorem dots_nv {ls : List ByteArray} {d : Dt} (hw : d.wf) (h : d.dots = true) : nv (isVar ls) d = 0 := by
 have hk : d.kind = 3 := by unfold Dt.dots Dt.isS at h; simp only [Bool.and_eq_true, beq_iff_eq] at h; exact h.1
 have hl := hw.leaf (by rw [hk]; decide)
 obtain ⟨k, t, ms, l, p⟩ := d
 have hl : l = [] := hl
 subst hl
 unfold nv
 rw [vars_mk, if_neg (by unfold isVar; rw [h]; simp)]
 rw [varss]; rfl
theorem sym_nv {ls : List ByteArray} {d : Dt} (hw : d.wf) (h : d.kind ≠ 4) (hv : isVar ls d = false) : nv (isVar ls) d = 0 := by
 have hl := hw.leaf h
 obtain ⟨k, t, ms, l, p⟩ := d
 have hl : l = [] := hl
 subst hl
 unfold nv
 rw [vars_mk, if_neg (by rw [hv]; decide), varss]; rfl
theorem wfs_mem {l : List Dt} (h : wfs l) : ∀ p ∈ l, p.wf := fun p hp => by obtain ⟨i, hi, rfl⟩ := List.getElem_of_mem hp; exact wfs_get h i hi
theorem split_at {l : List Dt} {j : Nat} (hj : j + 1 < l.length) : l = l.take j ++ l[j] :: l[j + 1] :: l.drop (j + 2) := by
 rw [← List.drop_eq_getElem_cons hj, ← List.drop_eq_getElem_cons (by omega : j < l.length), List.take_append_drop]
/-- As many are bound as there are variables. -/
theorem mRf_nv (ls : List ByteArray) : ∀ (n : Nat) (p d : Dt) (r : List Bd), p.wf → p.pat = true → mRf ls n p d = some r → r.length = nv (isVar ls) p
 | 0, p, d, r, _, _, h => by rw [mRf] at h; cases h
 | n + 1, p, d, r, hw, hp, h => by
  have hk3 : ∀ q, q ≠ 0 → q ≠ 1 → roleOf ls p = q → p.kind = 3 := by
   intro q h0 h1 h
   by_cases hk : p.kind = 3
   ·exact hk
   ·unfold roleOf at h; rw [if_pos hk] at h; exact absurd h.symm h0
  rw [mRf] at h
  by_cases r2 : roleOf ls p = 2
  ·rw [if_pos r2] at h
   have hv : isVar ls p = false := by cases e : isVar ls p with | false => rfl | true => rw [role_var.2 e] at r2; cases r2
   have hk := hk3 2 (by decide) (by decide) r2
   rw [sym_nv hw (by rw [hk]; decide) hv]
   split at h
   ·injection h with h; subst h; rfl
   ·cases h
  ·rw [if_neg r2] at h
   by_cases r3 : roleOf ls p = 3
   ·rw [if_pos r3] at h
    have hv : isVar ls p = false := by cases e : isVar ls p with | false => rfl | true => rw [role_var.2 e] at r3; cases r3
    have hk := hk3 3 (by decide) (by decide) r3
    rw [sym_nv hw (by rw [hk]; decide) hv]
    injection h with h; subst h; rfl
   ·rw [if_neg r3] at h
    by_cases r4 : roleOf ls p = 4
    ·rw [if_pos r4] at h
     have hv := role_var.1 r4
     injection h with h; subst h
     obtain ⟨k, t, ms, l, pl⟩ := p
     unfold nv
     rw [vars_mk, if_pos hv]; rfl
    ·rw [if_neg r4] at h
     have hv : isVar ls p = false := by cases e : isVar ls p with | false => rfl | true => exact absurd (role_var.2 e) r4
     split at h
     ·cases h
     ·split at h
      ·rename_i hk
       rw [sym_nv hw (by omega) hv]
       split at h
       ·injection h with h; subst h; rfl
       ·cases h
      ·split at h
       ·rename_i hk
        obtain ⟨k, t, ms, l, pl⟩ := p
        have hwl : wfs l := hw.parts
        rw [pat_mk, Bool.and_eq_true] at hp
        have hnl : nv (isVar ls) (.mk k t ms l pl) = nvs (isVar ls) l := by unfold nv nvs; rw [vars_mk, if_neg (by rw [hv]; decide)]
        rw [hnl]
        have hF : ∀ p ∈ l, p.dots = false → ∀ d r, mRf ls n p d = some r → r.length = nv (isVar ls) p := fun p hm hd d r => mRf_nv ls n p d r (wfs_mem hwl p hm) (pats_mem hp.2 p hm hd)
        rw [show (Dt.mk k t ms l pl).dl9 = l from rfl] at h
        unfold mL at h
        rcases pats_split hp.2 with ⟨e, hd⟩ | ⟨j, e, hj, hd, hd1, hd2⟩
        ·rw [e, if_pos (by decide)] at h
         exact mE_nv _ _ _ _ _ (fun p hm => hF p hm (hd p hm)) h
        ·rw [e, if_neg (by omega)] at h
         simp only [Int.toNat_natCast, Nat.add_sub_cancel] at h
         generalize d.dl9 = ds at h
         by_cases hlt : ds.length < j + (l.length - (j + 1 + 1))
         ·rw [if_pos hlt] at h; cases h
         ·rw [if_neg hlt] at h
          cases h1 : mE (mRf ls n) (l.take j) (ds.take j) with
          | none => rw [h1] at h; cases h
          | some r1 =>
           rw [h1] at h
           simp only at h
           rw [List.getElem?_eq_getElem (by omega : j < l.length), Option.getD_some] at h
           cases h2 : allR (mRf ls n l[j]) ((ds.take (ds.length - (l.length - (j + 1 + 1)))).drop j) with
           | none => rw [h2] at h; cases h
           | some all =>
            rw [h2] at h
            simp only at h
            cases h3 : mE (mRf ls n) (l.drop (j + 1 + 1)) (ds.drop (ds.length - (l.length - (j + 1 + 1)))) with
            | none => rw [h3] at h; cases h
            | some r3 =>
             rw [h3] at h
             injection h with h; subst h
             have e1 := mE_nv (isVar ls) _ _ _ _ (fun p hm => hF p (List.mem_of_mem_take hm) (hd1 p (by rw [List.mem_take_iff_getElem] at hm ⊢; obtain ⟨i, hi, e⟩ := hm; exact ⟨i, by omega, e⟩))) h1
             have e3 := mE_nv (isVar ls) _ _ _ _ (fun p hm => hF p (List.mem_of_mem_drop hm) (hd2 p hm)) h3
             rw [List.length_append, List.length_append, mkRows_length, e1, e3, vars_len_any (isVar ls) l[j] 1 0]
             have e4 : nvs (isVar ls) l = nvs (isVar ls) (l.take j ++ l[j] :: l[j + 1] :: l.drop (j + 2)) := by rw [← split_at hj]
             rw [e4, nvs_append, nvs_cons, nvs_cons, dots_nv (wfs_get hwl (j + 1) hj) hd]
             show _ = _
             unfold nv
             omega
       ·cases h
end Go.Proofs.Ytecljchifebljaa
namespace Go.Proofs.Ytecljchifebljaa
open Go Go.RowKit
def litB : ByteArray := ⟨#[108, 105, 116]⟩
def sfx : ByteArray := ⟨#[45, 122]⟩
def rnT (k : Int) (t : ByteArray) : ByteArray := if ((k == 3) && !(t.toList == litB.toList) && !(t.toList == [95]) && !(t.toList == dT.toList)) = true then t ++ sfx else t
mutual
def Dt.ren : Dt → Dt
 | .mk k t ms l p => .mk k (rnT k t) [] (rens l) 0
def rens : List Dt → List Dt
 | [] => []
 | d :: r => d.ren :: rens r
end
theorem ren_mk (k : Int) (t : ByteArray) (ms : List Int) (l : List Dt) (p : Int) : (Dt.mk k t ms l p).ren = .mk k (rnT k t) [] (rens l) 0 := by rw [Dt.ren]
theorem rens_map : ∀ l : List Dt, rens l = l.map Dt.ren
 | [] => by rw [rens]; rfl
 | d :: r => by rw [rens, rens_map r]; rfl
theorem rens_len (l : List Dt) : (rens l).length = l.length := by rw [rens_map, List.length_map]
theorem tl_data (t : ByteArray) : t.toList = t.data.toList := ByteArray.toList_eq t
theorem tl_sfx (t : ByteArray) : (t ++ sfx).toList = t.toList ++ [45, 122] := by
 rw [tl_data, tl_data, ByteArray.data_append]
 simp [sfx]
theorem not_sfx {t : ByteArray} {l : List UInt8} (h : l.getLast? ≠ some 122) : ((t ++ sfx).toList == l) = false := by
 rw [tl_sfx]
 apply Bool.eq_false_iff.2
 intro e
 rw [beq_iff_eq] at e
 exact h (by rw [← e]; simp)
theorem rnT_yes {k : Int} {t : ByteArray} (h1 : k = 3) (h2 : (t.toList == litB.toList) = false) (h3 : (t.toList == [95]) = false) (h4 : (t.toList == dT.toList) = false) : rnT k t = t ++ sfx := by
 unfold rnT; rw [h1, h2, h3, h4]; rfl
theorem rnT_no {k : Int} {t : ByteArray} (h : k ≠ 3 ∨ (t.toList == litB.toList) = true ∨ (t.toList == [95]) = true ∨ (t.toList == dT.toList) = true) : rnT k t = t := by
 unfold rnT
 rw [if_neg]
 intro e
 simp only [Bool.and_eq_true, beq_iff_eq, Bool.not_eq_true', beq_eq_false_iff_ne] at e
 rcases h with h | h | h | h
 ·exact h e.1.1.1
 ·rw [beq_iff_eq] at h; exact e.1.1.2 h
 ·rw [beq_iff_eq] at h; exact e.1.2 h
 ·rw [beq_iff_eq] at h; exact e.2 h
/-- One text, held against three, before and behind. -/
theorem rnT_eq (t : ByteArray) : ((rnT 3 t).toList == litB.toList) = (t.toList == litB.toList) ∧ ((rnT 3 t).toList == [95]) = (t.toList == [95]) ∧ ((rnT 3 t).toList == dT.toList) = (t.toList == dT.toList) := by
 by_cases h2 : (t.toList == litB.toList) = true
 ·rw [rnT_no (.inr (.inl h2))]; exact ⟨rfl, rfl, rfl⟩
 ·by_cases h3 : (t.toList == [95]) = true
  ·rw [rnT_no (.inr (.inr (.inl h3)))]; exact ⟨rfl, rfl, rfl⟩
  ·by_cases h4 : (t.toList == dT.toList) = true
   ·rw [rnT_no (.inr (.inr (.inr h4)))]; exact ⟨rfl, rfl, rfl⟩
   ·rw [Bool.not_eq_true] at h2 h3 h4
    rw [rnT_yes rfl h2 h3 h4, h2, h3, h4]
    exact ⟨not_sfx (by decide +kernel), not_sfx (by decide), not_sfx (by decide +kernel)⟩
theorem ren_kind (d : Dt) : d.ren.kind = d.kind := by obtain ⟨k, t, ms, l, p⟩ := d; rw [ren_mk]; rfl
theorem ren_text (d : Dt) : d.ren.text = rnT d.kind d.text := by obtain ⟨k, t, ms, l, p⟩ := d; rw [ren_mk]; rfl
theorem ren_dl (d : Dt) : d.ren.dl9 = rens d.dl9 := by obtain ⟨k, t, ms, l, p⟩ := d; rw [ren_mk]; rfl
theorem ren_dots (d : Dt) : d.ren.dots = d.dots := by
 unfold Dt.dots Dt.isS
 rw [ren_kind, ren_text]
 by_cases h : d.kind = 3
 ·rw [h, (rnT_eq _).2.2]
 ·rw [rnT_no (.inl h)]
theorem ren_inL (d : Dt) (h : d.kind = 3) : inL [litB] d.ren.text = inL [litB] d.text := by
 have e : ∀ s : ByteArray, inL [litB] s = (s.toList == litB.toList) := fun s => by
  unfold inL
  rw [List.any_cons, List.any_nil, Bool.or_false]
  exact BEq.comm
 rw [e, e, ren_text, h, (rnT_eq _).1]
theorem ren_role (d : Dt) : roleOf [litB] d.ren = roleOf [litB] d := by
 unfold roleOf
 rw [ren_kind, ren_dots]
 by_cases h : d.kind = 3
 ·rw [ren_inL d h, ren_text, h, (rnT_eq _).2.1]
 ·rw [if_pos h, if_pos h]
theorem ren_var (d : Dt) : isVar [litB] d.ren = isVar [litB] d := by rw [← roleOf_var, ← roleOf_var, ren_role]
theorem ren_var_text {d : Dt} (h : isVar [litB] d = true) : d.ren.text = d.text ++ sfx := by
 unfold isVar inL Dt.dots Dt.isS at h
 simp only [List.any_cons, List.any_nil, Bool.or_false, Bool.and_eq_true, Bool.not_eq_true', beq_iff_eq] at h
 obtain ⟨⟨⟨h1, h2⟩, h3⟩, h4⟩ := h
 rw [ren_text]
 refine rnT_yes h1 ?_ h3 ?_
 ·rw [BEq.comm]; exact h2
 ·rw [h1] at h4; simpa using h4
theorem ren_ix (l : List Dt) : ixD (rens l) = ixD l := by
 unfold ixD
 rw [rens_map, List.findIdx?_map]
 have : Dt.dots ∘ Dt.ren = Dt.dots := funext ren_dots
 rw [this]
theorem ren_nxt : ∀ l : List Dt, nxtDots (rens l) = nxtDots l
 | [] => by rw [rens]
 | d :: r => by rw [rens]; exact ren_dots d
theorem ren_dZ : dZ.ren = dZ := by
 unfold dZ; rw [ren_mk, rnT_no (.inl (by decide)), rens]
mutual
theorem vars_ren : ∀ (d : Dt) (n : Int), d.ren.vars (isVar [litB]) n = (d.vars (isVar [litB]) n).map fun x => (x.1.ren, x.2)
 | .mk k t ms l p, n => by
  have hv := ren_var (.mk k t ms l p)
  have e := ren_mk k t ms l p
  rw [vars_mk]
  rw [e] at hv ⊢
  rw [vars_mk, hv]
  split
  ·rw [List.map_cons, List.map_nil, e]
  ·exact varss_ren l n
theorem varss_ren : ∀ (l : List Dt) (n : Int), varss (isVar [litB]) (rens l) n = (varss (isVar [litB]) l n).map fun x => (x.1.ren, x.2)
 | [], n => by rw [rens, varss]; rfl
 | d :: r, n => by rw [rens, varss_cons, varss_cons, List.map_append, vars_ren d, varss_ren r, ren_nxt]
end
mutual
theorem vars_are : ∀ (d : Dt) (n : Int), ∀ x ∈ d.vars (isVar [litB]) n, isVar [litB] x.1 = true
 | .mk k t ms l p, n => by
  rw [vars_mk]
  split
  ·rename_i h
   intro x hx
   rw [List.mem_singleton] at hx
   rw [hx]; exact h
  ·exact varss_are l n
theorem varss_are : ∀ (l : List Dt) (n : Int), ∀ x ∈ varss (isVar [litB]) l n, isVar [litB] x.1 = true
 | [], n => by intro x hx; rw [varss] at hx; cases hx
 | d :: r, n => by
  intro x hx
  rw [varss_cons] at hx
  rcases List.mem_append.1 hx with h | h
  ·exact vars_are d _ x h
  ·exact varss_are r n x h
end
/-- What is bound, by the other names. -/
def Rn (x y : Bd) : Prop := y.name.text = x.name.text ++ sfx ∧ y.deep = x.deep ∧ y.dat = x.dat ∧ y.rows.length = x.rows.length
def Rns (r r' : List Bd) : Prop := r'.length = r.length ∧ ∀ i (h : i < r.length) (h' : i < r'.length), Rn r[i] r'[i]
def Rl (o o' : Option (List Bd)) : Prop := (o = none ∧ o' = none) ∨ ∃ r r', o = some r ∧ o' = some r' ∧ Rns r r'
theorem Rns.nil : Rns [] [] := ⟨rfl, fun i h => by simp at h⟩
theorem Rns.app {a a' b b' : List Bd} (h : Rns a a') (k : Rns b b') : Rns (a ++ b) (a' ++ b') := by
 refine ⟨by rw [List.length_append, List.length_append, h.1, k.1], fun i hi hi' => ?_⟩
 have := h.1
 by_cases e : i < a.length
 ·rw [List.getElem_append_left e, List.getElem_append_left (by omega)]; exact h.2 i e (by omega)
 ·rw [List.getElem_append_right (by omega), List.getElem_append_right (by omega)]
  rw [List.length_append] at hi hi'
  have e2 : i - a'.length = i - a.length := by rw [h.1]
  simp only [e2]
  exact k.2 _ (by omega) (by omega)
theorem mE_ren {f f' : Dt → Dt → Option (List Bd)} : ∀ (ps ds : List Dt), (∀ p ∈ ps, ∀ d, Rl (f p d) (f' p.ren d)) → Rl (mE f ps ds) (mE f' (rens ps) ds)
 | [], [], _ => by rw [rens, mE, mE]; exact .inr ⟨[], [], rfl, rfl, Rns.nil⟩
 | [], d :: ds, _ => by rw [rens, mE_len _ _ _ (by simp), mE_len _ _ _ (by simp)]; exact .inl ⟨rfl, rfl⟩
 | p :: ps, [], _ => by rw [rens, mE_len _ _ _ (by simp), mE_len _ _ _ (by simp)]; exact .inl ⟨rfl, rfl⟩
 | p :: ps, d :: ds, h => by
  rw [rens, mE_cons, mE_cons]
  rcases h p List.mem_cons_self d with ⟨e1, e2⟩ | ⟨r, r', e1, e2, hr⟩
  ·rw [e1, e2]; exact .inl ⟨rfl, rfl⟩
  ·rw [e1, e2]
   rcases mE_ren ps ds (fun q hq => h q (List.mem_cons_of_mem _ hq)) with ⟨g1, g2⟩ | ⟨s, s', g1, g2, hs⟩
   ·rw [g1, g2]; exact .inl ⟨rfl, rfl⟩
   ·rw [g1, g2]; exact .inr ⟨_, _, rfl, rfl, hr.app hs⟩
theorem allR_ren {f f' : Dt → Option (List Bd)} (h : ∀ d, Rl (f d) (f' d)) : ∀ ds : List Dt, (allR f ds = none ∧ allR f' ds = none) ∨ ∃ a a', allR f ds = some a ∧ allR f' ds = some a' ∧ a'.length = a.length
 | [] => .inr ⟨[], [], rfl, rfl, rfl⟩
 | d :: ds => by
  rw [allR, allR]
  rcases h d with ⟨e1, e2⟩ | ⟨r, r', e1, e2, hr⟩
  ·rw [e1, e2]; exact .inl ⟨rfl, rfl⟩
  ·rw [e1, e2]
   rcases allR_ren h ds with ⟨g1, g2⟩ | ⟨s, s', g1, g2, hs⟩
   ·rw [g1, g2]; exact .inl ⟨rfl, rfl⟩
   ·rw [g1, g2]; exact .inr ⟨_, _, rfl, rfl, by simp [hs]⟩
theorem mkRows_ren {ns : List (Dt × Int)} (hv : ∀ x ∈ ns, isVar [litB] x.1 = true) {a a' : List (List Bd)} (h : a'.length = a.length) : Rns (mkRows ns a) (mkRows (ns.map fun x => (x.1.ren, x.2)) a') := by
 refine ⟨by rw [mkRows_length, mkRows_length, List.length_map], fun i hi hi' => ?_⟩
 rw [mkRows_length] at hi
 rw [mkRows_get ns a i hi, mkRows_get _ a' i (by rw [List.length_map]; exact hi)]
 simp only [List.getElem_map]
 exact ⟨ren_var_text (hv _ (List.getElem_mem hi)), rfl, rfl, by show (a'.map _).length = (a.map _).length; rw [List.length_map, List.length_map, h]⟩
theorem rens_take (l : List Dt) (k : Nat) : (rens l).take k = rens (l.take k) := by rw [rens_map, rens_map, List.map_take]
theorem rens_drop (l : List Dt) (k : Nat) : (rens l).drop k = rens (l.drop k) := by rw [rens_map, rens_map, List.map_drop]
theorem rens_getD (l : List Dt) (k : Nat) : ((rens l)[k]?).getD dZ = ((l[k]?).getD dZ).ren := by
 rw [rens_map, List.getElem?_map]
 cases l[k]? with
 | none => exact ren_dZ.symm
 | some d => rfl
theorem mL_ren {f f' : Dt → Dt → Option (List Bd)} (h : ∀ p d, Rl (f p d) (f' p.ren d)) (l ds : List Dt) : Rl (mL [litB] f l ds) (mL [litB] f' (rens l) ds) := by
 unfold mL
 rw [ren_ix, rens_len, rens_take, rens_drop, rens_getD]
 split
 ·exact mE_ren l ds (fun p _ d => h p d)
 ·split
  ·exact .inl ⟨rfl, rfl⟩
  ·rcases mE_ren (l.take ((ixD l).toNat - 1)) (ds.take ((ixD l).toNat - 1)) (fun p _ d => h p d) with ⟨e1, e2⟩ | ⟨r, r', e1, e2, hr⟩
   ·rw [e1, e2]; exact .inl ⟨rfl, rfl⟩
   ·rw [e1, e2]
    rcases allR_ren (h ((l[(ixD l).toNat - 1]?).getD dZ)) ((ds.take (ds.length - (l.length - ((ixD l).toNat + 1)))).drop ((ixD l).toNat - 1)) with ⟨g1, g2⟩ | ⟨a, a', g1, g2, ha⟩
    ·simp only [g1, g2]; exact .inl ⟨rfl, rfl⟩
    ·simp only [g1, g2]
     rcases mE_ren (l.drop ((ixD l).toNat + 1)) (ds.drop (ds.length - (l.length - ((ixD l).toNat + 1)))) (fun p _ d => h p d) with ⟨k1, k2⟩ | ⟨s, s', k1, k2, hs⟩
     ·simp only [k1, k2]; exact .inl ⟨rfl, rfl⟩
     ·simp only [k1, k2]
      refine .inr ⟨_, _, rfl, rfl, (hr.app ?_).app hs⟩
      rw [vars_ren]
      exact mkRows_ren (vars_are _ _) ha
theorem mRf_ren : ∀ (n : Nat) (p d : Dt), Rl (mRf [litB] n p d) (mRf [litB] n p.ren d)
 | 0, p, d => .inl ⟨rfl, rfl⟩
 | n + 1, p, d => by
  rw [mRf, mRf, ren_role, ren_kind, ren_dl]
  split
  ·rename_i h2
   have ht : p.ren.text = p.text := by
    have hk : p.kind = 3 := by
     by_cases hk : p.kind = 3
     ·exact hk
     ·unfold roleOf at h2; rw [if_pos hk] at h2; cases h2
    rw [ren_text]
    refine rnT_no (.inr (.inl ?_))
    unfold roleOf inL at h2
    rw [if_neg (fun h => h hk)] at h2
    split at h2
    ·cases h2
    ·split at h2
     ·rename_i h; rw [List.any_cons, List.any_nil, Bool.or_false] at h; rw [BEq.comm]; exact h
     ·split at h2 <;> cases h2
   rw [ht]
   split
   ·exact .inr ⟨[], [], rfl, rfl, Rns.nil⟩
   ·exact .inl ⟨rfl, rfl⟩
  ·split
   ·exact .inr ⟨[], [], rfl, rfl, Rns.nil⟩
   ·split
    ·rename_i h4
     refine .inr ⟨_, _, rfl, rfl, rfl, fun i hi hi' => ?_⟩
     have : i = 0 := by simp at hi; exact hi
     subst this
     exact ⟨ren_var_text (role_var.1 h4), rfl, rfl, rfl⟩
    ·split
     ·exact .inl ⟨rfl, rfl⟩
     ·split
      ·rename_i hk
       have ht : p.ren.text = p.text := by rw [ren_text]; exact rnT_no (.inl (by omega))
       rw [ht]
       split
       ·exact .inr ⟨[], [], rfl, rfl, Rns.nil⟩
       ·exact .inl ⟨rfl, rfl⟩
      ·split
       ·exact mL_ren (fun p d => mRf_ren n p d) _ _
       ·exact .inl ⟨rfl, rfl⟩
mutual
theorem ren_pat : ∀ d : Dt, d.ren.pat = d.pat
 | .mk k t ms l p => by
  have h := ren_dots (.mk k t ms l p)
  rw [ren_mk] at h ⊢
  rw [pat_mk, pat_mk, h, rens_pats l]
theorem rens_pats : ∀ (l : List Dt) (a b : Bool), pats (rens l) a b = pats l a b
 | [], a, b => by rw [rens]
 | d :: r, a, b => by rw [rens, pats_cons, pats_cons, ren_dots, ren_pat d, rens_pats r, rens_pats r]
end
mutual
theorem ren_size : ∀ d : Dt, d.ren.size = d.size
 | .mk k t ms l p => by rw [ren_mk, Dt.size, Dt.size, rens_sizes l]
theorem rens_sizes : ∀ l : List Dt, Dt.sizes (rens l) = Dt.sizes l
 | [] => by rw [rens]
 | d :: r => by rw [rens, Dt.sizes, Dt.sizes, ren_size d, rens_sizes r]
end
end Go.Proofs.Ytecljchifebljaa
