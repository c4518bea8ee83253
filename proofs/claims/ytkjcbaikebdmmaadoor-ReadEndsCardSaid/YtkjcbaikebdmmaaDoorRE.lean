/- Texts that are cut off. -/
import Derived.Test.YtkjcbaikebdmmaaDoorJ20
import Derived.Test.YtkjcbaikebdmmaaDoorRD2
namespace Go.Proofs.YtkjcbaikebdmmaaDoor
open Go.RowKit Go.BigM
set_option linter.unusedVariables false
set_option linter.unusedSimpArgs false
/-- What Read answers where the text ends too early. -/
def CutR (s : List UInt8) (p : Nat) (e : En) (r : List En) : Prop :=
  (∃ n, rd s n .next p e r = some (.err 5 s.length)) ∨ ((∃ n, rd s n .next p e r = some (.err 3 (s.length - 1))) ∧ s[s.length - 1]? = some 35 ∧ 1 ≤ s.length)
theorem CutR.back {s : List UInt8} {p q : Nat} {e f : En} {r r' : List En} (h : Rch s .next p e r .next q f r') (hc : CutR s q f r') : CutR s p e r := by
  obtain ⟨k, hk⟩ := h
  rcases hc with ⟨n, h⟩ | ⟨⟨n, h⟩, h2⟩
  · exact .inl ⟨_, hk _ _ h⟩
  · exact .inr ⟨⟨_, hk _ _ h⟩, h2⟩
theorem cut_stop {s : List UInt8} {p : Nat} (e : En) (r : List En) (hs : s.drop p = []) (hp : p ≤ s.length) (hr : 0 < r.length) : CutR s p e r := by
  have hp2 : p = s.length := by
    have := List.drop_eq_nil_iff.1 hs; omega
  subst hp2
  refine .inl ⟨2, ?_⟩
  unfold rd
  simp only [List.drop_length, gapOf, Nat.add_zero]
  rw [List.getElem?_eq_none (Nat.le_refl _)]
  simp only
  unfold rd
  rw [if_pos hr]
/-- Every piece of the word is one, but the bare sign of a truth. -/
def LeafCut (t : List UInt8) : Prop := ∀ u, u <+: t → u ≠ [] → (∃ k v, Leaf u k v) ∨ u = [35]
theorem cut_leaf {s : List UInt8} {p : Nat} {t u : List UInt8} (e : En) (r : List En) (h : LeafCut t) (hu : u <+: t) (hs : s.drop p = u) (hp : p ≤ s.length) (hr : 0 < r.length) (hq : e.q = false) : CutR s p e r := by
  by_cases h0 : u = []
  · subst h0; exact cut_stop e r hs hp hr
  rcases h u hu h0 with ⟨k, v, hl⟩ | rfl
  · have h1 := rch_leaf (rest := []) hl (by rw [List.append_nil]; exact hs) NoSign.nil e r
    have h2 := rch_put (s := s) (p := p + u.length) (.mk k v [] [] p) e r hq
    refine CutR.back (h1.trans h2) (cut_stop _ r ?_ ?_ hr)
    · rw [← List.drop_drop, hs]; simp
    · have := congrArg List.length hs; simp at this; omega
  · have hlen : s.length = p + 1 := by
      have h1 := congrArg List.length hs
      rw [List.length_drop] at h1
      simp at h1; omega
    obtain ⟨k, hk⟩ := rch_next (e := e) (r := r) hs (gap_no (by decide))
    rw [if_neg (by decide), if_neg (by decide)] at hk
    refine .inr ⟨⟨1 + k, hk _ _ ?_⟩, ?_, by omega⟩
    · unfold rd
      rw [hs]
      rw [show tokOf [35] = none by decide +kernel]
      rw [show s.length - 1 = p by omega]
    · rw [show s.length - 1 = p by omega]; exact get_drop hs
/-- A datum whose text can be cut anywhere. -/
inductive Cutb : Dt → Prop
  | leaf {k : Int} {u : ByteArray} {p : Int} : k ≠ 4 → (∀ c ∈ u.data.toList, c ≠ 32) → Leaf u.data.toList k u → LeafCut u.data.toList → Cutb (.mk k u [] [] p)
  | list {l : List Dt} {p : Int} : (∀ d ∈ l, Cutb d) → Cutb (.mk 4 ⟨#[]⟩ [] l p)
mutual
theorem Cutb.rdb : ∀ (d : Dt), Cutb d → Rdb d
  | .mk k u ms l p, h => by
    cases h with
    | leaf a b c d => exact .leaf a b c
    | list hl => exact .list (Cutbs.rdb l hl)
theorem Cutbs.rdb : ∀ (l : List Dt), (∀ d ∈ l, Cutb d) → ∀ d ∈ l, Rdb d
  | [], _, d, h => by simp at h
  | e :: l, h, d, hd => by
    rcases List.mem_cons.1 hd with he | hd
    · rw [he]; exact Cutb.rdb e (h e (by simp))
    · exact Cutbs.rdb l (fun x hx => h x (by simp [hx])) d hd
end
theorem pre_split {u a b : List UInt8} (h : u <+: a ++ b) : (u <+: a ∧ u ≠ a) ∨ ∃ v, u = a ++ v ∧ v <+: b := by
  obtain ⟨w, hw⟩ := h
  rcases List.append_eq_append_iff.1 hw with ⟨x, h1, h2⟩ | ⟨x, h1, h2⟩
  · by_cases he : u = a
    · exact .inr ⟨[], by simp [he], List.nil_prefix⟩
    · exact .inl ⟨⟨x, h1.symm⟩, he⟩
  · exact .inr ⟨x, h1, ⟨w, h2.symm⟩⟩
theorem nosign_pre {u t : List UInt8} (h : u <+: t) (hn : NoSign t) : NoSign u := by
  obtain ⟨w, rfl⟩ := h
  intro c hc
  refine hn c ?_
  cases u with
  | nil => simp at hc
  | cons d u => simpa using hc
theorem drop_le {s : List UInt8} {p : Nat} {u : List UInt8} (hs : s.drop p = u) (hp : p ≤ s.length) : p + u.length = s.length := by
  rw [← hs, List.length_drop]; omega
mutual
theorem cut_dt : ∀ (d : Dt), Cutb d → ∀ (s : List UInt8) (p : Nat) (e : En) (r : List En) (u : List UInt8), u <+: d.txt → u ≠ d.txt → s.drop p = u → p ≤ s.length → 0 < r.length → e.q = false → r.length + d.dep ≤ 60 → CutR s p e r
  | .mk k t ms l q, h, s, p, e, r, u, hu, hne, hs, hp, hr, hq, hd => by
    cases h with
    | leaf hk _ _ hc =>
      simp only [Dt.txt, hk, if_false] at hu
      exact cut_leaf e r hc hu hs hp hr hq
    | list hl =>
      simp only [Dt.txt, if_true] at hu hne
      have hd : r.length + (1 + Dt.deps l) ≤ 60 := by simpa [Dt.dep] using hd
      cases u with
      | nil => exact cut_stop e r hs hp hr
      | cons c u =>
        obtain ⟨w, hw⟩ := hu
        injection hw with h1 h2
        subst h1
        have hu2 : u <+: Dt.txts l := by
          rcases pre_split (u := u) (a := Dt.txts l) (b := [41]) ⟨w, h2⟩ with h | ⟨v, rfl, hv⟩
          · exact h.1
          · cases v with
            | nil => simp
            | cons x v =>
              obtain ⟨y, hy⟩ := hv
              injection hy with h3 h4
              have : v = [] := (List.append_eq_nil_iff.1 h4).1
              subst h3 this
              exact absurd rfl hne
        have h3 := drop_le hs hp
        refine CutR.back (rch_open hs (.inl rfl) e r (by omega)) (cut_dts l hl s (p + 1) _ (e :: r) u hu2 (drop_next hs) (by simp at h3; omega) (by simp) rfl (by simp; omega))
theorem cut_dts : ∀ (l : List Dt), (∀ d ∈ l, Cutb d) → ∀ (s : List UInt8) (p : Nat) (e : En) (r : List En) (u : List UInt8), u <+: Dt.txts l → s.drop p = u → p ≤ s.length → 0 < r.length → e.q = false → r.length + Dt.deps l ≤ 60 → CutR s p e r
  | [], _, s, p, e, r, u, hu, hs, hp, hr, hq, hd => by
    have : u = [] := List.prefix_nil.1 hu
    subst this
    exact cut_stop e r hs hp hr
  | d :: l, h, s, p, e, r, u, hu, hs, hp, hr, hq, hd => by
    have hd : r.length + max d.dep (Dt.deps l) ≤ 60 := hd
    rcases pre_split (a := d.txt) (b := Dt.txtr l) hu with ⟨h1, h2⟩ | ⟨v, rfl, hv⟩
    · exact cut_dt d (h d (by simp)) s p e r u h1 h2 hs hp hr hq (by omega)
    · have h3 := rch_wr (s := s) (wr_plc d p (Cutb.rdb d (h d (by simp)))) e r v hs (nosign_pre hv (txtr_nosign l)) (by rw [plc_dep]; omega)
      have h4 := rch_put (s := s) (p := p + d.txt.length) (d.plc p) e r hq
      have h5 := drop_le hs hp
      exact CutR.back (h3.trans h4) (cut_dtr l (fun x hx => h x (by simp [hx])) s _ _ r v hv (drop_more hs) (by simp at h5; omega) hr hq (by omega))
theorem cut_dtr : ∀ (l : List Dt), (∀ d ∈ l, Cutb d) → ∀ (s : List UInt8) (p : Nat) (e : En) (r : List En) (u : List UInt8), u <+: Dt.txtr l → s.drop p = u → p ≤ s.length → 0 < r.length → e.q = false → r.length + Dt.deps l ≤ 60 → CutR s p e r
  | [], _, s, p, e, r, u, hu, hs, hp, hr, hq, hd => by
    have : u = [] := List.prefix_nil.1 hu
    subst this
    exact cut_stop e r hs hp hr
  | d :: l, h, s, p, e, r, u, hu, hs, hp, hr, hq, hd => by
    have hd : r.length + max d.dep (Dt.deps l) ≤ 60 := hd
    cases u with
    | nil => exact cut_stop e r hs hp hr
    | cons c u =>
      obtain ⟨w, hw⟩ := hu
      injection hw with h1 h2
      subst h1
      have hg := rch_gap (g := [32]) (rest := u) (Gap.blank (by simp)) hs e r
      have h5 := drop_le hs hp
      refine CutR.back hg ?_
      rcases pre_split (u := u) (a := d.txt) (b := Dt.txtr l) ⟨w, h2⟩ with ⟨h1, h2⟩ | ⟨v, rfl, hv⟩
      · exact cut_dt d (h d (by simp)) s (p + 1) e r u h1 h2 (drop_next hs) (by simp at h5; omega) hr hq (by omega)
      · have h3 := rch_wr (s := s) (wr_plc d (p + 1) (Cutb.rdb d (h d (by simp)))) e r v (drop_next hs) (nosign_pre hv (txtr_nosign l)) (by rw [plc_dep]; omega)
        have h4 := rch_put (s := s) (p := p + 1 + d.txt.length) (d.plc (p + 1)) e r hq
        exact CutR.back (h3.trans h4) (cut_dtr l (fun x hx => h x (by simp [hx])) s _ _ r v hv (drop_more (drop_next hs)) (by simp at h5; omega) hr hq (by omega))
end
theorem cut_dte : ∀ (l : List Dt), (∀ d ∈ l, Cutb d) → ∀ (s : List UInt8) (p : Nat) (e : En) (r : List En) (u : List UInt8), u <+: Dt.txte l → s.drop p = u → p ≤ s.length → 0 < r.length → e.q = false → r.length + Dt.deps l ≤ 60 → CutR s p e r
  | [], _, s, p, e, r, u, hu, hs, hp, hr, hq, hd => by
    have : u = [] := List.prefix_nil.1 hu
    subst this
    exact cut_stop e r hs hp hr
  | d :: l, h, s, p, e, r, u, hu, hs, hp, hr, hq, hd => by
    have hd : r.length + max d.dep (Dt.deps l) ≤ 60 := hd
    rcases pre_split (a := d.txt) (b := 32 :: Dt.txte l) hu with ⟨h1, h2⟩ | ⟨v, rfl, hv⟩
    · exact cut_dt d (h d (by simp)) s p e r u h1 h2 hs hp hr hq (by omega)
    · have h3 := rch_wr (s := s) (wr_plc d p (Cutb.rdb d (h d (by simp)))) e r v hs (nosign_pre hv (NoSign.cons (by decide))) (by rw [plc_dep]; omega)
      have h4 := rch_put (s := s) (p := p + d.txt.length) (d.plc p) e r hq
      have h5 := drop_le hs hp
      have h6 := drop_more hs
      refine CutR.back (h3.trans h4) ?_
      cases v with
      | nil => exact cut_stop _ r h6 (by simp at h5; omega) hr
      | cons c v =>
        obtain ⟨w, hw⟩ := hv
        injection hw with h7 h8
        subst h7
        have hg := rch_gap (g := [32]) (rest := v) (Gap.blank (by simp)) h6 (e.add (d.plc p)) r
        refine CutR.back hg (cut_dte l (fun x hx => h x (by simp [hx])) s _ _ r v ⟨w, h8⟩ (drop_next h6) (by simp at h5 ⊢; omega) hr hq (by omega))
/-- A list that is cut within its brackets. -/
theorem rd_cut (l : List Dt) (h : ∀ d ∈ l, Cutb d) (hd : 1 + Dt.deps l ≤ 60) (k : Nat) (h1 : 1 ≤ k) (h2 : k ≤ (Dt.txte l).length + 1) (s : List UInt8) (hs : s = (40 :: (Dt.txte l ++ [41])).take k) :
    (∃ n, rd s n .next 0 ⟨0, false, []⟩ [] = some (.err 5 k)) ∨ ((∃ n, rd s n .next 0 ⟨0, false, []⟩ [] = some (.err 3 (k - 1))) ∧ s[k - 1]? = some 35) := by
  obtain ⟨j, rfl⟩ : ∃ j, k = j + 1 := ⟨k - 1, by omega⟩
  have hs2 : s = 40 :: (Dt.txte l).take j := by
    rw [hs, List.take_succ_cons, List.take_append_of_le_length (by omega)]
  have hlen : s.length = j + 1 := by rw [hs2]; simp; omega
  have hc : CutR s 0 ⟨0, false, []⟩ [] := by
    have h0 : s.drop 0 = 40 :: (Dt.txte l).take j := hs2
    refine CutR.back (rch_open h0 (.inl rfl) _ [] (by simp)) ?_
    exact cut_dte l h s 1 _ [⟨0, false, []⟩] _ (List.take_prefix j _) (drop_next h0) (by omega) (by simp) rfl (by simp; omega)
  rcases hc with ⟨n, h⟩ | ⟨⟨n, h⟩, h2, _⟩
  · rw [hlen] at h; exact .inl ⟨n, h⟩
  · rw [hlen] at h h2; exact .inr ⟨⟨n, h⟩, h2⟩
/-- Words whose pieces are words. -/
def cutW (t : List UInt8) : Bool := (List.range t.length).all fun i => (wordOf (t.take (i + 1))).isSome && (t.take (i + 1)).all sset.contains
theorem cut_word {t : List UInt8} (h : cutW t = true) : LeafCut t := by
  intro u hu h0
  obtain ⟨w, rfl⟩ := hu
  have hl : 0 < u.length := List.length_pos_iff.2 h0
  have h1 := List.all_eq_true.1 h (u.length - 1) (List.mem_range.2 (by simp; omega))
  rw [show u.length - 1 + 1 = u.length by omega, List.take_left] at h1
  simp only [Bool.and_eq_true] at h1
  obtain ⟨h2, h3⟩ := h1
  obtain ⟨x, hx⟩ := Option.isSome_iff_exists.1 h2
  obtain ⟨k, v, m⟩ := x
  have hm : m = u.length := by
    unfold wordOf at hx
    split at hx
    · split at hx
      · injection hx with hx; injection hx with _ hx; injection hx with _ hx; exact hx.symm
      · cases hx
    · split at hx
      · cases hx
      · injection hx with hx; injection hx with _ hx; injection hx with _ hx; exact hx.symm
  subst hm
  exact .inl ⟨k, v, leaf_word h3 h0 hx⟩
theorem cut_bool (b : UInt8) (hb : b = 116 ∨ b = 102) : LeafCut [35, b] := by
  intro u hu h0
  obtain ⟨w, hw⟩ := hu
  cases u with
  | nil => exact absurd rfl h0
  | cons c u =>
    injection hw with h1 h2
    subst h1
    cases u with
    | nil => exact .inr rfl
    | cons d u =>
      injection h2 with h3 h4
      have : u = [] := (List.append_eq_nil_iff.1 h4).1
      subst h3 this
      rcases hb with rfl | rfl
      · exact .inl ⟨_, _, leaf_true⟩
      · exact .inl ⟨_, _, leaf_false⟩
theorem cutW_ints : ∀ u ∈ tblI, cutW u.data.toList = true := by decide +kernel
theorem cutW_syms : ∀ u ∈ tblS, cutW u.data.toList = true := by decide +kernel
theorem cut_bools : ∀ u ∈ tblB, LeafCut u.data.toList := by
  intro u hu
  simp only [tblB, List.mem_cons, List.not_mem_nil, or_false] at hu
  rcases hu with rfl | rfl
  · exact cut_bool 116 (.inl rfl)
  · exact cut_bool 102 (.inr rfl)
theorem in_getD {l : List ByteArray} (i : Nat) (hi : i < l.length) : l.getD i ⟨#[]⟩ ∈ l := by
  rw [List.getD_eq_getElem?_getD, List.getElem?_eq_getElem hi]; exact List.getElem_mem _
mutual
theorem make_cut : ∀ (r : Rw), Cutb r.make
  | .mk k n l => by
    rw [Rw.make]
    split
    · have hm : tblI.getD (n % 5).toNat ⟨#[]⟩ ∈ tblI := in_getD _ (by show _ < 5; omega)
      exact .leaf (by decide) (okW_ints _ hm).1 (okW_ints _ hm).2 (cut_word (cutW_ints _ hm))
    · split
      · have hm : tblB.getD (n % 2).toNat ⟨#[]⟩ ∈ tblB := in_getD _ (by show _ < 2; omega)
        exact .leaf (by decide) (okW_bools _ hm).1 (okW_bools _ hm).2 (cut_bools _ hm)
      · split
        · have hm : tblS.getD (n % 11).toNat ⟨#[]⟩ ∈ tblS := in_getD _ (by show _ < 11; omega)
          exact .leaf (by decide) (okW_syms _ hm).1 (okW_syms _ hm).2 (cut_word (cutW_syms _ hm))
        · exact .list (makes_cut l)
theorem makes_cut : ∀ (l : List Rw), ∀ d ∈ Rw.makes l, Cutb d
  | [], d, h => by simp [Rw.makes] at h
  | r :: l, d, h => by
    simp only [Rw.makes, List.mem_cons] at h
    rcases h with he | h
    · rw [he]; exact make_cut r
    · exact makes_cut l d h
end
end Go.Proofs.YtkjcbaikebdmmaaDoor
