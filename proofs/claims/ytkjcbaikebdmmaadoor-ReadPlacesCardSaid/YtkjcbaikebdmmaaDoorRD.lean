/- Texts of ReadDeep. -/
import Derived.Test.YtkjcbaikebdmmaaDoorRL
namespace Go.Proofs.YtkjcbaikebdmmaaDoor
open Go.RowKit Go.BigM
set_option linter.unusedVariables false
set_option linter.unusedSimpArgs false
/-- What stands ahead: of each a quote, or a bracket. -/
def preT : List Bool → List UInt8
  | [] => []
  | true :: l => 39 :: preT l
  | false :: l => 40 :: preT l
def cntF : List Bool → Nat
  | [] => 0
  | true :: l => cntF l
  | false :: l => cntF l + 1
def nestT : List Bool → List UInt8
  | [] => [97]
  | true :: l => 39 :: nestT l
  | false :: l => 40 :: (nestT l ++ [41])
def nestD : Nat → List Bool → Dt
  | p, [] => .mk 3 ⟨#[97]⟩ [] [] p
  | p, true :: l => .mk 4 ⟨#[]⟩ [] [.mk 3 qT [] [] p, nestD (p + 1) l] p
  | p, false :: l => .mk 4 ⟨#[]⟩ [] [nestD (p + 1) l] p
theorem pre_snoc : ∀ (l : List Bool) (b : Bool), preT (l ++ [b]) = preT l ++ [if b then 39 else 40]
  | [], true => rfl
  | [], false => rfl
  | true :: l, b => by simp only [List.cons_append, preT]; rw [pre_snoc l b]
  | false :: l, b => by simp only [List.cons_append, preT]; rw [pre_snoc l b]
theorem cnt_snoc : ∀ (l : List Bool) (b : Bool), cntF (l ++ [b]) = cntF l + (if b then 0 else 1)
  | [], true => rfl
  | [], false => rfl
  | true :: l, b => by simp only [List.cons_append, cntF]; exact cnt_snoc l b
  | false :: l, b => by simp only [List.cons_append, cntF]; rw [cnt_snoc l b]; omega
theorem pre_len : ∀ (l : List Bool), (preT l).length = l.length
  | [] => rfl
  | true :: l => by simp [preT, pre_len l]
  | false :: l => by simp [preT, pre_len l]
theorem cnt_le : ∀ (l : List Bool), cntF l ≤ l.length
  | [] => Nat.le_refl _
  | true :: l => by have := cnt_le l; simp [cntF]; omega
  | false :: l => by have := cnt_le l; simp [cntF]; omega
theorem nest_text : ∀ (l : List Bool), preT l ++ ([97] ++ List.replicate (cntF l) 41) = nestT l
  | [] => rfl
  | true :: l => by simp only [preT, nestT, cntF, List.cons_append]; rw [← nest_text l]; rfl
  | false :: l => by
    simp only [preT, nestT, cntF, List.cons_append]
    rw [← nest_text l, List.replicate_succ']
    simp
theorem leaf_a : Leaf [97] 3 ⟨#[97]⟩ := leaf_word (by decide) (by decide) (by kernel_rfl)
theorem nest_wr : ∀ (l : List Bool) (p : Nat), Wr p (nestD p l) (nestT l)
  | [], p => .leaf leaf_a
  | true :: l, p => by
    have := Wr.quote (p := p) (g := []) Gap.nil (nest_wr l (p + 1))
    simpa [nestT, nestD] using this
  | false :: l, p => by
    have h := Wrs.cons (p := p + 1) (g := []) Gap.nil (nest_wr l (p + 1)) (.nil Gap.nil) NoSign.nil
    have := Wr.list h
    simpa [nestT, nestD] using this
theorem nest_dep : ∀ (l : List Bool) (p : Nat), (nestD p l).dep = l.length
  | [], p => rfl
  | true :: l, p => by simp [nestD, Dt.dep, Dt.deps, nest_dep l]; omega
  | false :: l, p => by simp [nestD, Dt.dep, Dt.deps, nest_dep l]; omega
theorem rd_nest (l : List Bool) (h : l.length ≤ 60) : ∃ n, rd (nestT l) n .next 0 ⟨0, false, []⟩ [] = some (.ok [nestD 0 l]) := by
  have h1 := Wrs.cons (p := 0) (g := []) Gap.nil (nest_wr l 0) (.nil Gap.nil) NoSign.nil
  simp only [List.nil_append, List.append_nil, List.length_nil, Nat.zero_add] at h1
  exact rd_wrs h1 (by simp [Dt.deps, nest_dep]; omega)
/-- So many that are opened. -/
theorem rch_opens {s : List UInt8} : ∀ (l : List Bool) (p : Nat) (rest : List UInt8) (e : En) (r : List En), s.drop p = preT l ++ rest → r.length + l.length ≤ 60 → ∃ e' r', Rch s .next p e r .next (p + l.length) e' r' ∧ r'.length = r.length + l.length
  | [], p, rest, e, r, _, _ => ⟨e, r, Rch.refl _ _ _ _ _, rfl⟩
  | b :: l, p, rest, e, r, hs, hr => by
    have hs1 : s.drop p = (if b then 39 else 40) :: (preT l ++ rest) := by rw [hs]; cases b <;> rfl
    have h1 := rch_open hs1 (by cases b <;> simp) e r (by simp at hr; omega)
    obtain ⟨e', r', h2, h3⟩ := rch_opens (s := s) l (p + 1) rest _ (e :: r) (drop_next hs1) (by simp at hr ⊢; omega)
    refine ⟨e', r', ?_, by rw [h3]; simp; omega⟩
    have h4 := h1.trans h2
    rw [show p + (b :: l).length = p + 1 + l.length by simp; omega]
    exact h4
theorem rd_deep (l : List Bool) (h : 60 < l.length) (rest : List UInt8) : ∃ n, rd (preT l ++ rest) n .next 0 ⟨0, false, []⟩ [] = some (.err 6 60) := by
  obtain ⟨x, y, rfl, hx⟩ : ∃ x y, l = x ++ y ∧ x.length = 60 := ⟨l.take 60, l.drop 60, (List.take_append_drop _ _).symm, by simp; omega⟩
  have hp : ∀ (x y : List Bool), preT (x ++ y) = preT x ++ preT y := by
    intro x y
    induction x with
    | nil => rfl
    | cons b x ih => cases b <;> simp [preT, ih]
  rw [hp, List.append_assoc]
  obtain ⟨e', r', ⟨k, h1⟩, h2⟩ := rch_opens (s := preT x ++ (preT y ++ rest)) x 0 (preT y ++ rest) ⟨0, false, []⟩ [] rfl (by simp; omega)
  rw [hx, Nat.zero_add] at h1
  have hy : ∃ c z, preT y ++ rest = c :: z ∧ (c = 40 ∨ c = 39) := by
    cases y with
    | nil => simp at h; omega
    | cons b y => cases b <;> simp [preT]
  obtain ⟨c, z, hy, hc⟩ := hy
  have hd : (preT x ++ (preT y ++ rest)).drop 60 = c :: z := by
    rw [← hx, ← pre_len x, List.drop_left, hy]
  obtain ⟨k2, h3⟩ := rch_next (e := e') (r := r') hd (gap_no (by rcases hc with rfl | rfl <;> decide))
  rw [if_pos hc] at h3
  refine ⟨1 + k2 + k, h1 _ _ (h3 1 _ ?_)⟩
  unfold rd
  rw [get_drop hd]
  simp only
  rw [if_pos (by rw [h2, hx]; rfl)]
end Go.Proofs.YtkjcbaikebdmmaaDoor
