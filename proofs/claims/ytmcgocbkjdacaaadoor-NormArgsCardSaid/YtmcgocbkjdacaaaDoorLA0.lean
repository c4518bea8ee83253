/- What NormArgs norms: arguments that are atoms, or are none. -/
import Derived.Test.YtmcgocbkjdacaaaDoorLK
namespace Go.Proofs.YtmcgocbkjdacaaaDoor
open Go.RowKit Go.BigM
set_option linter.unusedVariables false
set_option linter.unusedSimpArgs false
def onot : Et := .mk 10 ⟨#[110, 111, 116]⟩ [] [ko]
def pt (b : Bool) : Et := if b then onot else ko
def thk : List Bool → Nat
  | [] => 0
  | false :: l => thk l
  | true :: l => thk l + 1
/-- The names that stand for the arguments. -/
def nml : Nat → List Bool → List ByteArray
  | _, [] => []
  | m, false :: l => ⟨#[49]⟩ :: nml m l
  | m, true :: l => pn (m + 1) :: nml (m + 1) l
def bod : Nat → List Bool → List Et
  | _, [] => []
  | m, false :: l => ko :: bod m l
  | m, true :: l => evar (pn (m + 1)) :: bod (m + 1) l
def vls : Nat → List Bool → List (ByteArray × Et)
  | _, [] => []
  | m, false :: l => vls m l
  | m, true :: l => (pn (m + 1), onot) :: vls (m + 1) l
theorem thk_snoc (b : Bool) : ∀ l, thk (l ++ [b]) = thk l + (if b then 1 else 0)
  | [] => by cases b <;> rfl
  | false :: l => by simp only [List.cons_append, thk, thk_snoc b l]
  | true :: l => by simp only [List.cons_append, thk, thk_snoc b l]; omega
theorem nml_snoc (b : Bool) : ∀ (l : List Bool) (m : Nat), nml m (l ++ [b]) = nml m l ++ [if b then pn (m + thk l + 1) else ⟨#[49]⟩]
  | [], m => by cases b <;> rfl
  | false :: l, m => by simp only [List.cons_append, nml, thk, nml_snoc b l m]
  | true :: l, m => by
    simp only [List.cons_append, nml, thk, nml_snoc b l (m + 1)]
    rw [show m + 1 + thk l + 1 = m + (thk l + 1) + 1 by omega]
theorem nml_len : ∀ (l : List Bool) (m : Nat), (nml m l).length = l.length
  | [], _ => rfl
  | false :: l, m => by simp only [nml, List.length_cons, nml_len l m]
  | true :: l, m => by simp only [nml, List.length_cons, nml_len l (m + 1)]
theorem thk_le : ∀ l : List Bool, thk l ≤ l.length
  | [] => Nat.le_refl _
  | false :: l => by have := thk_le l; simp only [thk, List.length_cons]; omega
  | true :: l => by have := thk_le l; simp only [thk, List.length_cons]; omega
theorem vls_len : ∀ (l : List Bool) (m : Nat), (vls m l).length = thk l
  | [], _ => rfl
  | false :: l, m => vls_len l m
  | true :: l, m => by simp only [vls, thk, List.length_cons, vls_len l (m + 1)]
theorem vls_get : ∀ (l : List Bool) (m j : Nat) (h : j < (vls m l).length), (vls m l)[j] = (pn (m + j + 1), onot)
  | [], m, j, h => by simp [vls] at h
  | false :: l, m, j, h => vls_get l m j h
  | true :: l, m, 0, h => rfl
  | true :: l, m, j + 1, h => by
    simp only [vls, List.getElem_cons_succ]
    rw [vls_get l (m + 1) j (by simpa [vls] using h), show m + 1 + j + 1 = m + (j + 1) + 1 by omega]
theorem ko_nrm (n : Nat) : ko.nrm n = (n, ko) := by unfold ko; rw [nrm_mk, nrms_nil]; rfl
theorem onot_nrm (n : Nat) : onot.nrm n = (n, onot) := by
  unfold onot
  rw [nrm_mk, nrms_cons]
  simp [nrms_nil, ko_nrm, slot, lets, Lib.toList_data]
theorem bs_nrms (k : Int) (t : ByteArray) : ∀ (l : List Bool) (m i : Nat), (∀ j, i ≤ j → slot k t j = true) → Et.nrms k t m i (l.map pt) = (m + thk l, bod m l, vls m l)
  | [], m, i, _ => by simp only [List.map_nil, nrms_nil, thk, bod, vls, Nat.add_zero]
  | false :: l, m, i, h => by
    have e1 : ko.atom = true := by decide
    have e2 := bs_nrms k t l m (i + 1) (fun j hj => h j (by omega))
    rw [List.map_cons, nrms_cons, show pt false = ko from rfl, ko_nrm]
    simp only [e1, Bool.not_true, Bool.and_false, Bool.false_eq_true, if_false, e2, thk, bod, vls]
  | true :: l, m, i, h => by
    have e1 : onot.atom = false := by decide
    have e2 := bs_nrms k t l (m + 1) (i + 1) (fun j hj => h j (by omega))
    rw [List.map_cons, nrms_cons, show pt true = onot from rfl, onot_nrm]
    simp only [e1, h i (Nat.le_refl _), Bool.not_false, Bool.and_self, if_true, e2, thk, bod, vls]
    rw [show m + 1 + thk l = m + (thk l + 1) by omega]
/-- The term that is made: of f, or of cons. -/
def atm (c : Bool) (l : List Bool) : Et := if c then .mk 10 ⟨#[99, 111, 110, 115]⟩ [] (l.map pt) else .mk 7 ⟨#[]⟩ [] (kf :: l.map pt)
def abd (c : Bool) (l : List Bool) : Et := if c then .mk 10 ⟨#[99, 111, 110, 115]⟩ [] (bod 0 l) else .mk 7 ⟨#[]⟩ [] (kf :: bod 0 l)
theorem atm_nrm (c : Bool) (l : List Bool) : ((atm c l).nrm 0).2 = lets (vls 0 l) (abd c l) := by
  cases c with
  | true =>
    show ((Et.mk 10 ⟨#[99, 111, 110, 115]⟩ [] (l.map pt)).nrm 0).2 = _
    rw [nrm_mk, bs_nrms 10 _ l 0 0 (fun j _ => by simp [slot, Lib.toList_data])]
    rfl
  | false =>
    show ((Et.mk 7 ⟨#[]⟩ [] (kf :: l.map pt)).nrm 0).2 = _
    have e1 : kf.nrm 0 = (0, kf) := by unfold kf evar; rw [nrm_mk, nrms_nil]; rfl
    have e2 : slot 7 ⟨#[]⟩ 0 = false := by simp [slot]
    rw [nrm_mk, nrms_cons, e1, e2]
    simp only [Bool.false_and, Bool.false_eq_true, if_false]
    rw [bs_nrms 7 _ l 0 1 (fun j hj => by simp [slot, hj])]
    rfl
theorem bod_wrs : ∀ (l : List Bool) (m : Nat), l ≠ [] → Et.wrs true (bod m l) = 32 :: jn (nml m l)
  | [], _, h => absurd rfl h
  | [false], m, _ => by simp [bod, nml, Et.wrs, jn, ko, wr_mk]
  | [true], m, _ => by simp [bod, nml, Et.wrs, jn, evar, wr_mk]
  | false :: b :: l, m, _ => by
    have h := bod_wrs (b :: l) m (by simp)
    have e : ∃ s r, nml m (b :: l) = s :: r := by cases b <;> exact ⟨_, _, rfl⟩
    obtain ⟨s, r, e⟩ := e
    rw [show bod m (false :: b :: l) = ko :: bod m (b :: l) from rfl, show nml m (false :: b :: l) = ⟨#[49]⟩ :: nml m (b :: l) from rfl]
    simp only [Et.wrs, h]
    rw [e]
    simp [jn, ko, wr_mk]
  | true :: b :: l, m, _ => by
    have h := bod_wrs (b :: l) (m + 1) (by simp)
    have e : ∃ s r, nml (m + 1) (b :: l) = s :: r := by cases b <;> exact ⟨_, _, rfl⟩
    obtain ⟨s, r, e⟩ := e
    rw [show bod m (true :: b :: l) = evar (pn (m + 1)) :: bod (m + 1) (b :: l) from rfl, show nml m (true :: b :: l) = pn (m + 1) :: nml (m + 1) (b :: l) from rfl]
    simp only [Et.wrs, h]
    rw [e]
    simp [jn, evar, wr_mk]
/-- The text of what is left, by the names' row. -/
theorem abd_wr (c : Bool) (l : List Bool) (h : l ≠ []) : (abd c l).wr = (if c then [40, 99, 111, 110, 115, 32] else [40, 102, 32]) ++ jn (nml 0 l) ++ [41] := by
  have h1 := bod_wrs l 0 h
  cases c with
  | true =>
    show (Et.mk 10 ⟨#[99, 111, 110, 115]⟩ [] (bod 0 l)).wr = _
    rw [wr_mk]
    simp [h1]
  | false =>
    show (Et.mk 7 ⟨#[]⟩ [] (kf :: bod 0 l)).wr = _
    rw [wr_mk]
    simp [Et.wrs, h1, kf, evar, wr_mk]
theorem ko_fine : ko.fine := by unfold ko; rw [fine_mk]; exact ⟨by decide, by simp, by simp, by simp⟩
theorem kf_fine : kf.fine := by unfold kf evar; rw [fine_mk]; exact ⟨by decide, by simp, by simp, by simp⟩
theorem onot_fine : onot.fine := by unfold onot; rw [fine_mk]; exact ⟨by decide, by simp, by simp, by simp; exact ko_fine⟩
theorem pt_fine (b : Bool) : (pt b).fine := by cases b; exact ko_fine; exact onot_fine
theorem atm_fine (c : Bool) (l : List Bool) : (atm c l).fine := by
  cases c with
  | true =>
    show (Et.mk 10 ⟨#[99, 111, 110, 115]⟩ [] (l.map pt)).fine
    rw [fine_mk]
    refine ⟨by decide, by simp, by simp, fun e he => ?_⟩
    obtain ⟨b, _, rfl⟩ := List.mem_map.1 he
    exact pt_fine b
  | false =>
    show (Et.mk 7 ⟨#[]⟩ [] (kf :: l.map pt)).fine
    rw [fine_mk]
    refine ⟨by decide, by simp, by simp, fun e he => ?_⟩
    rcases List.mem_cons.1 he with rfl | he
    · exact kf_fine
    · obtain ⟨b, _, rfl⟩ := List.mem_map.1 he
      exact pt_fine b
theorem pts_sizes : ∀ l : List Bool, Et.sizes (l.map pt) ≤ 2 * l.length
  | [] => by simp [Et.sizes]
  | b :: l => by
    have h := pts_sizes l
    have h2 : (pt b).size ≤ 2 := by cases b <;> decide
    simp only [List.map_cons, Et.sizes, List.length_cons]; omega
theorem atm_size (c : Bool) (l : List Bool) : (atm c l).size ≤ 2 * l.length + 2 := by
  have h := pts_sizes l
  cases c with
  | true => show (Et.mk 10 ⟨#[99, 111, 110, 115]⟩ [] (l.map pt)).size ≤ _; simp only [Et.size]; omega
  | false =>
    have h1 : kf.size = 1 := by decide
    show (Et.mk 7 ⟨#[]⟩ [] (kf :: l.map pt)).size ≤ _; simp only [Et.size, Et.sizes, h1]; omega
theorem ko_right : ko.right num = true := by
  have hn : num ⟨#[49]⟩ = true := by decide
  simp [ko, right_mk, Et.rights, shapeB, textB, namesB, partsB, Lib.toList_data, hn]
theorem bod_right : ∀ (l : List Bool) (m : Nat), ∀ e ∈ bod m l, e.right num = true
  | [], _, e, he => by simp [bod] at he
  | false :: l, m, e, he => by
    rcases List.mem_cons.1 he with rfl | he
    · exact ko_right
    · exact bod_right l m e he
  | true :: l, m, e, he => by
    rcases List.mem_cons.1 he with rfl | he
    · exact evar_right _
    · exact bod_right l (m + 1) e he
end Go.Proofs.YtmcgocbkjdacaaaDoor
