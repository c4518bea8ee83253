/- The contract of plus. -/
import Derived.Test.YtebadokchhnmfaaDoorD2
import Derived.Test.YtebadokchhnmfaaDoorS2
import Derived.Deep.RegionHeld3
import Derived.Deep.MidRow
import Derived.KernelRfl
namespace Go.Proofs.YtebadokchhnmfaaDoor
open Go.RowKit Go.BigM
set_option linter.unusedVariables false

/-- Limbs as a list of cells; a number as a list of cells. -/
def Uc (l : List Nat) : List Value := l.map fun (n : Nat) => Value.int .u32 (n : Int)
def Nc (b : Bool) (l : List Nat) : List Value := Value.bool b :: l.map fun (n : Nat) => Value.int .u32 (n : Int)
theorem Uc_len (l : List Nat) : (Uc l).length = l.length := by simp [Uc]
theorem Nc_len (b : Bool) (l : List Nat) : (Nc b l).length = l.length + 1 := by simp [Nc]
theorem U_eq (l : List Nat) : U l = (Uc l).toArray := rfl
theorem Nm_eq (b : Bool) (l : List Nat) : Nm b l = (Nc b l).toArray := rfl

/-- What lies in the block of a number. -/
theorem NRow.range {w : World} {g : Nat} {b : Bool} {l : List Nat} (h : NRow w g b l) : w.rangeAt g 1 (Uc l) := by
  intro j v hv
  have hj : j < l.length := by have := (List.getElem?_eq_some_iff.1 hv).1; rwa [Uc_len] at this
  rw [h.cells l.length (Nat.le_refl _) j hj, ← hv]
  have := U_get l j hj
  rw [← this, U_eq, List.getElem?_toArray]
theorem NRow.there {w : World} {g : Nat} {b : Bool} {l : List Nat} (h : NRow w g b l) (hl : l.length = 46) : w.there g 0 47 := by
  intro j hj
  refine ⟨?_, h.free _⟩
  rw [cell_of_row w g _ _ _ _ h, Array.getElem?_eq_getElem (by rw [Nm_size]; omega)]; rfl
theorem Nc_one (b : Bool) (l : List Nat) : ∀ v ∈ Nc b l, v.oneCell' = true := by
  intro v hv
  have := Nm_one b l
  rw [Nm_eq] at this
  exact (Array.all_eq_true_iff_forall_mem.1 this) v (by simpa using hv)
/-- A whole number stored cell by cell. -/
theorem NRow.setCells {w : World} {g : Nat} {b : Bool} {l : List Nat} (h : NRow w g b l) (hl : l.length = 46) (b' : Bool) (l' : List Nat) (hl' : l'.length = 46) : w.setCells g 0 (Nc b' l') = w.setRow g (Nm b' l') := by
  have e1 := run_storeVar_mid (P := Tryd.prog) w g 0 49 (Nm b' l') (by rw [Nm_size, hl']; exact h.there hl) (by rw [Nm_size, hl']; exact info49) (Nm_one b' l')
  have e2 := run_storeVar_row (P := Tryd.prog) w g 49 49 (Nm b l) (Nm b' l') h (by rw [Nm_size, hl']; exact info49) (by rw [Nm_size, Nm_size, hl, hl']) (Nm_one b' l')
  rw [e1] at e2
  injection e2

theorem set_all (off : Nat) : ∀ (vs : List Value) (k : Nat) (cs : Array Value) (i : Nat), off + k + vs.length ≤ cs.size →
    ((vs.zipIdx k).foldl (fun (cs : Array Value) (x : Value × Nat) => cs.setIfInBounds (off + x.2) x.1) cs)[i]? = if off + k ≤ i ∧ i < off + k + vs.length then vs[i - (off + k)]? else cs[i]?
  | [], k, cs, i, _ => by
    simp; intros; omega
  | v :: vs, k, cs, i, h => by
    simp only [List.length_cons] at h
    rw [List.zipIdx_cons, List.foldl_cons, set_all off vs (k + 1) _ i (by simp; omega)]
    by_cases h1 : off + (k + 1) ≤ i ∧ i < off + (k + 1) + vs.length
    · rw [if_pos h1, if_pos (by simp only [List.length_cons]; omega)]
      obtain ⟨n, hn⟩ : ∃ n, i - (off + k) = n + 1 := ⟨i - (off + k) - 1, by omega⟩
      rw [hn, List.getElem?_cons_succ]; congr 1; omega
    · rw [if_neg h1]
      by_cases h2 : i = off + k
      · subst h2
        rw [if_pos (by simp only [List.length_cons]; omega), Nat.sub_self]
        rw [Array.getElem?_setIfInBounds_self_of_lt (by omega)]; rfl
      · rw [if_neg (by simp only [List.length_cons]; omega), Array.getElem?_setIfInBounds_ne (by omega)]
theorem built_is (l : List (Nat × Value)) : Tryd.prog.built 49 l = Instr.fill (fun x => (#[(0, 1), (1, 46)] : Array (Nat × Nat))[x]?) (Nm false Z46) l := by kernel_rfl
theorem fill_limbs (b : Bool) (S : List Nat) (hS : S.length = 46) : ((U S).zipIdx.foldl (fun cs (c, j) => cs.setIfInBounds (1 + j) c) (Nm b Z46)) = Nm b S := by
  have h := set_all 1 (Uc S) 0 (Nm b Z46)
  apply Array.ext_getElem?
  intro i
  have e : (U S).zipIdx.foldl (fun cs (c, j) => cs.setIfInBounds (1 + j) c) (Nm b Z46) = ((Uc S).zipIdx 0).foldl (fun (cs : Array Value) (x : Value × Nat) => cs.setIfInBounds (1 + x.2) x.1) (Nm b Z46) := by
    rw [← Array.foldl_toList, Array.toList_zipIdx]; rfl
  rw [e, h i (by rw [Uc_len, Nm_size, hS]; decide)]
  rw [Uc_len, hS]
  by_cases h0 : i = 0
  · subst h0; simp [Nm]
  · by_cases h1 : i < 47
    · rw [if_pos (by omega)]
      obtain ⟨n, rfl⟩ : ∃ n, i = 1 + n := ⟨i - 1, by omega⟩
      rw [Nm_get b S n (by omega), ← U_get S n (by omega), U_eq, List.getElem?_toArray]
      congr 1; omega
    · rw [if_neg (by omega), Array.getElem?_eq_none (by rw [Nm_size, Z46_len]; omega), Array.getElem?_eq_none (by rw [Nm_size, hS]; omega)]
theorem fill_sign (b : Bool) : (Value.cells (.bool b)).zipIdx.foldl (fun cs (c, j) => cs.setIfInBounds (0 + j) c) (Nm false Z46) = Nm b Z46 := by cases b <;> rfl
theorem built_pair (b : Bool) (S : List Nat) (hS : S.length = 46) : Tryd.prog.built 49 [(0, .bool b), (1, .agg (U S))] = some (Nm b S) := by
  rw [built_is]
  have h1 : (Value.cells (.bool b)).size = 1 := rfl
  have h2 : (Value.cells (.agg (U S))).size = 46 := by show (U S).size = 46; rw [U_size, hS]
  have h3 : (Nm false Z46).size = 47 := by rw [Nm_size, Z46_len]
  have h4 : (Nm b Z46).size = 47 := by rw [Nm_size, Z46_len]
  simp only [Instr.fill]
  rw [show (#[(0, 1), (1, 46)] : Array (Nat × Nat))[0]? = some (0, 1) from rfl, show (#[(0, 1), (1, 46)] : Array (Nat × Nat))[1]? = some (1, 46) from rfl]
  simp only [h1, h3, fill_sign]
  simp only [h2, h4]
  have := fill_limbs b S hS
  rw [show (Value.agg (U S)).cells = U S from rfl, this]
  simp
theorem run_pair (b : Bool) (S : List Nat) (hS : S.length = 46) (w : World) : (Instr.build 49 #[(0, .bool b), (1, .agg (U S))]).run Tryd.prog w = .ok (.agg (Nm b S)) w :=
  run_build w 49 _ _ (built_pair b S hS)
end Go.Proofs.YtebadokchhnmfaaDoor
