/- Names by numbers; what a made term is. -/
import Derived.Test.YtmcgocbkjdacaaaDoorZB
import Derived.Test.YtmcgocbkjdacaaaDoorSH
namespace Go.Proofs.YtmcgocbkjdacaaaDoor
open Go.RowKit Go.BigM
set_option linter.unusedVariables false
set_option linter.unusedSimpArgs false
/-- A number's digits. -/
def dgn (n : Nat) : List UInt8 := if h : n < 10 then [UInt8.ofNat (48 + n)] else dgn (n / 10) ++ [UInt8.ofNat (48 + n % 10)]
theorem dgn_small (n : Nat) (h : n < 10) : dgn n = [UInt8.ofNat (48 + n)] := by unfold dgn; rw [dif_pos h]
theorem dgn_big (n : Nat) (h : ¬ n < 10) : dgn n = dgn (n / 10) ++ [UInt8.ofNat (48 + n % 10)] := by conv => lhs; unfold dgn; rw [dif_neg h]
theorem dg_nat (k : Nat) (h : k < 10) : (UInt8.ofNat (48 + k)).toNat = 48 + k := by
  rw [UInt8.toNat_ofNat']; omega
theorem dval_dgn (n : Nat) : dval (dgn n) = n := by
  induction n using Nat.strongRecOn with
  | ind n ih =>
    by_cases h : n < 10
    · have := dval_snoc [] (UInt8.ofNat (48 + n))
      rw [dgn_small n h]
      simp only [List.nil_append] at this
      rw [this, dg_nat n h]
      have h0 : dval [] = 0 := rfl
      rw [h0]; omega
    · rw [dgn_big n h, dval_snoc, ih (n / 10) (by omega), dg_nat _ (Nat.mod_lt _ (by decide))]; omega
theorem dgn_len (k : Nat) : ∀ n, n < 10 ^ (k + 1) → (dgn n).length ≤ k + 1 := by
  induction k with
  | zero => intro n h; rw [dgn_small n (by simpa using h)]; simp
  | succ k ih =>
    intro n h
    by_cases h1 : n < 10
    · rw [dgn_small n h1]; simp
    · rw [dgn_big n h1, List.length_append]
      have := ih (n / 10) (by rw [Nat.pow_succ] at h; omega)
      simp only [List.length_singleton]; omega
/-- The name with a number. -/
def nm (n : Nat) : ByteArray := ⟨(118 :: 46 :: dgn n).toArray⟩
theorem nm_inj {a b : Nat} (h : nm a = nm b) : a = b := by
  unfold nm at h
  have h1 := congrArg (fun (x : ByteArray) => x.data.toList) h
  simp only [List.cons.injEq, true_and] at h1
  rw [← dval_dgn a, ← dval_dgn b, h1]
theorem nm_ne (n : Nat) : nm n ≠ ⟨#[]⟩ := by
  intro h
  have h1 := congrArg (fun (x : ByteArray) => x.data.toList) h
  unfold nm at h1
  simp at h1
theorem nm_size (n : Nat) (h : n ≤ 1000000) : (nm n).size ≤ 20 := by
  have := dgn_len 9 n (by omega)
  unfold nm
  simp only [ByteArray.size, List.size_toArray, List.length_cons]; omega
/-- The names from one number on to another. -/
def nms (m m' : Nat) : List ByteArray := (List.range' (m + 1) (m' - m)).map nm
theorem nms_self (m : Nat) : nms m m = [] := by simp [nms]
theorem nms_succ (m m' : Nat) (h : m ≤ m') : nms m (m' + 1) = nms m m' ++ [nm (m' + 1)] := by
  unfold nms
  rw [show m' + 1 - m = (m' - m) + 1 by omega, List.range'_concat, List.map_append]
  simp
  congr 1; omega
theorem nms_append (a b c : Nat) (h1 : a ≤ b) (h2 : b ≤ c) : nms a b ++ nms b c = nms a c := by
  unfold nms
  rw [← List.map_append]
  congr 1
  have := List.range'_append_1 (s := a + 1) (m := b - a) (n := c - b)
  rw [show a + 1 + (b - a) = b + 1 by omega, show b - a + (c - b) = c - a by omega] at this
  exact this
theorem nms_mem {m m' : Nat} {s : ByteArray} (h : s ∈ nms m m') : ∃ j, m < j ∧ j ≤ m' ∧ s = nm j := by
  unfold nms at h
  obtain ⟨j, hj, rfl⟩ := List.mem_map.1 h
  rw [List.mem_range'_1] at hj
  exact ⟨j, by omega, by omega, rfl⟩
theorem nms_once (m m' : Nat) : Once (nms m m') := by
  refine ⟨fun s hs => ?_, ?_⟩
  · obtain ⟨j, _, _, rfl⟩ := nms_mem hs; exact nm_ne j
  · unfold nms
    exact List.pairwise_map.2 ((List.nodup_range' (step := 1) (by decide)).imp fun h e => h (nm_inj e))
theorem nms_len (m m' : Nat) : (nms m m').length = m' - m := by simp [nms]
/-- Names that stand for something: short ones, none empty. -/
def Good (sc : List ByteArray) : Prop := ∀ s ∈ sc, s ≠ ⟨#[]⟩ ∧ s.size ≤ 100
theorem Good.nms {m m' : Nat} (h : m' ≤ 1000000) : Good (nms m m') := fun s hs => by
  obtain ⟨j, _, hj, rfl⟩ := nms_mem hs
  exact ⟨nm_ne j, Nat.le_trans (nm_size j (by omega)) (by decide)⟩
theorem Good.append {a b : List ByteArray} (h : Good a) (k : Good b) : Good (a ++ b) := fun s hs => (List.mem_append.1 hs).elim (h s) (k s)
/-- A made term: right, what is free in it is there, it binds the names between two numbers, in order. -/
structure Made (sc : List ByteArray) (m m' : Nat) (e : Et) : Prop where
  right : e.right num = true
  free : ∀ s, e.fr s → s ∈ sc
  bnd : e.bnd = nms m m'
  le : m ≤ m'
  fine : e.fine
/-- Several, one behind the other. -/
structure MadeL (sc : List ByteArray) (m m' : Nat) (l : List Et) : Prop where
  right : Et.rights num l = true
  free : ∀ s, Et.frs s l → s ∈ sc
  bnd : Et.bnds l = nms m m'
  le : m ≤ m'
  fine : Et.fines l
theorem MadeL.nil (sc : List ByteArray) (m : Nat) : MadeL sc m m [] := ⟨rfl, fun s h => by simp [Et.frs] at h, by rw [nms_self]; rfl, Nat.le_refl _, trivial⟩
theorem frs_append (s : ByteArray) : ∀ (l m : List Et), Et.frs s (l ++ m) ↔ Et.frs s l ∨ Et.frs s m
  | [], m => by simp [Et.frs]
  | e :: l, m => by simp [Et.frs, frs_append s l m, or_assoc]
theorem MadeL.snoc {sc : List ByteArray} {a b c : Nat} {l : List Et} {e : Et} (h : MadeL sc a b l) (k : Made sc b c e) : MadeL sc a c (l ++ [e]) := by
  refine ⟨?_, fun s hs => ?_, ?_, Nat.le_trans h.le k.le, ?_⟩
  · rw [rights_append, h.right]; simp [Et.rights, k.right]
  · rcases (frs_append s l [e]).1 hs with hs | hs
    · exact h.free s hs
    · simp [Et.frs] at hs; exact k.free s hs
  · rw [bnds_append, h.bnd, ← nms_append a b c h.le k.le, ← k.bnd]; simp [Et.bnds]
  · rw [fines_all]
    intro x hx
    rcases List.mem_append.1 hx with hx | hx
    · exact (fines_all l).1 h.fine x hx
    · simp at hx; subst hx; exact k.fine
/-- A term made of parts, and of names that it binds itself. -/
theorem MadeL.node {sc ns : List ByteArray} {a b c : Nat} {l : List Et} {k : Int} {t : ByteArray} (h : MadeL (sc ++ ns) b c l) (hab : a ≤ b) (hns : ns = nms a b) (hb : b ≤ 1000000) (hn : ns.length ≤ 100) (ht : t.size ≤ 100) (hk : k ≠ 5)
    (hr : shapeB num k t ns l.length = true) : Made sc a c (.mk k t ns l) := by
  refine ⟨by rw [right_mk, hr, h.right]; rfl, fun s hs => ?_, ?_, Nat.le_trans hab h.le, ?_⟩
  · unfold Et.fr at hs
    rcases hs with ⟨h5, _⟩ | ⟨hf, hni⟩
    · exact absurd h5 hk
    · rcases List.mem_append.1 (h.free s hf) with h1 | h1
      · exact h1
      · exact absurd h1 hni
  · unfold Et.bnd
    rw [h.bnd, hns, nms_append a b c hab h.le]
  · rw [fine_mk]
    refine ⟨ht, hn, fun s hs => ?_, (fines_all l).1 h.fine⟩
    rw [hns] at hs
    exact (Good.nms hb s hs).2
theorem Made.leaf {sc : List ByteArray} {m : Nat} {k : Int} {t : ByteArray} (ht : t.size ≤ 100) (hk : k ≠ 5) (hr : shapeB num k t [] 0 = true) : Made sc m m (.mk k t [] []) := by
  refine ⟨by rw [right_mk]; simpa [Et.rights] using hr, fun s hs => ?_, by unfold Et.bnd; rw [nms_self]; rfl, Nat.le_refl _, by rw [fine_mk]; exact ⟨ht, by simp, by simp, by simp⟩⟩
  unfold Et.fr at hs
  rcases hs with ⟨h5, _⟩ | ⟨hf, _⟩
  · exact absurd h5 hk
  · simp [Et.frs] at hf
theorem Made.var {sc : List ByteArray} {m : Nat} {s : ByteArray} (hg : Good sc) (hs : s ∈ sc) : Made sc m m (.mk 5 s [] []) := by
  have h1 := hg s hs
  refine ⟨?_, fun x hx => ?_, by unfold Et.bnd; rw [nms_self]; rfl, Nat.le_refl _, by rw [fine_mk]; exact ⟨h1.2, by simp, by simp, by simp⟩⟩
  · rw [right_mk]
    simp [shapeB, textB, namesB, partsB, Et.rights, isEmpty_ne h1.1]
  · unfold Et.fr at hx
    rcases hx with ⟨_, rfl⟩ | ⟨hf, _⟩
    · exact hs
    · simp [Et.frs] at hf
theorem Made.mono {sc sc' : List ByteArray} {m m' : Nat} {e : Et} (h : Made sc m m' e) (k : ∀ s ∈ sc, s ∈ sc') : Made sc' m m' e := ⟨h.right, fun s hs => k s (h.free s hs), h.bnd, h.le, h.fine⟩
end Go.Proofs.YtmcgocbkjdacaaaDoor
