/- A ring of pairs. -/
import Derived.Test.YtjecjlnkpbbanaaG4
namespace Go.Proofs.Ytjecjlnkpbbanaa
set_option linter.unusedVariables false
set_option linter.unusedSimpArgs false
def trio (f : Nat → Nat) (j : Nat) : Ob := newO 2 [((3 * j : Nat) : Int), (f j : Int)] []
def tri (f : Nat → Nat) (n : Nat) : List Ob := (List.range n).map (trio f)
theorem tri_len (f : Nat → Nat) (n : Nat) : (tri f n).length = n := by simp [tri]
theorem tri_snoc (f : Nat → Nat) (n : Nat) : tri f (n + 1) = tri f n ++ [trio f n] := by unfold tri; rw [List.range_succ, List.map_append]; rfl
theorem tri_total (f : Nat → Nat) : ∀ n, total (tri f n) = 3 * n
  | 0 => rfl
  | n + 1 => by rw [tri_snoc, total_append, tri_total f n]; simp only [total]; have : (trio f n).size = 3 := rfl; omega
theorem tri_at (f : Nat → Nat) (n i : Nat) (h : i < n) : (tri f n)[i]? = some (trio f i) := by
  unfold tri; rw [List.getElem?_map, List.getElem?_range h]; rfl
theorem tri_take (f : Nat → Nat) (n i : Nat) (h : i ≤ n) : (tri f n).take i = tri f i := by
  unfold tri; rw [← List.map_take, List.take_range, Nat.min_eq_left h]
theorem tri_adr (f : Nat → Nat) (n i : Nat) (h : i ≤ n) : adr (tri f n) i = 3 * i := by unfold adr; rw [tri_take f n i h, tri_total]
theorem tri_loc (f : Nat → Nat) (n i : Nat) (h : i < n) : loc (tri f n) ((3 * i : Nat) : Int) = some i := by
  rw [← tri_adr f n i (Nat.le_of_lt h)]; exact loc_adr _ i (by rw [tri_len]; exact h)
theorem tri_ob (f : Nat → Nat) (n i : Nat) (h : i < n) : ob (tri f n) ((3 * i : Nat) : Int) = some (trio f i) := by
  rw [ob_loc (tri_loc f n i h)]
  have := tri_at f n i h
  rw [List.getElem?_eq_some_iff] at this
  obtain ⟨_, h2⟩ := this
  rw [h2]
theorem tri_ptrs (f : Nat → Nat) (n i : Nat) (h : i < n) : ptrsOf (tri f n) ((3 * i : Nat) : Int) = [((3 * i : Nat) : Int), (f i : Int)] := by rw [ptrsOf_ob (tri_ob f n i h)]; exact newO_ptrs _ _ _
theorem tri_nums (f : Nat → Nat) (n i : Nat) (h : i < n) : numsOf (tri f n) ((3 * i : Nat) : Int) = [] := by rw [numsOf_ob (tri_ob f n i h)]; exact newO_nums _ _ _
theorem tri_set (f : Nat → Nat) (n i : Nat) (h : i < n) (v : Nat) : upd (tri f n) i (fun o => setO o ((1 : Int)).toNat (v : Int)) = tri (fun j => if j = i then v else f j) n := by
  have hl : i < (tri f n).length := by rw [tri_len]; exact h
  rw [upd_eq hl]
  have e := tri_at f n i h
  rw [List.getElem?_eq_some_iff] at e
  obtain ⟨_, e⟩ := e
  rw [e]
  have e2 : setO (trio f i) ((1 : Int)).toNat (v : Int) = trio (fun j => if j = i then v else f j) i := by
    unfold trio
    rw [show ((1 : Int)).toNat = 1 from rfl, newO_set _ _ _ _ _ (by simp)]
    simp
  rw [e2]
  apply List.ext_getElem?
  intro k
  rw [List.getElem?_set]
  by_cases hk : k < n
  · rw [tri_at (fun j => if j = i then v else f j) n k hk]
    by_cases e3 : i = k
    · subst e3; rw [if_pos rfl, if_pos hl]
    · rw [if_neg e3, tri_at f n k hk]
      unfold trio; simp [Ne.symm e3]
  · rw [List.getElem?_eq_none (by rw [tri_len]; omega), if_neg (by omega), List.getElem?_eq_none (by rw [tri_len]; omega)]
def rnx (k j : Nat) : Nat := 3 * ((j + 1) % k)
def nod (k a j : Nat) : Int := ((3 * ((a + j) % k) : Nat) : Int)
theorem mod_inj {k a i j : Nat} (hi : i < k) (hj : j < k) (h : (a + i) % k = (a + j) % k) : i = j := by
  have key : ∀ i j, i < j → j < k → (a + i) % k ≠ (a + j) % k := by
    intro i j hij hj e
    have h1 := Nat.div_add_mod (a + i) k
    have h2 := Nat.div_add_mod (a + j) k
    rw [e] at h1
    have h3 : k * ((a + j) / k) = k * ((a + i) / k) + (j - i) := by omega
    rcases Nat.lt_or_ge ((a + i) / k) ((a + j) / k) with h4 | h4
    · have := Nat.mul_le_mul_left k h4
      rw [Nat.mul_succ] at this
      omega
    · have := Nat.mul_le_mul_left k h4
      omega
  rcases Nat.lt_trichotomy i j with h1 | h1 | h1
  · exact absurd h (key i j h1 hj)
  · exact h1
  · exact absurd h.symm (key j i h1 hi)
theorem nod_inj {k a i j : Nat} (hi : i < k) (hj : j < k) (h : nod k a i = nod k a j) : i = j := mod_inj (a := a) hi hj (by unfold nod at h; omega)
theorem nod_next (k a j : Nat) (hk : 0 < k) : ((rnx k ((a + j) % k) : Nat) : Int) = nod k a (j + 1) := by
  unfold rnx nod
  rw [Nat.mod_add_mod]; rfl
theorem ring_ob {k : Nat} (hk : 0 < k) (a j : Nat) : ob (tri (rnx k) k) (nod k a j) = some (trio (rnx k) ((a + j) % k)) := tri_ob _ _ _ (Nat.mod_lt _ hk)
theorem ring_ptrs {k : Nat} (hk : 0 < k) (a j : Nat) : ptrsOf (tri (rnx k) k) (nod k a j) = [nod k a j, nod k a (j + 1)] := by
  rw [← nod_next k a j hk]; exact tri_ptrs _ _ _ (Nat.mod_lt _ hk)
theorem ring_short {k : Nat} (hk : 0 < k) (a j d : Nat) : shortO (tri (rnx k) k) d (nod k a j) = nod k a j := short_plain (ring_ob hk a j) (by simp [trio, newO]) (by simp [trio, newO]) d
theorem nod_round {k : Nat} (hk : 0 < k) (a : Nat) : nod k a k = nod k a 0 := by unfold nod; rw [Nat.add_mod_right, Nat.add_zero]
theorem ring_lead {k : Nat} (hk : 0 < k) (a d : Nat) : ∀ j, lead (tri (rnx k) k) d [nod k a 0] j = (List.range (min (j + 1) k)).map (nod k a)
  | 0 => by rw [show min (0 + 1) k = 1 by omega]; rfl
  | j + 1 => by
    have ih := ring_lead hk a d j
    by_cases hj : j < k
    · have e1 : min (j + 1) k = j + 1 := by omega
      rw [e1] at ih
      have hl : j < (lead (tri (rnx k) k) d [nod k a 0] j).length := by rw [ih]; simp
      have e2 : (lead (tri (rnx k) k) d [nod k a 0] j)[j] = nod k a j := by simp only [ih, List.getElem_map, List.getElem_range]
      rw [lead_some hl, e2, ring_ptrs hk, ih]
      simp only [vis, ring_short hk]
      have m1 : nod k a j ∈ (List.range (j + 1)).map (nod k a) := List.mem_map.2 ⟨j, by simp, rfl⟩
      rw [show addD ((List.range (j + 1)).map (nod k a)) (nod k a j) = (List.range (j + 1)).map (nod k a) from if_pos m1]
      by_cases hj2 : j + 1 < k
      · rw [show min (j + 1 + 1) k = j + 1 + 1 by omega, List.range_succ (n := j + 1), List.map_append]
        refine if_neg fun hm => ?_
        obtain ⟨i, hi, e⟩ := List.mem_map.1 hm
        have := List.mem_range.1 hi
        have := nod_inj (show i < k by omega) hj2 e
        omega
      · have e3 : j + 1 = k := by omega
        rw [show min (j + 1 + 1) k = j + 1 by omega]
        refine if_pos ?_
        rw [e3, nod_round hk]
        exact List.mem_map.2 ⟨0, by simp; omega, rfl⟩
    · rw [show min (j + 1 + 1) k = k by omega]
      rw [show min (j + 1) k = k by omega] at ih
      rw [lead_none (by rw [ih]; simp; omega), ih]
theorem ring_all {k : Nat} (hk : 0 < k) (a d : Nat) : allD (tri (rnx k) k) d [nod k a 0] = (List.range k).map (nod k a) := by
  unfold allD
  have e : vis (tri (rnx k) k) d [] [nod k a 0] = [nod k a 0] := by simp only [vis, ring_short hk]; rfl
  rw [e, tri_len, ring_lead hk, show min (k + 1) k = k by omega]
theorem ring_pos {k : Nat} (hk : 0 < k) (a : Nat) : ∀ n i, i < n → n ≤ k → pos (tri (rnx k) k) ((List.range n).map (nod k a)) (nod k a i) = 3 * i ∧ sm (sz (tri (rnx k) k)) ((List.range n).map (nod k a)) = 3 * n
  | 0, i, h, _ => by omega
  | n + 1, i, h, hn => by
    have hs : ∀ j, sz (tri (rnx k) k) (nod k a j) = 3 := fun j => by
      unfold sz; rw [ring_ptrs hk, numsOf_ob (ring_ob hk a j)]; rfl
    have hsm : sm (sz (tri (rnx k) k)) ((List.range n).map (nod k a)) = 3 * n := by
      cases n with
      | zero => rfl
      | succ n => exact (ring_pos hk a (n + 1) 0 (by omega) (by omega)).2
    rw [List.range_succ, List.map_append, sm_app, hsm]
    simp only [List.map_cons, List.map_nil, sm, hs]
    refine ⟨?_, by omega⟩
    by_cases e : i < n
    · rw [pos_app _ (List.mem_map.2 ⟨i, List.mem_range.2 e, rfl⟩)]
      exact (ring_pos hk a n i e (by omega)).1
    · obtain rfl : i = n := by omega
      rw [pos_end [] (fun hm => by
        obtain ⟨j, hj, e2⟩ := List.mem_map.1 hm
        have := List.mem_range.1 hj
        have := nod_inj (show j < k by omega) (show i < k by omega) e2
        omega), hsm]
theorem ring_gc {k : Nat} (hk : 0 < k) (a d : Nat) : gcO (tri (rnx k) k) d [nod k a 0] = tri (rnx k) k ∧ gcR (tri (rnx k) k) d [nod k a 0] = [0] := by
  have hall := ring_all hk a d
  have hp : ∀ i, i < k → ph (tri (rnx k) k) d [nod k a 0] (nod k a i) = ((3 * i : Nat) : Int) := fun i hi => by
    unfold ph; rw [hall, (ring_pos hk a k i hi (Nat.le_refl _)).1]
  refine ⟨?_, ?_⟩
  · apply List.ext_getElem?
    intro i
    by_cases hi : i < k
    · have l1 : i < (allD (tri (rnx k) k) d [nod k a 0]).length := by rw [hall]; simpa using hi
      have l2 : i < (gcO (tri (rnx k) k) d [nod k a 0]).length := by rw [gcO_len]; exact l1
      rw [List.getElem?_eq_getElem l2, gcO_at d _ i l1 l2, tri_at _ _ _ hi]
      have e : (allD (tri (rnx k) k) d [nod k a 0])[i] = nod k a i := by simp only [hall, List.getElem_map, List.getElem_range]
      rw [e, ring_ptrs hk, numsOf_ob (ring_ob hk a i), hdo_tag (ring_ob hk a i)]
      simp only [List.map_cons, List.map_nil, ring_short hk]
      rw [hp i hi]
      have e2 : ph (tri (rnx k) k) d [nod k a 0] (nod k a (i + 1)) = ((rnx k i : Nat) : Int) := by
        have er : rnx k i = 3 * ((i + 1) % k) := rfl
        rw [er]
        by_cases h2 : i + 1 < k
        · rw [hp (i + 1) h2, Nat.mod_eq_of_lt h2]
        · have e3 : i + 1 = k := by omega
          rw [e3, nod_round hk, hp 0 hk, Nat.mod_self]
      rw [e2]; rfl
    · rw [List.getElem?_eq_none (by rw [gcO_len, hall]; simp; omega), List.getElem?_eq_none (by rw [tri_len]; omega)]
  · have h0 := hp 0 hk
    unfold gcR
    simp only [List.map_cons, List.map_nil, ring_short hk]
    unfold ph at h0
    rw [h0]; rfl
theorem gc_nothing (os : List Ob) (d : Nat) : gcO os d [] = [] := by
  have : ∀ k, lead os d [] k = [] := fun k => by
    induction k with
    | zero => rfl
    | succ k ih => rw [lead_none (by rw [ih]; simp), ih]
  have e : allD os d [] = [] := this _
  unfold gcO
  rw [e]; rfl
end Go.Proofs.Ytjecjlnkpbbanaa
