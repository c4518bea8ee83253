/- Numbers, and what leads to them. -/
import Derived.Test.YtjecjlnkpbbanaaG4
import Derived.Test.YtjecjlnkpbbanaaZN
namespace Go.Proofs.Ytjecjlnkpbbanaa
open Go Go.RowKit
set_option linter.unusedVariables false
set_option linter.unusedSimpArgs false
theorem gcR_poss' {os : List Ob} (dp : Nat) (rs : List Int) : poss os dp [] rs = gcR os dp rs := by
  unfold poss gcR allD
  apply List.map_congr_left
  intro r hr
  obtain ⟨E, hE⟩ := lead_ext os dp (vis os dp [] rs) 0 os.length
  rw [Nat.zero_add] at hE
  rw [hE]
  show _ = ((pos os (vis os dp [] rs ++ E) (shortO os dp r) : Nat) : Int)
  rw [pos_app _ ((vis_mem os dp rs [] _).2 (.inr ⟨r, hr, rfl⟩))]
def PR : Nat → List Ob
  | 0 => []
  | i + 1 => (PR i ++ [newO 1 [] [((i : Nat) : Int)]]) ++ [newO 5 [((4 * i : Nat) : Int)] []]
theorem PR_total : ∀ i, total (PR i) = 4 * i
  | 0 => rfl
  | i + 1 => by
    have h1 : (newO 1 [] [((i : Nat) : Int)]).size = 2 := rfl
    have h2 : (newO 5 [((4 * i : Nat) : Int)] []).size = 2 := rfl
    show total ((PR i ++ [newO 1 [] [((i : Nat) : Int)]]) ++ [newO 5 [((4 * i : Nat) : Int)] []]) = _
    rw [total_append, total_append, PR_total i]
    simp only [total]; omega
theorem PR_mid (i : Nat) : total (PR i ++ [newO 1 [] [((i : Nat) : Int)]]) = 4 * i + 2 := by
  rw [total_append, PR_total]; rfl
theorem PR_ob : ∀ k i, i < k → ob (PR k) ((4 * i : Nat) : Int) = some (newO 1 [] [((i : Nat) : Int)]) ∧ ob (PR k) ((4 * i + 2 : Nat) : Int) = some (newO 5 [((4 * i : Nat) : Int)] [])
  | 0, i, h => by omega
  | k + 1, i, h => by
    by_cases e : i < k
    · obtain ⟨h1, h2⟩ := PR_ob k i e
      exact ⟨ob_more (ob_more h1 _) _, ob_more (ob_more h2 _) _⟩
    · obtain rfl : i = k := by omega
      refine ⟨ob_more ?_ _, ?_⟩
      · rw [← PR_total i]; exact ob_last _ _
      · rw [← PR_mid i]; exact ob_last _ _
theorem PR_short {k : Nat} (hc : Closed (PR k)) (hk : Oks (PR k)) {j : Nat} (hj : j < 2 * k) : Vd (PR k) ((2 * j : Nat) : Int) ∧ shortO (PR k) 1 ((2 * j : Nat) : Int) = ((4 * (j / 2) : Nat) : Int) := by
  have hi : j / 2 < k := by omega
  obtain ⟨h1, h2⟩ := PR_ob k (j / 2) hi
  have hp : ∀ a, endO (PR k) a = ((4 * (j / 2) : Nat) : Int) → shortO (PR k) 1 a = ((4 * (j / 2) : Nat) : Int) := by
    intro a he
    rw [shortO_succ, he, if_neg (by rw [hdo_tag h1]; simp [newO])]
  rcases Nat.mod_two_eq_zero_or_one j with e | e
  · have ej : 2 * j = 4 * (j / 2) := by omega
    rw [ej]
    exact ⟨⟨_, h1⟩, hp _ (endO_self h1 (by simp [newO]))⟩
  · have ej : 2 * j = 4 * (j / 2) + 2 := by omega
    rw [ej]
    refine ⟨⟨_, h2⟩, hp _ ?_⟩
    have hn : nxt (PR k) ((4 * (j / 2) + 2 : Nat) : Int) = some ((4 * (j / 2) : Nat) : Int) := by rw [nxt_some_tag h2 rfl]; rfl
    have hf := fol_step hc hk ⟨_, h2⟩ hn
    rw [fol_self h1 (by simp [newO])] at hf
    unfold endO
    rw [hf, if_neg (by omega)]
def ph4 (F : List Nat) : List Int := F.map fun f => ((4 * f : Nat) : Int)
def addF (F : List Nat) (h : Nat) : List Nat := if h ∈ F then F else F ++ [h]
def idx : List Nat → Nat → Nat
  | [], _ => 0
  | f :: F, h => if f = h then 0 else idx F h + 1
theorem mem_ph4 {F : List Nat} {h : Nat} : ((4 * h : Nat) : Int) ∈ ph4 F ↔ h ∈ F := by
  unfold ph4
  constructor
  · intro hm
    obtain ⟨f, hf, e⟩ := List.mem_map.1 hm
    have : f = h := by omega
    rw [← this]; exact hf
  · exact fun hm => List.mem_map.2 ⟨h, hm, rfl⟩
theorem addD_ph4 (F : List Nat) (h : Nat) : addD (ph4 F) ((4 * h : Nat) : Int) = ph4 (addF F h) := by
  unfold addD addF
  by_cases e : h ∈ F
  · rw [if_pos e, if_pos (mem_ph4.2 e)]
  · rw [if_neg e, if_neg (fun h2 => e (mem_ph4.1 h2))]
    unfold ph4; rw [List.map_append]; rfl
theorem PR_sz {k f : Nat} (hf : f < k) : sz (PR k) ((4 * f : Nat) : Int) = 2 := by
  obtain ⟨h1, _⟩ := PR_ob k f hf
  unfold sz; rw [ptrsOf_ob h1, numsOf_ob h1, newO_ptrs, newO_nums]; rfl
theorem PR_pos {k : Nat} : ∀ (F : List Nat), (∀ f ∈ F, f < k) → ∀ h, pos (PR k) (ph4 F) ((4 * h : Nat) : Int) = 2 * idx F h
  | [], _, h => rfl
  | f :: F, hF, h => by
    have ih := PR_pos F (fun x hx => hF x (by simp [hx])) h
    unfold ph4 at ih ⊢
    simp only [List.map_cons, pos, idx, ih, PR_sz (hF f (by simp))]
    by_cases e : f = h
    · rw [if_pos (by omega), if_pos e]
    · rw [if_neg (by omega), if_neg e]; omega
theorem PR_sm {k : Nat} : ∀ (F : List Nat), (∀ f ∈ F, f < k) → sm (sz (PR k)) (ph4 F) = 2 * F.length
  | [], _ => rfl
  | f :: F, hF => by
    have ih := PR_sm F (fun x hx => hF x (by simp [hx]))
    unfold ph4 at ih ⊢
    simp only [List.map_cons, sm, ih, PR_sz (hF f (by simp)), List.length_cons]; omega
theorem idx_none : ∀ {F : List Nat} {h : Nat}, h ∉ F → idx F h = F.length
  | [], _, _ => rfl
  | f :: F, h, hn => by
    simp only [List.mem_cons, not_or] at hn
    simp only [idx, if_neg (Ne.symm hn.1), idx_none hn.2, List.length_cons]
theorem idx_at : ∀ {F : List Nat} {h i : Nat}, F[i]? = some h → (∀ j, j < i → F[j]? ≠ some h) → idx F h = i
  | [], h, i, e, _ => by cases e
  | f :: F, h, 0, e, _ => by
    simp at e; simp [idx, e]
  | f :: F, h, i + 1, e, hn => by
    have h0 : f ≠ h := fun e2 => hn 0 (by omega) (by simp [e2])
    simp only [idx, if_neg h0]
    rw [idx_at (F := F) (i := i) (by simpa using e) (fun j hj => by have := hn (j + 1) (by omega); simpa using this)]
theorem idx_search {F : List Nat} {h i : Nat} (hi : i ≤ F.length) (hn : ∀ j, j < i → F[j]? ≠ some h) (he : i = F.length ∨ F[i]? = some h) : i = idx F h ∧ (i = F.length ↔ h ∉ F) := by
  rcases he with e | e
  · have hnot : h ∉ F := fun hm => by
      obtain ⟨j, hj, e2⟩ := List.getElem_of_mem hm
      exact hn j (by omega) (by rw [List.getElem?_eq_getElem hj, e2])
    exact ⟨by rw [idx_none hnot, e], ⟨fun _ => hnot, fun _ => e⟩⟩
  · have hl := (List.getElem?_eq_some_iff.1 e).1
    refine ⟨(idx_at e hn).symm, ⟨fun e2 => by omega, fun hnot => absurd ?_ hnot⟩⟩
    obtain ⟨_, e3⟩ := List.getElem?_eq_some_iff.1 e
    rw [← e3]; exact List.getElem_mem _
/-- What is known of the roots so far. -/
structure Rt (k : Nat) (R : List Int) (W : List Int) (F : List Nat) : Prop where
  rv : ∀ r ∈ R, ∃ j : Nat, j < 2 * k ∧ r = ((2 * j : Nat) : Int)
  vis : vis (PR k) 1 [] R = ph4 F
  want : W = poss (PR k) 1 [] R
  lt : ∀ f ∈ F, f < k
theorem Rt.start (k : Nat) : Rt k [] [] [] := ⟨by simp, rfl, rfl, by simp⟩
theorem Rt.more {k : Nat} (hc : Closed (PR k)) (hk : Oks (PR k)) {R W : List Int} {F : List Nat} (h : Rt k R W F) {j : Nat} (hj : j < 2 * k) : Rt k (R ++ [((2 * j : Nat) : Int)]) (W ++ [((2 * idx F (j / 2) : Nat) : Int)]) (addF F (j / 2)) := by
  obtain ⟨_, hs⟩ := PR_short hc hk hj
  refine ⟨fun r hr => ?_, ?_, ?_, fun f hf => ?_⟩
  · rcases List.mem_append.1 hr with h1 | h1
    · exact h.rv r h1
    · exact ⟨j, hj, List.mem_singleton.1 h1⟩
  · rw [vis_snoc, h.vis, hs, addD_ph4]
  · rw [poss_snoc, ← h.want, h.vis, hs, PR_pos F h.lt]
  · unfold addF at hf
    split at hf
    · exact h.lt f hf
    · rcases List.mem_append.1 hf with h1 | h1
      · exact h.lt f h1
      · rw [List.mem_singleton.1 h1]; omega
theorem Rt.vds {k : Nat} (hc : Closed (PR k)) (hk : Oks (PR k)) {R W : List Int} {F : List Nat} (h : Rt k R W F) : ∀ r ∈ R, Vd (PR k) r := fun r hr => by
  obtain ⟨j, hj, rfl⟩ := h.rv r hr
  exact (PR_short hc hk hj).1
theorem Rt.all {k : Nat} {R W : List Int} {F : List Nat} (h : Rt k R W F) : allD (PR k) 1 R = ph4 F := by
  have key : ∀ n, lead (PR k) 1 (Go.Proofs.Ytjecjlnkpbbanaa.vis (PR k) 1 [] R) n = ph4 F := fun n => by
    induction n with
    | zero => exact h.vis
    | succ n ih =>
      by_cases hl : n < (lead (PR k) 1 (Go.Proofs.Ytjecjlnkpbbanaa.vis (PR k) 1 [] R) n).length
      · rw [lead_some hl]
        have hm2 : ∀ x ∈ lead (PR k) 1 (Go.Proofs.Ytjecjlnkpbbanaa.vis (PR k) 1 [] R) n, x ∈ ph4 F := fun x hx => by rw [ih] at hx; exact hx
        obtain ⟨f, hf, e⟩ := List.mem_map.1 (hm2 _ (List.getElem_mem hl))
        have e2 : ptrsOf (PR k) (lead (PR k) 1 (Go.Proofs.Ytjecjlnkpbbanaa.vis (PR k) 1 [] R) n)[n] = [] := by
          have e3 : (lead (PR k) 1 (Go.Proofs.Ytjecjlnkpbbanaa.vis (PR k) 1 [] R) n)[n] = ((4 * f : Nat) : Int) := e.symm
          rw [e3, ptrsOf_ob (PR_ob k f (h.lt f hf)).1, newO_ptrs]
        rw [e2]; exact ih
      · rw [lead_none (by omega)]; exact ih
  exact key _
theorem Rt.gc {k : Nat} (hc : Closed (PR k)) (hk : Oks (PR k)) {R W : List Int} {F : List Nat} (h : Rt k R W F) : gcR (PR k) 1 R = W ∧ total (gcO (PR k) 1 R) = 2 * F.length ∧ ∀ (i f : Nat), F[i]? = some f → numsOf (gcO (PR k) 1 R) ((2 * i : Nat) : Int) = [(f : Int)] := by
  have hr := h.vds hc hk
  have hall := h.all
  refine ⟨by rw [h.want]; exact (gcR_poss' 1 R).symm, by rw [gcO_total, hall, PR_sm F h.lt], fun i f hi => ?_⟩
  have hnd := (allD_good hc hk 1 hr).1
  rw [hall] at hnd
  have hm : ((4 * f : Nat) : Int) ∈ allD (PR k) 1 R := by
    rw [hall]; exact mem_ph4.2 (by obtain ⟨_, e⟩ := List.getElem?_eq_some_iff.1 hi; rw [← e]; exact List.getElem_mem _)
  have hfk : f < k := h.lt f (by obtain ⟨_, e⟩ := List.getElem?_eq_some_iff.1 hi; rw [← e]; exact List.getElem_mem _)
  have hp : ph (PR k) 1 R ((4 * f : Nat) : Int) = ((2 * i : Nat) : Int) := by
    unfold ph
    rw [hall, PR_pos F h.lt]
    have : idx F f = i := idx_at hi (fun j hj e => by
      have hnF : F.Nodup := by
        unfold ph4 at hnd
        exact (List.pairwise_map.1 hnd).imp (fun h e => h (by rw [e]))
      obtain ⟨h1, e1⟩ := List.getElem?_eq_some_iff.1 e
      obtain ⟨h2, e2⟩ := List.getElem?_eq_some_iff.1 hi
      exact List.pairwise_iff_getElem.1 hnF j i h1 h2 hj (by rw [e1, e2]))
    rw [this]
  have := (gc_ptrs hc hk 1 hr hm).2.1
  rw [hp, numsOf_ob (PR_ob k f hfk).1, newO_nums] at this
  exact this
end Go.Proofs.Ytjecjlnkpbbanaa
