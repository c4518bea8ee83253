/- A drawn region whose last operations may turn what its loads read: a condition on the world that need hold only till one of those comes up. -/
import Derived.Test.YtjecjlnkpbbanaaProg
import Derived.Deep.RegionHeld
namespace Go
section
variable {P : Program} {ops : Array Oper} {Q : Exit → Act → World → Prop} {md : Region.Mode} {S : World → Prop} {late : Nat → Bool}
/-- Whatever comes up: behind a late operation nothing is known any more, behind each other one S holds. -/
def wpAnyL (P : Program) (md : Region.Mode) (ops : Array Oper) (Q : Exit → Act → World → Prop) (S : World → Prop) (late : Nat → Bool) : Nat → Array Bool → Act → World → Prop
  | 0, listed, a, w => Region.ready md ops listed = [] ∧ Q .normal a w
  | n + 1, listed, a, w =>
    (Region.ready md ops listed = [] → Q .normal a w) ∧
    ∀ i ∈ Region.ready md ops listed, wpOp P ops Q i (fun b v => (late i = true ∧ wpAny P md ops Q n (listed.setIfInBounds i true) b v) ∨ (late i = false ∧ S v ∧ wpAnyL P md ops Q S late n (listed.setIfInBounds i true) b v)) a w
theorem wpAnyL.any : ∀ {n : Nat} {listed : Array Bool} {a : Act} {w : World}, wpAnyL P md ops Q S late n listed a w → wpAny P md ops Q n listed a w
  | 0, _, _, _, h => h
  | _ + 1, _, _, _, h => ⟨h.1, fun i hi => wpOp_mono (fun _ _ h => by
      rcases h with h | h
      · exact h.2
      · exact h.2.2.any) (h.2 i hi)⟩
/-- B: operations that are not listed and wait, at last, for number i; the late ones are among them. -/
def waitsB (md : Region.Mode) (ops : Array Oper) (late : Nat → Bool) (B : List Nat) (listed : Array Bool) (i : Nat) : Bool :=
  !late i && (List.range ops.size).all (fun j => !late j || B.contains j) && B.all (fun k => !listed.getD k true && (match ops[k]? with | some o => o.after.any fun e => Region.binds md e && (e.on == i || B.contains e.on) | none => false))
def Waits (md : Region.Mode) (ops : Array Oper) (B : List Nat) (listed : Array Bool) (i : Nat) : Prop := ∀ k ∈ B, listed.getD k true = false ∧ ∀ o, ops[k]? = some o → ∃ e ∈ o.after, Region.binds md e = true ∧ (e.on = i ∨ e.on ∈ B)
theorem waits_spec {B : List Nat} {listed : Array Bool} {i : Nat} (h : waitsB md ops late B listed i = true) : late i = false ∧ (∀ j oj, ops[j]? = some oj → late j = true → j ∈ B) ∧ Waits md ops B listed i := by
  unfold waitsB at h
  simp only [Bool.and_eq_true] at h
  obtain ⟨⟨h1, h2⟩, h3⟩ := h
  refine ⟨by simpa using h1, fun j oj hj hl => ?_, fun k hk => ?_⟩
  · have h4 := List.all_eq_true.1 h2 j (List.mem_range.2 (Array.getElem?_eq_some_iff.1 hj).1)
    rw [hl] at h4
    simpa using h4
  · have h4 := List.all_eq_true.1 h3 k hk
    rw [Bool.and_eq_true] at h4
    refine ⟨by simpa using h4.1, fun o ho => ?_⟩
    have h5 := h4.2
    rw [ho] at h5
    obtain ⟨e, he, h6⟩ := Array.any_eq_true'.1 h5
    rw [Bool.and_eq_true, Bool.or_eq_true, beq_iff_eq] at h6
    exact ⟨e, he, h6.1, h6.2.imp id (fun h => by simpa using h)⟩
theorem wpAnyL_pull {i : Nat} {oi : Oper} {v : Value} (hi : ops[i]? = some oi) (hsel : Region.noSelect ops = true) (hQ : ∀ c a w, Q (.panic c) (a.put oi.dst v) w → Q (.panic c) a w) (hli : late i = false) {B : List Nat} (hlB : ∀ j oj, ops[j]? = some oj → late j = true → j ∈ B) :
    ∀ (n : Nat) (listed : Array Bool) (a : Act) (w : World),
      (∀ j oj, ops[j]? = some oj → j ≠ i → listed.getD j true = false → (∀ e ∈ oj.after, Region.binds md e = true → e.on ≠ i) → oi.apart ops oj = true) →
      i ∈ Region.ready md ops listed → Waits md ops B listed i → YieldsIf P ops S oi v a → S w →
      wpAnyL P md ops Q S late n (listed.setIfInBounds i true) (a.put oi.dst v) w → wpAnyL P md ops Q S late (n + 1) listed a w
  | n, listed, a, w, hfree, hr, hwt, hy, hS, H => by
    refine ⟨fun h => (by rw [h] at hr; cases hr), fun j hj => ?_⟩
    by_cases hji : j = i
    · rw [hji]
      exact hy.wpOp hi hS (.inr ⟨hli, hS, H⟩)
    · obtain ⟨hun, oj, hoj, hall⟩ := mem_ready.1 hj
      have hnot : ∀ e ∈ oj.after, Region.binds md e = true → e.on ≠ i := fun e he hb heq => by
        have h1 := hall e he hb
        have h0 := (mem_ready.1 hr).1
        rw [heq] at h1
        rcases Nat.lt_or_ge i listed.size with h' | h'
        · simp [h'] at h0 h1; rw [h0] at h1; cases h1
        · simp [Array.getElem?_eq_none h'] at h1
      have hnB : j ∉ B := fun h => by
        obtain ⟨_, h2⟩ := hwt j h
        obtain ⟨e, he, hb, h3⟩ := h2 oj hoj
        rcases h3 with h3 | h3
        · exact hnot e he hb h3
        · have h4 := (hwt _ h3).1
          have h5 := hall e he hb
          rcases Nat.lt_or_ge e.on listed.size with h' | h'
          · simp [h'] at h4 h5; rw [h4] at h5; cases h5
          · simp [Array.getElem?_eq_none h'] at h4
      have hlj : late j = false := by
        cases h : late j with
        | false => rfl
        | true => exact absurd (hlB j oj hoj h) hnB
      have hj2 := ready_mono hj hji
      cases n with
      | zero =>
        rw [H.1] at hj2
        cases hj2
      | succ n =>
        have h2 := wpOp_putIf hoj (hfree j oj hoj hji hun hnot) (fun cs b => Region.noSelect_spec hsel i oi cs b hi) (fun cs b => Region.noSelect_spec hsel j oj cs b hoj) hQ hy (H.2 j hj2)
        refine wpOp_mono (fun b u h3 => .inr ⟨hlj, ?_⟩) h2
        obtain ⟨h4, h5⟩ := h3
        rcases h5 with h5 | h5
        · rw [hlj] at h5; cases h5.1
        · refine ⟨h5.2.1, wpAnyL_pull hi hsel hQ hli hlB n (listed.setIfInBounds j true) b u (fun k ok hk hki hun2 hno => ?_) (ready_mono hr (Ne.symm hji)) (fun k hk => ⟨?_, (hwt k hk).2⟩) h4 h5.2.1 ?_⟩
          · refine hfree k ok hk hki ?_ hno
            by_cases hjk : j = k
            · subst hjk; exact hun
            · rw [getD_set_ne true hjk] at hun2; exact hun2
          · rw [getD_set_ne true (fun e => hnB (by rw [e]; exact hk))]; exact (hwt k hk).1
          · rw [Array.setIfInBounds_comm _ _ hji]
            exact h5.2.2
theorem wpAnyL_take {i : Nat} {oi : Oper} {v : Value} {n : Nat} {listed : Array Bool} {a : Act} {w : World} (hi : ops[i]? = some oi)
    (hs : Region.noSelect ops = true) (hf : Region.free md ops listed i = true) (hr : (Region.ready md ops listed).contains i = true) {B : List Nat} (hw : waitsB md ops late B listed i = true)
    (hQ : ∀ c a w, Q (.panic c) (a.put oi.dst v) w → Q (.panic c) a w) (hy : YieldsIf P ops S oi v a) (hS : S w)
    (h : wpAnyL P md ops Q S late n (listed.setIfInBounds i true) (a.put oi.dst v) w) : wpAnyL P md ops Q S late (n + 1) listed a w :=
  wpAnyL_pull hi hs hQ (waits_spec hw).1 (waits_spec hw).2.1 n listed a w (Region.free_spec hi hf) (by simpa using hr) (waits_spec hw).2.2 hy hS h
theorem wpAnyL_done {n : Nat} {listed : Array Bool} {a : Act} {w : World} (hr : Region.ready md ops listed = []) (h : Q .normal a w) : wpAnyL P md ops Q S late n listed a w := by
  cases n with
  | zero => exact ⟨hr, h⟩
  | succ n => exact ⟨fun _ => h, by rw [hr]; simp⟩
/-- Each of these comes up next. -/
def AllL (P : Program) (md : Region.Mode) (ops : Array Oper) (Q : Exit → Act → World → Prop) (S : World → Prop) (late : Nat → Bool) (n : Nat) (listed : Array Bool) (a : Act) (w : World) (rs : List Nat) : Prop :=
  ∀ i ∈ rs, wpOp P ops Q i (fun b v => (late i = true ∧ wpAny P md ops Q n (listed.setIfInBounds i true) b v) ∨ (late i = false ∧ S v ∧ wpAnyL P md ops Q S late n (listed.setIfInBounds i true) b v)) a w
theorem wpAnyL_ready {rs : List Nat} {n : Nat} {listed : Array Bool} {a : Act} {w : World} (hr : Region.ready md ops listed = rs) (hne : rs ≠ [])
    (h : AllL P md ops Q S late n listed a w rs) : wpAnyL P md ops Q S late (n + 1) listed a w := ⟨fun h0 => absurd (hr ▸ h0) hne, hr ▸ h⟩
theorem AllL.nil {n : Nat} {listed : Array Bool} {a : Act} {w : World} : AllL P md ops Q S late n listed a w [] := fun _ h => by cases h
theorem AllL.cons {n : Nat} {listed : Array Bool} {a : Act} {w : World} {i : Nat} {o : Oper} {rs : List Nat} (ho : ops[i]? = some o) (hl : late i = false)
    (h : ∀ K' : Act → World → Prop, Shut (∀ a w, S w → (S w → wpAnyL P md ops Q S late n (listed.setIfInBounds i true) a w) → K' a w) → if Region.wanted o (yielded ops a.tmps) = true then Oper.wp P o a w K' Q else K' (a.put o.dst undef) w)
    (hs : AllL P md ops Q S late n listed a w rs) : AllL P md ops Q S late n listed a w (i :: rs) := fun j hj => by
  rcases List.mem_cons.1 hj with e | hj
  · rw [e]; exact wpOp_step ho (fun K' hK => h K' (fun a w hS hW => hK a w (.inr ⟨hl, hS, hW hS⟩)))
  · exact hs j hj
/-- A late one: what follows goes under another condition. -/
theorem AllL.last {S2 : World → Prop} {n : Nat} {listed : Array Bool} {a : Act} {w : World} {i : Nat} {o : Oper} {rs : List Nat} (ho : ops[i]? = some o) (hl : late i = true)
    (h : ∀ K' : Act → World → Prop, Shut (∀ a w, S2 w → (S2 w → wpAnyH P md ops Q S2 n (listed.setIfInBounds i true) a w) → K' a w) → if Region.wanted o (yielded ops a.tmps) = true then Oper.wp P o a w K' Q else K' (a.put o.dst undef) w)
    (hs : AllL P md ops Q S late n listed a w rs) : AllL P md ops Q S late n listed a w (i :: rs) := fun j hj => by
  rcases List.mem_cons.1 hj with e | hj
  · rw [e]; exact wpOp_step ho (fun K' hK => h K' (fun a w hS hW => hK a w (.inl ⟨hl, wpAny_of_held _ _ _ _ (hW hS)⟩)))
  · exact hs j hj
theorem wp_region_late {id : Nat} {a : Act} {w : World} (late : Nat → Bool) (hm : P.follows .mixedOrders = true) (hS : S w.drew)
    (h : S w.drew → wpAnyL P .any ops Q S late ops.size (Array.replicate ops.size false) a w.drew) : (Code.region id ops true).wp P Q a w :=
  wp_region_any hm (h hS).any
end
end Go
