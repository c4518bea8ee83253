/- A region whose order is drawn, by what each operation leaves: one proof an operation, whatever the order. -/
import Derived.Test.YtmcgocbkjdacaaaDoorZA
import Derived.Deep.RegionHeld
import Derived.Below
namespace Go.Proofs.YtmcgocbkjdacaaaDoor
open Go.RowKit
set_option linter.unusedVariables false
set_option linter.unusedSimpArgs false
section
variable {P : Program} {ops : Array Oper} {Q : Exit → Act → World → Prop} {md : Region.Mode}
/-- Each edge leads to an operation ahead. -/
def aheadB (ops : Array Oper) : Bool := (List.range ops.size).all fun i => ((ops[i]?).map fun o => o.after.all fun e => decide (e.on < i)).getD true
theorem all_listed (hb : aheadB ops = true) {listed : Array Bool} (hs : listed.size = ops.size) (hr : Region.ready md ops listed = []) : ∀ j, j < ops.size → listed.getD j false = true := by
  intro j
  induction j using Nat.strongRecOn with
  | ind j ih =>
    intro hj
    cases hl : listed.getD j false with
    | true => rfl
    | false =>
      exfalso
      have hm : j ∈ Region.ready md ops listed := by
        refine mem_ready.2 ⟨?_, ops[j], by simp [hj], fun e he hbi => ?_⟩
        · have : j < listed.size := by omega
          simp only [Array.getD, this, dif_pos] at hl ⊢
          exact hl
        · have h1 := List.all_eq_true.1 hb j (List.mem_range.2 hj)
          rw [Array.getElem?_eq_getElem hj] at h1
          simp only [Option.map_some, Option.getD_some] at h1
          have h2 := Array.all_eq_true_iff_forall_mem.1 h1 e he
          have h3 : e.on < j := of_decide_eq_true h2
          exact ih e.on h3 (by omega)
      rw [hr] at hm
      cases hm
theorem wpAny_inv (hb : aheadB ops = true) (I : Array Bool → Act → World → Prop)
    (step : ∀ listed a w, I listed a w → listed.size = ops.size → ∀ i ∈ Region.ready md ops listed, wpOp P ops Q i (fun a' w' => I (listed.setIfInBounds i true) a' w') a w)
    (fin : ∀ listed a w, I listed a w → (∀ j, j < ops.size → listed.getD j false = true) → Q .normal a w) :
    ∀ (fuel : Nat) (listed : Array Bool) (a : Act) (w : World), listed.size = ops.size → listed.count false ≤ fuel → I listed a w → wpAny P md ops Q fuel listed a w
  | 0, listed, a, w, hs, hc, h => by
    have hr : Region.ready md ops listed = [] := by
      cases hx : Region.ready md ops listed with
      | nil => rfl
      | cons i l =>
        exfalso
        have hi := (mem_ready.1 (show i ∈ Region.ready md ops listed by rw [hx]; exact .head _)).1
        have hlt : i < listed.size := by
          rcases Nat.lt_or_ge i listed.size with h1 | h1
          · exact h1
          · simp [Array.getElem?_eq_none h1] at hi
        have h2 : false ∈ listed := by
          have : listed[i] = false := by simpa [hlt] using hi
          rw [← this]; exact Array.getElem_mem hlt
        have := Array.count_pos_iff.2 h2
        omega
    exact ⟨hr, fin _ _ _ h (all_listed hb hs hr)⟩
  | fuel + 1, listed, a, w, hs, hc, h => by
    refine ⟨fun hr => fin _ _ _ h (all_listed hb hs hr), fun i hi => ?_⟩
    refine wpOp_mono (fun a' w' h' => wpAny_inv hb I step fin fuel _ a' w' (by simpa using hs) ?_ h') (step listed a w h hs i hi)
    have hi2 := (mem_ready.1 hi).1
    have hlt : i < listed.size := by
      rcases Nat.lt_or_ge i listed.size with h1 | h1
      · exact h1
      · simp [Array.getElem?_eq_none h1] at hi2
    have h3 : listed[i] = false := by simpa [hlt] using hi2
    have h4 : false ∈ listed := by rw [← h3]; exact Array.getElem_mem hlt
    have h5 := Array.count_pos_iff.2 h4
    have h6 : (listed.setIfInBounds i true).count false = listed.count false - 1 := by
      simp only [Array.setIfInBounds, hlt, dif_pos]
      rw [Array.count_set]
      simp [h3]
    omega
/-- Slots as a function. -/
def slots (n : Nat) (ds : List Deferred) (f : Nat → Value) : Act := { tmps := ((List.range n).map f).toArray, defers := ds }
def upd (f : Nat → Value) (d : Option Nat) (v : Value) : Nat → Value := match d with | some k => fun j => if j = k then v else f j | none => f
def val (f : Nat → Value) (d : Option Nat) : Value := match d with | some k => f k | none => undef
theorem slots_put (n : Nat) (ds : List Deferred) (f : Nat → Value) (d : Option Nat) (v : Value) : (slots n ds f).put d v = slots n ds (upd f d v) := by
  cases d with
  | none => rfl
  | some k =>
    simp only [Act.put, slots, upd]
    congr 1
    apply Array.ext
    · simp
    · intro i h1 h2
      simp only [Array.size_setIfInBounds, List.size_toArray, List.length_map, List.length_range] at h1
      rw [Array.getElem_setIfInBounds (by simpa using h1)]
      simp only [List.getElem_toArray, List.getElem_map, List.getElem_range]
      by_cases e : k = i
      · subst e; simp
      · rw [if_neg e, if_neg (fun h => e h.symm)]
def noneB (ops : Array Oper) : Bool := ops.all fun o => o.guard.isNone
def dstB (ops : Array Oper) : Bool := (List.range ops.size).all fun i => (List.range ops.size).all fun j => decide (i = j) || decide (((ops[i]?).bind (·.dst)) ≠ ((ops[j]?).bind (·.dst))) || decide (((ops[i]?).bind (·.dst)) = none)
def outB (ops : Array Oper) (k : Nat) : Bool := ops.all fun o => decide (o.dst ≠ some k)
theorem dst_apart (hd : dstB ops = true) {i j : Nat} {oi oj : Oper} (hi : ops[i]? = some oi) (hj : ops[j]? = some oj) (hij : i ≠ j) {k : Nat} (hk : oi.dst = some k) : oj.dst ≠ some k := by
  have hil : i < ops.size := (Array.getElem?_eq_some_iff.1 hi).1
  have hjl : j < ops.size := (Array.getElem?_eq_some_iff.1 hj).1
  have h1 := List.all_eq_true.1 (List.all_eq_true.1 hd i (List.mem_range.2 hil)) j (List.mem_range.2 hjl)
  simp only [hi, hj, Option.bind_some, hk, Bool.or_eq_true, decide_eq_true_eq, hij, false_or, reduceCtorEq, or_false] at h1
  exact fun e => h1 e.symm
theorem val_upd (hd : dstB ops = true) {i j : Nat} {oi oj : Oper} (hi : ops[i]? = some oi) (hj : ops[j]? = some oj) (hij : i ≠ j) (f : Nat → Value) (v : Value) : val (upd f oi.dst v) oj.dst = val f oj.dst := by
  cases h : oi.dst with
  | none => rfl
  | some k =>
    have h2 := dst_apart hd hi hj hij h
    cases h3 : oj.dst with
    | none => rfl
    | some m =>
      rw [h3] at h2
      have : m ≠ k := fun e => h2 (by rw [e])
      simp [val, upd, this]
/-- **A drawn region without guards**: T j tells what operation j leaves, of its value and of all later worlds. -/
theorem wp_region_each {id : Nat} {a0 : Act} {w : World} (n : Nat) (ds : List Deferred) (f0 : Nat → Value) (T : Nat → Value → World → Prop)
    (hm : P.follows .mixedOrders = true) (hb : aheadB ops = true) (hg : noneB ops = true) (hd : dstB ops = true)
    (h0 : a0 = slots n ds f0)
    (mono : ∀ j v w1 w2, T j v w1 → Below w1.heap.size w1 w2 → T j v w2)
    (step : ∀ i o, ops[i]? = some o → ∀ (f : Nat → Value) (w1 : World), Below w.heap.size w w1 → (∀ k, outB ops k = true → f k = f0 k) →
      (∀ e ∈ o.after, Region.binds .any e = true → ∀ o', ops[e.on]? = some o' → T e.on (val f o'.dst) w1) →
      ∀ K : Act → World → Prop, (∀ v w2, Below w1.heap.size w1 w2 → T i v w2 → K ((slots n ds f).put o.dst v) w2) → Oper.wp P o (slots n ds f) w1 K Q)
    (hds : ∀ i o v w1, ops[i]? = some o → o.dst = none → T i v w1 → T i undef w1)
    (fin : ∀ (f : Nat → Value) (w1 : World), Below w.heap.size w w1 → (∀ k, outB ops k = true → f k = f0 k) → (∀ j o, ops[j]? = some o → T j (val f o.dst) w1) → Q .normal (slots n ds f) w1) :
    (Code.region id ops true).wp P Q a0 w := by
  subst h0
  refine wp_region_any hm (wpAny_inv hb (fun listed a w1 => ∃ f, a = slots n ds f ∧ Below w.heap.size w w1 ∧ (∀ k, outB ops k = true → f k = f0 k) ∧
    ∀ j o, ops[j]? = some o → listed.getD j false = true → T j (val f o.dst) w1) ?_ ?_ ops.size _ _ _ (by simp) (by simp [Array.count_replicate]) ⟨f0, rfl, (Below.refl _ _).drew, fun _ _ => rfl, ?_⟩)
  · rintro listed a w1 ⟨f, rfl, hw, hf, hT⟩ hs i hi
    obtain ⟨hun, o, ho, hall⟩ := mem_ready.1 hi
    refine wpOp_step ho (fun K' hK' => ?_)
    have hgo : o.guard = none := by
      have := Array.all_eq_true_iff_forall_mem.1 hg o (Array.mem_of_getElem? ho)
      simpa using this
    have hw1 : Region.wanted o (yielded ops (slots n ds f).tmps) = true := by simp [Region.wanted, hgo]
    rw [if_pos hw1]
    refine step i o ho f w1 hw hf (fun e he hbi o' ho' => hT e.on o' ho' (hall e he hbi)) K' (fun v w2 hb2 ht => ?_)
    refine hK' _ _ ⟨upd f o.dst v, slots_put _ _ _ _ _, hw.trans (hb2.mono hw.size), fun k hk => ?_, fun j oj hoj hlj => ?_⟩
    · have hne : o.dst ≠ some k := by
        have := Array.all_eq_true_iff_forall_mem.1 hk o (Array.mem_of_getElem? ho)
        exact of_decide_eq_true this
      cases h : o.dst with
      | none => exact hf k hk
      | some m =>
        rw [h] at hne
        have : k ≠ m := fun e => hne (by rw [e])
        simp only [upd, this, if_false]
        exact hf k hk
    · by_cases hij : i = j
      · subst hij
        have : o = oj := Option.some.inj (ho.symm.trans hoj)
        subst this
        cases h : o.dst with
        | none => exact hds i o v w2 ho h ht
        | some m => simpa [val, upd] using ht
      · rw [val_upd hd ho hoj hij]
        rw [getD_set_ne false hij] at hlj
        exact mono _ _ _ _ (hT j oj hoj hlj) hb2
  · rintro listed a w1 ⟨f, rfl, hw, hf, hT⟩ hl
    exact fin f w1 hw hf (fun j o ho => hT j o ho (hl j (Array.getElem?_eq_some_iff.1 ho).1))
  · intro j o ho hl
    simp only [Array.getD_eq_getD_getElem?, Array.getElem?_replicate] at hl
    split at hl <;> simp at hl
def Each (C : Nat → Oper → Prop) : List Oper → Nat → Prop
  | [], _ => True
  | o :: r, i => C i o ∧ Each C r (i + 1)
theorem Each.get {C : Nat → Oper → Prop} : ∀ (l : List Oper) (i : Nat), Each C l i → ∀ j o, l[j]? = some o → C (i + j) o
  | [], _, _, j, o, h => by simp at h
  | x :: l, i, H, 0, o, h => by
    simp only [List.getElem?_cons_zero, Option.some.injEq] at h
    subst h; exact H.1
  | x :: l, i, H, j + 1, o, h => by
    have := Each.get l (i + 1) H.2 j o (by simpa using h)
    rw [show i + (j + 1) = i + 1 + j by omega]; exact this
theorem Each.all {C : Nat → Oper → Prop} {l : List Oper} (H : Each C l 0) (j : Nat) (o : Oper) (h : l.toArray[j]? = some o) : C j o := by
  have := Each.get l 0 H j o (by simpa using h)
  rwa [Nat.zero_add] at this
/-- The same over the list, each operation in its turn. -/
theorem wp_region_list {l : List Oper} {id : Nat} {a0 : Act} {w : World} (n : Nat) (ds : List Deferred) (f0 : Nat → Value) (T : Nat → Value → World → Prop)
    (hm : P.follows .mixedOrders = true) (hb : aheadB l.toArray = true) (hg : noneB l.toArray = true) (hd : dstB l.toArray = true) (hso : l.all (·.dst.isSome) = true)
    (h0 : a0 = slots n ds f0)
    (mono : ∀ j v w1 w2, T j v w1 → Below w1.heap.size w1 w2 → T j v w2)
    (step : Each (fun i o => ∀ (f : Nat → Value) (w1 : World), Below w.heap.size w w1 → (∀ k, outB l.toArray k = true → f k = f0 k) →
      (∀ e ∈ o.after, Region.binds .any e = true → ∀ o', l.toArray[e.on]? = some o' → T e.on (val f o'.dst) w1) →
      ∀ K : Act → World → Prop, (∀ v w2, Below w1.heap.size w1 w2 → T i v w2 → K ((slots n ds f).put o.dst v) w2) → Oper.wp P o (slots n ds f) w1 K Q) l 0)
    (fin : ∀ (f : Nat → Value) (w1 : World), Below w.heap.size w w1 → (∀ k, outB l.toArray k = true → f k = f0 k) → (∀ j o, l.toArray[j]? = some o → T j (val f o.dst) w1) → Q .normal (slots n ds f) w1) :
    (Code.region id l.toArray true).wp P Q a0 w :=
  wp_region_each n ds f0 T hm hb hg hd h0 mono (fun i o ho => Each.all step i o ho) (fun i o v w1 ho hn ht => by
    have := List.all_eq_true.1 hso o (List.mem_of_getElem? (by simpa using ho))
    rw [hn] at this; cases this) fin
theorem slots_of (t : Array Value) (ds : List Deferred) (n : Nat) (hn : t.size = n) : ({ tmps := t, defers := ds } : Act) = slots n ds (fun k => t.getD k undef) := by
  subst hn
  unfold slots
  congr 1
  apply Array.ext
  · simp
  · intro i h1 h2
    simp [h1]
theorem slots_eval {n t : Nat} (ds : List Deferred) (f : Nat → Value) (h : t < n) : (slots n ds f).eval (.tmp t) = f t := by
  simp [slots, Act.eval, h]
theorem wpList_each {l : List Oper} {w : World} (n : Nat) (ds : List Deferred) (f0 : Nat → Value) (T : Nat → Value → World → Prop)
    (hb : aheadB l.toArray = true) (hg : noneB l.toArray = true) (hd : dstB l.toArray = true) (hso : l.all (·.dst.isSome) = true)
    (mono : ∀ j v w1 w2, T j v w1 → Below w1.heap.size w1 w2 → T j v w2)
    (step : Each (fun i o => ∀ (f : Nat → Value) (w1 : World), Below w.heap.size w w1 → (∀ k, outB l.toArray k = true → f k = f0 k) →
      (∀ e ∈ o.after, Region.binds .any e = true → ∀ o', l.toArray[e.on]? = some o' → T e.on (val f o'.dst) w1) →
      ∀ K : Act → World → Prop, (∀ v w2, Below w1.heap.size w1 w2 → T i v w2 → K ((slots n ds f).put o.dst v) w2) → Oper.wp P o (slots n ds f) w1 K Q) l 0)
    (fin : ∀ (f : Nat → Value) (w1 : World), Below w.heap.size w w1 → (∀ k, outB l.toArray k = true → f k = f0 k) → (∀ j o, l.toArray[j]? = some o → T j (val f o.dst) w1) → Q .normal (slots n ds f) w1) :
    ∀ (r : List Oper) (i : Nat), l.drop i = r → ∀ (f : Nat → Value) (w1 : World), Below w.heap.size w w1 → (∀ k, outB l.toArray k = true → f k = f0 k) →
      (∀ j o, j < i → l.toArray[j]? = some o → T j (val f o.dst) w1) → wpList P l.toArray Q r (slots n ds f) w1
  | [], i, hr, f, w1, hw, hf, hT => by
    refine fin f w1 hw hf (fun j o ho => hT j o ?_ ho)
    have h1 : j < l.length := by
      have := (Array.getElem?_eq_some_iff.1 ho).1
      simpa using this
    have h2 : l.length ≤ i := by
      have := congrArg List.length hr
      simp only [List.length_drop, List.length_nil] at this; omega
    omega
  | o :: r, i, hr, f, w1, hw, hf, hT => by
    have hi : l[i]? = some o := by
      have h := congrArg (fun x => x[0]?) hr
      simpa using h
    have hia : l.toArray[i]? = some o := by simpa using hi
    have hr2 : l.drop (i + 1) = r := by
      have h := congrArg List.tail hr
      simpa [List.tail_drop] using h
    have hgo : o.guard = none := by
      have := Array.all_eq_true_iff_forall_mem.1 hg o (Array.mem_of_getElem? hia)
      simpa using this
    have hlt : i < l.toArray.size := (Array.getElem?_eq_some_iff.1 hia).1
    refine wpList_plain hgo (fun K hK => ?_)
    refine Each.all step i o hia f w1 hw hf (fun e he _ o' ho' => ?_) K (fun v w2 hb2 ht => hK _ _ ?_)
    · refine hT e.on o' ?_ ho'
      have h1 := List.all_eq_true.1 hb i (List.mem_range.2 hlt)
      rw [hia] at h1
      simp only [Option.map_some, Option.getD_some] at h1
      exact of_decide_eq_true (Array.all_eq_true_iff_forall_mem.1 h1 e he)
    · rw [slots_put]
      refine wpList_each n ds f0 T hb hg hd hso mono step fin r (i + 1) hr2 _ _ (hw.trans (hb2.mono hw.size)) (fun k hk => ?_) (fun j oj hj hoj => ?_)
      · have hne : o.dst ≠ some k := by
          have := Array.all_eq_true_iff_forall_mem.1 hk o (Array.mem_of_getElem? hia)
          exact of_decide_eq_true this
        cases h : o.dst with
        | none => exact hf k hk
        | some m =>
          rw [h] at hne
          have : k ≠ m := fun e => hne (by rw [e])
          simp only [upd, this, if_false]
          exact hf k hk
      · by_cases hij : i = j
        · subst hij
          have : o = oj := Option.some.inj (hia.symm.trans hoj)
          subst this
          cases h : o.dst with
          | none =>
            have := List.all_eq_true.1 hso o (List.mem_of_getElem? hi)
            rw [h] at this; cases this
          | some m => simpa [val, upd] using ht
        · rw [val_upd hd hia hoj hij]
          exact mono _ _ _ _ (hT j oj (by omega) hoj) hb2
/-- **A region in the order of its text**, the same way. -/
theorem wp_straight {l : List Oper} {id : Nat} {a0 : Act} {w : World} (n : Nat) (ds : List Deferred) (f0 : Nat → Value) (T : Nat → Value → World → Prop)
    (hb : aheadB l.toArray = true) (hg : noneB l.toArray = true) (hd : dstB l.toArray = true) (hso : l.all (·.dst.isSome) = true)
    (h0 : a0 = slots n ds f0)
    (mono : ∀ j v w1 w2, T j v w1 → Below w1.heap.size w1 w2 → T j v w2)
    (step : Each (fun i o => ∀ (f : Nat → Value) (w1 : World), Below w.heap.size w w1 → (∀ k, outB l.toArray k = true → f k = f0 k) →
      (∀ e ∈ o.after, Region.binds .any e = true → ∀ o', l.toArray[e.on]? = some o' → T e.on (val f o'.dst) w1) →
      ∀ K : Act → World → Prop, (∀ v w2, Below w1.heap.size w1 w2 → T i v w2 → K ((slots n ds f).put o.dst v) w2) → Oper.wp P o (slots n ds f) w1 K Q) l 0)
    (fin : ∀ (f : Nat → Value) (w1 : World), Below w.heap.size w w1 → (∀ k, outB l.toArray k = true → f k = f0 k) → (∀ j o, l.toArray[j]? = some o → T j (val f o.dst) w1) → Q .normal (slots n ds f) w1) :
    (Code.region id l.toArray false).wp P Q a0 w := by
  subst h0
  refine Go.wp_region_list ?_
  exact wpList_each n ds f0 T hb hg hd hso mono step fin l 0 rfl f0 w (Below.refl _ _) (fun _ _ => rfl) (fun j o hj => absurd hj (by omega))
end
end Go.Proofs.YtmcgocbkjdacaaaDoor
