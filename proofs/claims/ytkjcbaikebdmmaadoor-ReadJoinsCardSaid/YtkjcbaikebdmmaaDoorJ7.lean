/- Read as a machine on places and lists that are begun; its stack in memory. -/
import Derived.Test.YtkjcbaikebdmmaaDoorJ6
namespace Go.Proofs.YtkjcbaikebdmmaaDoor
open Go.RowKit
set_option linter.unusedVariables false
set_option linter.unusedSimpArgs false
/-- A list that is begun: where, whether by a quote, its parts till now. -/
structure En where
  pl : Int
  q : Bool
  ds : List Dt
def En.dt (e : En) : Dt := .mk 4 ⟨#[]⟩ [] e.ds e.pl
def En.add (e : En) (d : Dt) : En := ⟨e.pl, e.q, e.ds ++ [d]⟩
/-- What may come next. -/
inductive Pc
  | next | begin | finish | token | put (d : Dt) | stop
/-- What Read answers. -/
inductive Rs
  | ok (ds : List Dt) | err (e : Int) (at_ : Nat)
/-- Read: from a label on, at a place, with the lists that are begun, the innermost first; n bounds the steps. -/
def rd (s : List UInt8) : Nat → Pc → Nat → En → List En → Option Rs
  | 0, _, _, _, _ => none
  | n + 1, .next, p, e, r =>
    match s[p + gapOf false (s.drop p)]? with
    | none => rd s n .stop (p + gapOf false (s.drop p)) e r
    | some b => if b = 40 ∨ b = 39 then rd s n .begin (p + gapOf false (s.drop p)) e r else if b = 41 then rd s n .finish (p + gapOf false (s.drop p)) e r else rd s n .token (p + gapOf false (s.drop p)) e r
  | n + 1, .begin, p, e, r =>
    match s[p]? with
    | none => none
    | some b => if r.length = 60 then some (.err 6 p) else rd s n .next (p + 1) ⟨p, b == 39, if (b == 39) = true then [.mk 3 qT [] [] p] else []⟩ (e :: r)
  | n + 1, .finish, p, e, r =>
    match r with
    | [] => some (.err 4 p)
    | f :: r' => if e.q = true then some (.err 4 p) else rd s n (.put e.dt) (p + 1) f r'
  | n + 1, .token, p, e, r =>
    match tokOf (s.drop p) with
    | none => some (.err 3 p)
    | some (k, t, m) => rd s n (.put (.mk k t [] [] p)) (p + m) e r
  | n + 1, .put d, p, e, r =>
    if e.q = true then
      match r with
      | [] => none
      | f :: r' => rd s n (.put (e.add d).dt) p f r'
    else rd s n .next p (e.add d) r
  | n + 1, .stop, p, e, r => if 0 < r.length then some (.err 5 p) else some (.ok e.ds)
/-- The lists that are begun, the innermost first, as the cells xs of the stack; their rows lie in blocks apart from each other and from U, their parts in blocks of D. -/
def Ents (D : Nat → Prop) (B : Nat) (w : World) (xs : List Value) : List En → (Nat → Prop) → Prop
  | [], _ => True
  | e :: r, U => ∃ lv k, (xs[r.length * 6]? = some (.int .i64 k) ∧ xs[r.length * 6 + 1]? = some (.string ⟨#[]⟩) ∧ xs[r.length * 6 + 2]? = some (.slice none 0 0) ∧ xs[r.length * 6 + 3]? = some lv ∧ xs[r.length * 6 + 4]? = some (.int .i64 e.pl) ∧ xs[r.length * 6 + 5]? = some (.bool e.q)) ∧
      (r ≠ [] → k = 4) ∧ OwnS D B w lv e.ds ∧ (∀ x, lv.ownBlock = some x → ¬ U x) ∧ Ents D B w xs r (fun x => U x ∨ lv.ownBlock = some x)
theorem Ents.move {D : Nat → Prop} {B : Nat} {w w' : World} {xs xs' : List Value} : ∀ (es : List En) (U : Nat → Prop), Ents D B w xs es U → (∀ i, i < es.length * 6 → xs'[i]? = xs[i]?) → (∀ x, x < w.heap.size → (D x ∨ ¬ U x) → w'.heap[x]? = w.heap[x]?) → Ents D B w' xs' es U
  | [], _, _, _, _ => trivial
  | e :: r, U, h, hx, hw => by
    obtain ⟨lv, k, ⟨c0, c1, c2, c3, c4, c5⟩, hk, ho, hu, hr⟩ := h
    have hl : (e :: r).length * 6 = r.length * 6 + 6 := by simp; omega
    rw [hl] at hx
    refine ⟨lv, k, ⟨by rw [hx _ (by omega)]; exact c0, by rw [hx _ (by omega)]; exact c1, by rw [hx _ (by omega)]; exact c2, by rw [hx _ (by omega)]; exact c3, by rw [hx _ (by omega)]; exact c4, by rw [hx _ (by omega)]; exact c5⟩, hk, ?_, hu, ?_⟩
    · refine ho.keep (fun x c hxo hh => ?_) (fun x c T fz hD hh _ => ⟨fz, ?_⟩)
      · rw [hw x (Array.getElem?_eq_some_iff.1 hh).1 (.inr (hu x hxo))]; exact hh
      · rw [hw x (Array.getElem?_eq_some_iff.1 hh).1 (.inl hD)]; exact hh
    · exact Ents.move r _ hr (fun i hi => hx i (by omega)) (fun x hxs hxd => hw x hxs (hxd.imp id (fun hn hU => hn (.inl hU))))
theorem Ents.fresh {D D' : Nat → Prop} {B : Nat} {w : World} {xs : List Value} (hD : ∀ x, D x → D' x) : ∀ (es : List En) (U U' : Nat → Prop), Ents D B w xs es U → (∀ x, x < w.heap.size → U' x → U x) → Ents D' B w xs es U'
  | [], _, _, _, _ => trivial
  | e :: r, U, U', h, hU => by
    obtain ⟨lv, k, hc, hk, ho, hu, hr⟩ := h
    exact ⟨lv, k, hc, hk, ho.mono hD, fun x hx hx' => hu x hx (hU x (ho.lt hx).2 hx'), Ents.fresh hD r _ _ hr (fun x hx hxu => hxu.imp (hU x hx) id)⟩
/-- The stack is v. -/
def StackAt (D : Nat → Prop) (B : Nat) (w : World) (v : Value) (e : En) (r : List En) : Prop :=
  ∃ g c xs, v = .slice (some ⟨g, 0, none⟩) (r.length + 1) c ∧ w.ownsRow B 55 6 v (r.length + 1) xs ∧ ¬ D g ∧ (∀ x, D x → B ≤ x ∧ x < w.heap.size) ∧ Ents D B w xs (e :: r) (fun x => D x ∨ x = g)
theorem StackAt.below {D : Nat → Prop} {B : Nat} {w w' : World} {v : Value} {e : En} {r : List En} (h : StackAt D B w v e r) (hb : Below w.heap.size w w') : StackAt D B w' v e r := by
  obtain ⟨g, c, xs, rfl, ho, hg, hD, hE⟩ := h
  have hs := hb.size
  refine ⟨g, c, xs, rfl, ⟨ho.1, ?_⟩, hg, fun x hx => ⟨(hD x hx).1, by have := (hD x hx).2; omega⟩, Ents.move _ _ hE (fun _ _ => rfl) (fun x hx _ => hb.block x hx)⟩
  rcases ho.2 with h | ⟨g1, cap, cur, e1, hB, hh, r⟩
  · exact .inl h
  · exact .inr ⟨g1, cap, cur, e1, hB, by rw [hb.block _ (Array.getElem?_eq_some_iff.1 hh).1]; exact hh, r⟩
/-- One part more in the innermost list: its cell of the stack. -/
theorem StackAt.top {D : Nat → Prop} {B : Nat} {w : World} {v : Value} {e : En} {r : List En} (h : StackAt D B w v e r) :
    ∃ g c arr lv, v = .slice (some ⟨g, 0, none⟩) (r.length + 1) c ∧ r.length + 1 ≤ c ∧ c ≤ maxLen ∧ B ≤ g ∧ w.heap[g]? = some (.cells arr 55 (0, 0)) ∧ arr[r.length * 6 + 3]? = some lv ∧ arr[r.length * 6 + 5]? = some (.bool e.q) ∧ OwnS D B w lv e.ds ∧ lv.ownBlock ≠ some g ∧ (∀ x, D x → B ≤ x ∧ lv.ownBlock ≠ some x) ∧
      ∀ d w', PutDone D B g (r.length * 6 + 3) arr lv (e.ds ++ [d]) w w' → StackAt D B w' v (e.add d) r := by
  obtain ⟨g, c, xs, rfl, ho, hgD, hD, hE⟩ := h
  rcases ho.2 with ⟨e1, _⟩ | ⟨g1, cap, cur, e1, hB, hh, hnc, hcm, hcs, ht⟩
  · cases e1
  injection e1 with e1 _ e3
  injection e1 with e1
  injection e1 with e1 _ _
  subst e1 e3
  have hxl : xs.length = (r.length + 1) * 6 := ho.1
  have hx : ∀ i, i < (r.length + 1) * 6 → cur[i]? = xs[i]? := fun i hi => by
    rw [← ht, List.getElem?_take, if_pos hi]; simp
  obtain ⟨lv, k, ⟨c0, c1, c2, c3, c4, c5⟩, hk, hl, hu, hr⟩ := hE
  refine ⟨g, c, cur, lv, rfl, hnc, hcm, hB, hh, by rw [hx _ (by omega)]; exact c3, by rw [hx _ (by omega)]; exact c5, hl, fun e => hu g e (.inr rfl), fun x hx => ⟨(hD x hx).1, fun e => hu x e (.inl hx)⟩, ?_⟩
  rintro d w' ⟨v', p1, p2, p3, p4, p5, p6, p7, p8⟩
  have hgl : g < w.heap.size := (Array.getElem?_eq_some_iff.1 hh).1
  have x3 : ∀ i, i ≠ r.length * 6 + 3 → (xs.set (r.length * 6 + 3) v')[i]? = xs[i]? := fun i hi => by rw [List.getElem?_set_ne (fun e => hi e.symm)]
  refine ⟨g, c, xs.set (r.length * 6 + 3) v', rfl, ⟨by simp [hxl], .inr ⟨g, c, _, rfl, hB, p1, hnc, hcm, by simp [hcs], ?_⟩⟩, hgD, fun x hx => ⟨(hD x hx).1, by have := (hD x hx).2; omega⟩, ?_⟩
  · rw [← ht]
    apply List.ext_getElem?
    intro i
    simp only [Array.toList_setIfInBounds, List.getElem?_take, List.getElem?_set, List.length_take]
    by_cases h1 : i < (r.length + 1) * 6
    · have h4 : r.length * 6 + 3 < cur.toList.length := by simp [hcs]; omega
      simp only [h1, if_true]
      by_cases h2 : r.length * 6 + 3 = i
      · have h3 : r.length * 6 + 3 < min ((r.length + 1) * 6) cur.toList.length := by omega
        simp only [h2, if_true]
        rw [if_pos (by omega), if_pos (by omega)]
      · simp [h2]
    · simp only [h1, if_false]
      rw [if_neg (by omega)]
  · refine ⟨v', k, ⟨by rw [x3 _ (by omega)]; exact c0, by rw [x3 _ (by omega)]; exact c1, by rw [x3 _ (by omega)]; exact c2, by rw [List.getElem?_set_self (by omega)], by rw [x3 _ (by omega)]; exact c4, by rw [x3 _ (by omega)]; exact c5⟩, hk, p2, ?_, ?_⟩
    · rintro x hx
      rcases p3 with e | ⟨b, e, hb⟩
      · exact hu x (e.symm.trans hx)
      · rw [e] at hx
        injection hx with hx
        subst hx
        rintro (h | h)
        · have := (hD _ h).2; omega
        · omega
    · have h1 : Ents D B w xs r (fun x => ((D x ∨ x = g) ∨ v'.ownBlock = some x) ∨ lv.ownBlock = some x) := Ents.fresh (fun _ h => h) r _ _ hr (fun x hx hu' => ?_)
      · have h2 : Ents D B w' (xs.set (r.length * 6 + 3) v') r (fun x => ((D x ∨ x = g) ∨ v'.ownBlock = some x) ∨ lv.ownBlock = some x) := Ents.move r _ h1 (fun i hi => x3 i (by omega)) (fun x hx hd => ?_)
        · exact Ents.fresh (fun _ h => h) r _ _ h2 (fun x _ h => .inl h)
        · refine p8 x hx ?_ ?_
          · rintro rfl
            rcases hd with h | h
            · exact hgD h
            · exact h (.inl (.inl (.inr rfl)))
          · intro e
            rcases hd with h | h
            · exact hu x e (.inl h)
            · exact h (.inr e)
      · rcases hu' with (h | h) | h
        · exact .inl h
        · rcases p3 with e | ⟨b, e, hb⟩
          · exact .inr (e.symm.trans h)
          · rw [e] at h; injection h with h; omega
        · exact .inr h
end Go.Proofs.YtkjcbaikebdmmaaDoor
