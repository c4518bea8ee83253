/- Rules: the table: an entry is looked for, or laid; what is stored in it. -/
import Derived.Test.YthhaegncnoekbaaYAB
import Derived.ScopeJumps
import Derived.Test.YthhaegncnoekbaaYAA
import Derived.Deep.RegionHeld3
import Derived.Deep.MidRow
import Derived.Deep.Cut
import Derived.OwnWalk
set_option linter.unusedVariables false
set_option linter.unusedSimpArgs false
namespace Go.Proofs.Ythhaegncnoekbaa
open Go Go.RowKit Go.MapKept
open Go.WideMaps (KeyLaw)
open Go.WideElems (findIdx_born findIdx_arr modify_last set_self)
open Go.ChangeMaps (setBlock heap_setBlock_same heap_setBlock_other)
theorem zero27 (w : World) : (zeroValue 27).run Try.prog w = .ok (.slice none 0 0) w := by kernel_rfl
theorem setBlock_grown {w : World} {b : Nat} {es : Array MapEntry} {clock : Nat} {o' : Obj} (hb : w.heap[b]? = some (.map es clock)) : w.grownBy (setBlock w b o') (some b) :=
  ⟨rfl, rfl, rfl, by simp [setBlock], fun i _ hi => heap_setBlock_other hb _ (fun e1 => hi (by rw [e1]))⟩
theorem setBlock_size (w : World) (b : Nat) (o : Obj) : (setBlock w b o).heap.size = w.heap.size := by simp [setBlock]
theorem modify_set {α : Type} (f : α → α) : ∀ (l : List α) (j : Nat) (a : α), l[j]? = some a → l.modify j f = l.set j (f a)
  | [], _, _, h => by simp at h
  | b :: r, 0, a, h => by simp at h; subst h; rfl
  | b :: r, j + 1, a, h => by simp at h; simp [List.modify_succ_cons, modify_set f r j a h]
theorem OwnZ.ne {w : World} {base b : Nat} {v : Value} {zs : List Nat} (h : OwnZ w base v zs) (hb : b < base) : v.ownBlock = none ∨ v.ownBlock ≠ some b := by
  cases hv : v.ownBlock with
  | none => exact .inl rfl
  | some g =>
    refine .inr fun e => ?_
    have := (World.ownsRow.lt h g hv).1
    injection e with e; omega
theorem OwnZ.ne' {w : World} {base b : Nat} {v : Value} {zs : List Nat} (h : OwnZ w base v zs) (hb : b < base) : v.ownBlock ≠ some b := by
  rcases h.ne hb with e | e
  · rw [e]; simp
  · exact e
set_option maxHeartbeats 4000000 in
theorem run_entry {w : World} {base b : Nat} {ks : List Value} (h : TbAt w base b ks) {key : Value} {kl : Lit} (hkey : keyOf Try.prog 120 key = some kl) :
    ∃ (v : Value) (zs : List Nat) (st : Nat) (w1 : World), (Instr.mapEntry 76 (.map (some b)) key).run Try.prog w = .ok (.tuple #[v, goInt st]) w1 ∧ w.grownBy w1 (some b) ∧ w1.heap.size = w.heap.size ∧ OwnZ w1 base v zs ∧ Spots ks key zs ∧
      ∀ (w2 : World) (v' : Value), w1.grownBy w2 v.ownBlock → OwnZ w2 base v' (zs ++ [ks.length]) → (v'.ownBlock = v.ownBlock ∨ ∃ g, v'.ownBlock = some g ∧ w1.heap.size ≤ g) →
        ∃ w3, (Instr.entryStore 76 (.map (some b)) (goInt st) v').run Try.prog w2 = .ok () w3 ∧ TbAt w3 base b (ks ++ [key]) ∧ w2.grownBy w3 (some b) := by
  obtain ⟨es, clock, hb, hs, hbb, hk, hv, hall, hap⟩ := h
  have hbw : b < w.heap.size := (Array.getElem?_eq_some_iff.1 hb).1
  have hlow : ∀ x ∈ es.toList, ∀ g, x.val.ownBlock = some g → base ≤ g ∧ g < w.heap.size := fun x hx g hg => by
    obtain ⟨zs, ho, _⟩ := hv x hx
    exact World.ownsRow.lt ho g hg
  rcases law120.find w hkey es.toList hk with ⟨h1, h2⟩ | ⟨j, e0, h1, h2, h3⟩
  · have hnk : key ∉ ks := fun hm => by obtain ⟨x, hx, e⟩ := hall key hm; exact h2 x hx e
    have hw1 : (setBlock w b (.map (es.push ⟨key, .slice none 0 0, clock⟩) (clock + 1))).heap[b]? = some (.map (es.push ⟨key, .slice none 0 0, clock⟩) (clock + 1)) := heap_setBlock_same hb _
    refine ⟨.slice none 0 0, [], clock, setBlock w b (.map (es.push ⟨key, .slice none 0 0, clock⟩) (clock + 1)), ?_, setBlock_grown hb, setBlock_size _ _ _, World.ownsRow_nil _ _ _ _, Spots.empty hnk, fun w2 v' hg hown hloc => ?_⟩
    · simp [Instr.mapEntry, run_underlying Try.underlying76, MapKept.run_getObj_map hb, law120.check w false hkey, h1, zero27, MapKept.run_setObj_map _ hb, Result.andThen, setBlock]
    · have hw2 : w2.heap[b]? = some (.map (es.push ⟨key, .slice none 0 0, clock⟩) (clock + 1)) := (hg.block b (by rw [setBlock_size]; exact hbw) (by simp [Value.ownBlock])).trans hw1
      have hidx : (es.push ⟨key, .slice none 0 0, clock⟩).findIdx? (fun e => ((e.born : Nat) : Int) == ((clock : Nat) : Int)) = some es.size := by
        rw [findIdx_arr]
        exact findIdx_born (l := (es.push ⟨key, .slice none 0 0, clock⟩).toList) (j := es.size) (e0 := ⟨key, .slice none 0 0, clock⟩) (stamped_push hs h2).2.1 (by simp)
      have hmod : (es.push ⟨key, .slice none 0 0, clock⟩).modify es.size (fun e => { e with val := v' }) = es.push ⟨key, v', clock⟩ := by
        apply Array.ext'
        rw [Array.toList_modify, Array.toList_push, Array.toList_push, ← Array.length_toList, modify_last]
      have hg3 := setBlock_grown (o' := .map (es.push ⟨key, v', clock⟩) (clock + 1)) hw2
      refine ⟨setBlock w2 b (.map (es.push ⟨key, v', clock⟩) (clock + 1)), ?_, ⟨_, _, heap_setBlock_same hw2 _, stamped_push hs h2, hbb, ?_, ?_, ?_, ?_⟩, hg3⟩
      · simp [Instr.entryStore, MapKept.run_getObj_map hw2, asInt, asIntOf, goInt, hidx, hmod, MapKept.run_setObj_map _ hw2, Result.andThen, setBlock]
      · intro x hx
        simp only [Array.toList_push, List.mem_append, List.mem_singleton] at hx
        rcases hx with hx | rfl
        · exact hk x hx
        · exact ⟨kl, hkey⟩
      · intro x hx
        simp only [Array.toList_push, List.mem_append, List.mem_singleton] at hx
        rcases hx with hx | rfl
        · obtain ⟨zs, ho, hz⟩ := hv x hx
          refine ⟨zs, ((ho.kept (setBlock_grown hb) (ho.ne hbb)).kept hg ?_).kept hg3 (ho.ne hbb), hz.other fun e => h2 x hx e.symm⟩
          cases x.val.ownBlock <;> simp [Value.ownBlock]
        · exact ⟨_, hown.kept hg3 (hown.ne hbb), (Spots.empty hnk).same⟩
      · intro k hkm
        simp only [List.mem_append, List.mem_singleton] at hkm
        rcases hkm with hkm | rfl
        · obtain ⟨x, hx, e⟩ := hall k hkm
          exact ⟨x, by simp [hx], e⟩
        · exact ⟨⟨k, v', clock⟩, by simp, rfl⟩
      · have hne : ∀ x ∈ es.toList, x.val.ownBlock = none ∨ x.val.ownBlock ≠ v'.ownBlock := by
          intro x hx
          cases hxb : x.val.ownBlock with
          | none => exact .inl rfl
          | some g =>
            refine .inr fun e => ?_
            have := (hlow x hx g hxb).2
            rcases hloc with h | ⟨g', h, hg'⟩
            · rw [h] at e; simp [Value.ownBlock] at e
            · rw [h] at e; injection e with e; rw [setBlock_size] at hg'; omega
        intro x hx y hy hxy
        simp only [Array.toList_push, List.mem_append, List.mem_singleton] at hx hy
        rcases hx with hx | rfl <;> rcases hy with hy | rfl
        · exact hap x hx y hy hxy
        · exact hne x hx
        · rcases hne y hy with h | h
          · cases hv' : v'.ownBlock with
            | none => exact .inl rfl
            | some g => exact .inr (by intro e; rw [h] at e; cases e)
          · exact .inr fun e => h e.symm
        · exact absurd rfl hxy
  · have hm0 : e0 ∈ es.toList := List.mem_of_getElem? h2
    have hj : es[j]? = some e0 := by simpa using h2
    obtain ⟨zs, ho, hz⟩ := hv e0 hm0
    have hsame : es.modify j (fun e => { e with key := key }) = es := by
      apply Array.ext'
      rw [Array.toList_modify, modify_set _ _ _ _ h2]
      have : ({ e0 with key := key } : MapEntry) = e0 := by rw [← h3]
      rw [this]
      exact set_self _ _ _ h2
    have hw1 : (setBlock w b (.map es clock)).heap[b]? = some (.map es clock) := heap_setBlock_same hb _
    refine ⟨e0.val, zs, e0.born, setBlock w b (.map es clock), ?_, setBlock_grown hb, setBlock_size _ _ _, ho.kept (setBlock_grown hb) (ho.ne hbb), h3 ▸ hz, fun w2 v' hg hown hloc => ?_⟩
    · simp [Instr.mapEntry, run_underlying Try.underlying76, MapKept.run_getObj_map hb, law120.check w false hkey, h1, hj, h3, law120.stays w hkey, hsame, MapKept.run_setObj_map _ hb, Result.andThen, setBlock]
    · have hw2 : w2.heap[b]? = some (.map es clock) := (hg.block b (by rw [setBlock_size]; exact hbw) (fun e => ho.ne' hbb e.symm)).trans hw1
      have hidx : es.findIdx? (fun e => ((e.born : Nat) : Int) == ((e0.born : Nat) : Int)) = some j := by
        rw [findIdx_arr]
        exact findIdx_born hs.2.1 h2
      have hg3 := setBlock_grown (o' := .map (es.modify j fun e => { e with val := v' }) clock) hw2
      have hst : Stamped (es.modify j fun e => { e with val := v' }) clock := stamped_modify hs _ _ (fun _ _ => rfl) (fun _ _ _ => rfl)
      have hmem : ∀ x, x ∈ (es.modify j fun e => { e with val := v' }).toList → x = { e0 with val := v' } ∨ (x ∈ es.toList ∧ x.key ≠ key) := by
        intro x hx
        rw [Array.toList_modify, modify_set _ _ _ _ h2] at hx
        obtain ⟨i, hi, rfl⟩ := List.getElem_of_mem hx
        rw [List.getElem_set]
        split
        · exact .inl rfl
        · next hij =>
          have hi' : i < es.toList.length := by simpa using hi
          refine .inr ⟨List.getElem_mem hi', fun e => hij ?_⟩
          obtain ⟨hjl, hje⟩ := List.getElem?_eq_some_iff.1 h2
          have hnd := hs.2.2
          have hnd2 := List.pairwise_iff_getElem.1 (List.pairwise_map.1 hnd)
          rcases Nat.lt_trichotomy i j with hlt | rfl | hlt
          · exact absurd (by rw [e, hje, h3]) (hnd2 i j hi' hjl hlt)
          · rfl
          · exact absurd (by rw [e, hje, h3]) (hnd2 j i hjl hi' hlt)
      have hin : ({ e0 with val := v' } : MapEntry) ∈ (es.modify j fun e => { e with val := v' }).toList := by
        rw [Array.toList_modify, modify_set _ _ _ _ h2]
        exact List.mem_of_getElem? (i := j) (by rw [List.getElem?_set_self (List.getElem?_eq_some_iff.1 h2).1])
      have hin2 : ∀ x ∈ es.toList, x.key ≠ key → x ∈ (es.modify j fun e => { e with val := v' }).toList := by
        intro x hx hxk
        rw [Array.toList_modify, modify_set _ _ _ _ h2]
        obtain ⟨i, hi, rfl⟩ := List.getElem_of_mem hx
        have hij : j ≠ i := fun e => by
          subst e
          obtain ⟨_, hje⟩ := List.getElem?_eq_some_iff.1 h2
          rw [hje, h3] at hxk; exact hxk rfl
        exact List.mem_of_getElem? (i := i) (by rw [List.getElem?_set_ne hij, List.getElem?_eq_getElem hi])
      have hvk : ∀ x ∈ es.toList, x.key ≠ key → x.val.ownBlock = none ∨ x.val.ownBlock ≠ e0.val.ownBlock := fun x hx hxk => hap x hx e0 hm0 (by rw [h3]; exact hxk)
      have hne : ∀ x ∈ es.toList, x.key ≠ key → x.val.ownBlock = none ∨ x.val.ownBlock ≠ v'.ownBlock := by
        intro x hx hxk
        rcases hloc with h | ⟨g', h, hg'⟩
        · rw [h]; exact hvk x hx hxk
        · cases hxb : x.val.ownBlock with
          | none => exact .inl rfl
          | some g =>
            refine .inr fun e => ?_
            have := (hlow x hx g hxb).2
            rw [h] at e; injection e with e; rw [setBlock_size] at hg'; omega
      refine ⟨setBlock w2 b (.map (es.modify j fun e => { e with val := v' }) clock), ?_, ⟨_, _, heap_setBlock_same hw2 _, hst, hbb, ?_, ?_, ?_, ?_⟩, hg3⟩
      · simp [Instr.entryStore, MapKept.run_getObj_map hw2, asInt, asIntOf, goInt, hidx, MapKept.run_setObj_map _ hw2, Result.andThen, setBlock]
      · intro x hx
        rcases hmem x hx with rfl | ⟨hx, _⟩
        · exact ⟨kl, by rw [← h3] at hkey; exact hkey⟩
        · exact hk x hx
      · intro x hx
        rcases hmem x hx with rfl | ⟨hx, hxk⟩
        · exact ⟨_, hown.kept hg3 (hown.ne hbb), by have := Spots.same (h3 ▸ hz); rw [← h3] at this ⊢; exact this⟩
        · obtain ⟨zx, hox, hzx⟩ := hv x hx
          exact ⟨zx, ((hox.kept (setBlock_grown hb) (hox.ne hbb)).kept hg (hvk x hx hxk)).kept hg3 (hox.ne hbb), hzx.other fun e => hxk e.symm⟩
      · intro k hkm
        simp only [List.mem_append, List.mem_singleton] at hkm
        rcases hkm with hkm | rfl
        · by_cases hkk : k = key
          · exact ⟨_, hin, by rw [hkk]; exact h3⟩
          · obtain ⟨x, hx, e⟩ := hall k hkm
            exact ⟨x, hin2 x hx (by rw [e]; exact hkk), e⟩
        · exact ⟨_, hin, h3⟩
      · intro x hx y hy hxy
        rcases hmem x hx with rfl | ⟨hx, hxk⟩ <;> rcases hmem y hy with rfl | ⟨hy, hyk⟩
        · exact absurd rfl hxy
        · rcases hne y hy hyk with h | h
          · cases hv' : v'.ownBlock with
            | none => exact .inl rfl
            | some g => exact .inr (by intro e; rw [h] at e; cases e)
          · exact .inr fun e => h e.symm
        · exact hne x hx hxk
        · exact hap x hx y hy hxy
end Go.Proofs.Ythhaegncnoekbaa
namespace Go

/-- As Q; by a goto to a label: what holds there. -/
def Exit.jumps (J : Nat → Act → World → Prop) (Q : Exit → Act → World → Prop) : Exit → Act → World → Prop
  | .goto l, a, w => J l a w
  | e, a, w => Q e a w

section
variable {P : Program} {a : Act} {w : World} {Q : Exit → Act → World → Prop}

theorem wp_scope_labels {c : Code} (J : Nat → Act → World → Prop) (μ : Nat → Act → World → Nat)
    (first : c.wp P (Exit.jumps J Q) a w)
    (pass : ∀ l a w, J l a w → ∃ rest, findLabel c l = some rest ∧ rest.wp P (Exit.jumps (fun l' a' w' => J l' a' w' ∧ μ l' a' w' < μ l a w) Q) a w) : (Code.scope c).wp P Q a w := by
  intro b k cs
  have key : ∀ n l a w, μ l a w = n → J l a w → ∃ rest, findLabel c l = some rest ∧ ∃ e a' w', Q e a' w' ∧ Arrives P (lone (b.at a (.code rest :: .inScope c :: k)) cs w) b k cs e a' w' := by
    intro n
    induction n using Nat.strongRecOn with
    | _ n ih =>
      intro l a w hn hJ
      obtain ⟨rest, hf, hw⟩ := pass l a w hJ
      refine ⟨rest, hf, ?_⟩
      obtain ⟨e, a₁, w₁, hq, harr⟩ := hw b (.inScope c :: k) cs
      cases e with
      | normal => exact ⟨.normal, a₁, w₁, hq, Steps.trans harr (.one step_inScope)⟩
      | exit id => exact ⟨.exit id, a₁, w₁, hq, fun k' hk => harr k' (by simp [exitTo, hk])⟩
      | goto l' =>
        obtain ⟨hJ', hlt⟩ := hq
        obtain ⟨rest', hf', e₂, a₂, w₂, hq₂, harr₂⟩ := ih _ (by omega) l' a₁ w₁ rfl hJ'
        have hg : gotoIn l' (.inScope c :: k) = some (.code rest' :: .inScope c :: k) := by simp [gotoIn, hf']
        exact ⟨e₂, a₂, w₂, hq₂, .of_steps (harr _ hg) harr₂⟩
      | ret => exact ⟨_, a₁, w₁, hq, harr⟩
      | panic ch => exact ⟨_, a₁, w₁, hq, harr⟩
      | outgrown => exact ⟨_, a₁, w₁, hq, harr⟩
  obtain ⟨e, a₁, w₁, hq, harr⟩ := first b (.inScope c :: k) cs
  cases e with
  | normal => exact ⟨.normal, a₁, w₁, hq, .head step_scope (Steps.trans harr (.one step_inScope))⟩
  | exit id => exact ⟨.exit id, a₁, w₁, hq, fun k' hk => .head step_scope (harr k' (by simp [exitTo, hk]))⟩
  | goto l' =>
    obtain ⟨rest', hf', e₂, a₂, w₂, hq₂, harr₂⟩ := key _ l' a₁ w₁ rfl hq
    have hg : gotoIn l' (.inScope c :: k) = some (.code rest' :: .inScope c :: k) := by simp [gotoIn, hf']
    exact ⟨e₂, a₂, w₂, hq₂, .of_steps (.head step_scope (harr _ hg)) harr₂⟩
  | ret => exact ⟨_, a₁, w₁, hq, .of_steps (.one step_scope) harr⟩
  | panic ch => exact ⟨_, a₁, w₁, hq, .of_steps (.one step_scope) harr⟩
  | outgrown => exact ⟨_, a₁, w₁, hq, .of_steps (.one step_scope) harr⟩
end
end Go
namespace Go.Proofs.Ythhaegncnoekbaa
open Go.RowKit

def qT : ByteArray := ⟨#[113, 117, 111, 116, 101]⟩
end Go.Proofs.Ythhaegncnoekbaa
namespace Go.Proofs.Ythhaegncnoekbaa
open Go.RowKit
/-- A row with five cells written over. -/
def put5 (arr : Array Value) (o : Nat) (a b c d e : Value) : Array Value := ((((arr.setIfInBounds o a).setIfInBounds (o + 1) b).setIfInBounds (o + 1 + 1) c).setIfInBounds (o + 1 + 1 + 1) d).setIfInBounds (o + 1 + 1 + 1 + 1) e
theorem setCells5 (w : World) (g o : Nat) (arr : Array Value) (T : TypeId) (a b c d e : Value) (hg : w.heap[g]? = some (.cells arr T (0, 0))) :
    (w.setCells g o [a, b, c, d, e]).heap[g]? = some (.cells (put5 arr o a b c d e) T (0, 0)) := by
  simp only [World.setCells]
  exact heap_setCell_same _ g _ _ T e (heap_setCell_same _ g _ _ T d (heap_setCell_same _ g _ _ T c (heap_setCell_same _ g _ _ T b (heap_setCell_same _ g _ _ T a hg))))
theorem setCells5_other (w : World) (g o k : Nat) (a b c d e : Value) (hk : k ≠ g) : (w.setCells g o [a, b, c, d, e]).heap[k]? = w.heap[k]? := by
  simp only [World.setCells]
  rw [heap_setCell_other _ _ _ _ hk, heap_setCell_other _ _ _ _ hk, heap_setCell_other _ _ _ _ hk, heap_setCell_other _ _ _ _ hk, heap_setCell_other _ _ _ _ hk]
theorem put5_size (arr : Array Value) (o : Nat) (a b c d e : Value) : (put5 arr o a b c d e).size = arr.size := by simp [put5]
theorem put5_other (arr : Array Value) (o k : Nat) (a b c d e : Value) (h : k < o ∨ o + 5 ≤ k) : (put5 arr o a b c d e)[k]? = arr[k]? := by
  unfold put5
  rw [Array.getElem?_setIfInBounds_ne (by omega), Array.getElem?_setIfInBounds_ne (by omega), Array.getElem?_setIfInBounds_ne (by omega), Array.getElem?_setIfInBounds_ne (by omega), Array.getElem?_setIfInBounds_ne (by omega)]
theorem put5_at (arr : Array Value) (o : Nat) (a b c d e : Value) (h : o + 5 ≤ arr.size) : ∀ i, i < 5 → (put5 arr o a b c d e)[o + i]? = (#[a, b, c, d, e] : Array Value)[i]? := by
  intro i hi
  have h5 : i = 0 ∨ i = 1 ∨ i = 2 ∨ i = 3 ∨ i = 4 := by omega
  unfold put5
  rcases h5 with rfl | rfl | rfl | rfl | rfl
  · show _[o]? = _
    rw [Array.getElem?_setIfInBounds_ne (by omega), Array.getElem?_setIfInBounds_ne (by omega), Array.getElem?_setIfInBounds_ne (by omega), Array.getElem?_setIfInBounds_ne (by omega), Array.getElem?_setIfInBounds_self_of_lt (by first | omega | (simp; omega))]; rfl
  · show _[o + 1]? = _
    rw [Array.getElem?_setIfInBounds_ne (by omega), Array.getElem?_setIfInBounds_ne (by omega), Array.getElem?_setIfInBounds_ne (by omega), Array.getElem?_setIfInBounds_self_of_lt (by first | omega | (simp; omega))]; rfl
  · show _[o + 1 + 1]? = _
    rw [Array.getElem?_setIfInBounds_ne (by omega), Array.getElem?_setIfInBounds_ne (by omega), Array.getElem?_setIfInBounds_self_of_lt (by first | omega | (simp; omega))]; rfl
  · show _[o + 1 + 1 + 1]? = _
    rw [Array.getElem?_setIfInBounds_ne (by omega), Array.getElem?_setIfInBounds_self_of_lt (by first | omega | (simp; omega))]; rfl
  · show _[o + 1 + 1 + 1 + 1]? = _
    rw [Array.getElem?_setIfInBounds_self_of_lt (by first | omega | (simp; omega))]; rfl


theorem put5_take {cur : Array Value} {n : Nat} {xs zs : List Value} (hx : xs.length = n * 5) (hz : zs.length = 5) (ht : cur.toList.take ((n + 1) * 5) = xs ++ zs) (hs : (n + 1) * 5 ≤ cur.size) (a b c d e : Value) :
    (put5 cur (n * 5) a b c d e).toList.take ((n + 1) * 5) = xs ++ [a, b, c, d, e] := by
  apply List.ext_getElem?
  intro i
  by_cases hi : i < (n + 1) * 5
  · rw [List.getElem?_take, if_pos hi]
    have h0 : cur.toList[i]? = (xs ++ zs)[i]? := by rw [← ht, List.getElem?_take, if_pos hi]
    by_cases hlt : i < n * 5
    · have h1 := put5_other cur (n * 5) i a b c d e (.inl hlt)
      rw [Array.getElem?_toList, h1, ← Array.getElem?_toList, h0, List.getElem?_append_left (by omega), List.getElem?_append_left (by omega)]
    · obtain ⟨j, rfl⟩ : ∃ j, i = n * 5 + j := ⟨i - n * 5, by omega⟩
      have h1 := put5_at cur (n * 5) a b c d e (by omega) j (by omega)
      rw [Array.getElem?_toList, h1, List.getElem?_append_right (by omega), show n * 5 + j - xs.length = j by omega]
      simp
  · rw [List.getElem?_eq_none (by rw [List.length_take]; omega), List.getElem?_eq_none (by simp; omega)]
theorem OwnS.mono {S T : Nat → Prop} {B : Nat} {w : World} {v : Value} {ds : List Dt} (h : OwnS S B w v ds) (hS : ∀ x, S x → T x) : OwnS T B w v ds := by
  obtain ⟨xs, hown, hd⟩ := h
  refine ⟨xs, hown, fun j hj => ?_⟩
  obtain ⟨cs, h5, h1, h2⟩ := hd j hj
  exact ⟨cs, h5, h1, Dt.At.mono hS _ _ h2⟩
theorem OwnS.lt {S : Nat → Prop} {B : Nat} {w : World} {v : Value} {ds : List Dt} (h : OwnS S B w v ds) {k : Nat} (hk : v.ownBlock = some k) : B ≤ k ∧ k < w.heap.size := by
  obtain ⟨xs, hown, _⟩ := h
  exact hown.lt k hk
theorem OwnS.keep {S : Nat → Prop} {B : Nat} {w w' : World} {v : Value} {ds : List Dt} (h : OwnS S B w v ds) (ho : ∀ x c, v.ownBlock = some x → w.heap[x]? = some (.cells c 29 (0, 0)) → w'.heap[x]? = some (.cells c 29 (0, 0))) (hk : Keeps S w w') : OwnS S B w' v ds := by
  obtain ⟨xs, hown, hd⟩ := h
  refine ⟨xs, ⟨hown.1, ?_⟩, fun j hj => ?_⟩
  · rcases hown.2 with h | ⟨g, cap, cur, rfl, hb, hg, r⟩
    · exact .inl h
    · exact .inr ⟨g, cap, cur, rfl, hb, ho g cur rfl hg, r⟩
  · obtain ⟨cs, h5, h1, h2⟩ := hd j hj
    exact ⟨cs, h5, h1, Dt.At.keeps hk _ _ h2⟩
theorem OwnS.below {S : Nat → Prop} {B : Nat} {w w' : World} {v : Value} {ds : List Dt} (h : OwnS S B w v ds) (hb : Below w.heap.size w w') : OwnS S B w' v ds :=
  h.keep (fun x c _ hx => by rw [hb.block x (Array.getElem?_eq_some_iff.1 hx).1]; exact hx) (Keeps.of_below hb)
end Go.Proofs.Ythhaegncnoekbaa
namespace Go.Proofs.Ythhaegncnoekbaa
open Go.RowKit
theorem nblk5 (w : World) (a : Addr) (v : Value) : (w.setCell a v).heap.size = w.heap.size := by simp [World.setCell]
/-- The box of the part that is put stands. -/
def Boxed (b : Nat) (C : Array Value) (w : World) : Prop := w.heap[b]? = some (.cells C 29 (0, 0))
theorem there_of_row {w : World} {g o n : Nat} {arr : Array Value} {T : TypeId} (h : w.heap[g]? = some (.cells arr T (0, 0))) (hs : o + n ≤ arr.size) : w.there g o n := fun j hj => by
  refine ⟨?_, frozen_of_row w g (o + j) arr T h⟩
  rw [Lib.cell_of_heap h]
  have : o + j < arr.size := by omega
  simp [this]
end Go.Proofs.Ythhaegncnoekbaa
namespace Go.Proofs.Ythhaegncnoekbaa
open Go.RowKit
theorem box_range {b : Nat} {k : Int} {t : ByteArray} {mv lv : Value} {p : Int} {w : World} (h : Boxed b #[.int .i64 k, .string t, mv, lv, .int .i64 p] w) : w.rangeAt b 0 [.int .i64 k, .string t, mv, lv, .int .i64 p] := by
  intro j v hv
  rw [Lib.cell_of_heap h]
  simpa using hv
end Go.Proofs.Ythhaegncnoekbaa
namespace Go.Proofs.Ythhaegncnoekbaa
open Go.RowKit
/-- A list that is begun: where, whether by a quote, its parts till now. -/
structure En where
  pl : Int
  q : Bool
  ds : List Dt
def En.dt (e : En) : Dt := .mk 4 ⟨#[]⟩ [] e.ds e.pl
def En.add (e : En) (d : Dt) : En := ⟨e.pl, e.q, e.ds ++ [d]⟩
/-- What may come next. -/
inductive Pc
  | next | begin | finish | token | put (d : Dt) | stop
/-- What Read answers. -/
inductive Rs
  | ok (ds : List Dt) | err (e : Int) (at_ : Nat)
/-- Read: from a label on, at a place, with the lists that are begun, the innermost first; n bounds the steps. -/
def rd (s : List UInt8) : Nat → Pc → Nat → En → List En → Option Rs
  | 0, _, _, _, _ => none
  | n + 1, .next, p, e, r =>
    match s[p + gapOf false (s.drop p)]? with
    | none => rd s n .stop (p + gapOf false (s.drop p)) e r
    | some b => if b = 40 ∨ b = 39 then rd s n .begin (p + gapOf false (s.drop p)) e r else if b = 41 then rd s n .finish (p + gapOf false (s.drop p)) e r else rd s n .token (p + gapOf false (s.drop p)) e r
  | n + 1, .begin, p, e, r =>
    match s[p]? with
    | none => none
    | some b => if r.length = 60 then some (.err 6 p) else rd s n .next (p + 1) ⟨p, b == 39, if (b == 39) = true then [.mk 3 qT [] [] p] else []⟩ (e :: r)
  | n + 1, .finish, p, e, r =>
    match r with
    | [] => some (.err 4 p)
    | f :: r' => if e.q = true then some (.err 4 p) else rd s n (.put e.dt) (p + 1) f r'
  | n + 1, .token, p, e, r =>
    match tokOf (s.drop p) with
    | none => some (.err 3 p)
    | some (k, t, m) => rd s n (.put (.mk k t [] [] p)) (p + m) e r
  | n + 1, .put d, p, e, r =>
    if e.q = true then
      match r with
      | [] => none
      | f :: r' => rd s n (.put (e.add d).dt) p f r'
    else rd s n .next p (e.add d) r
  | n + 1, .stop, p, e, r => if 0 < r.length then some (.err 5 p) else some (.ok e.ds)
end Go.Proofs.Ythhaegncnoekbaa
namespace Go.Proofs.Ythhaegncnoekbaa
open Go.RowKit
theorem OwnS.lat {S : Nat → Prop} {B : Nat} {w : World} {v : Value} {ds : List Dt} (h : OwnS S B w v ds) : LAt (fun g => S g ∨ v.ownBlock = some g) w v ds := by
  obtain ⟨xs, hown, hd⟩ := h
  rcases hown.2 with ⟨rfl, hz⟩ | ⟨g, cap, cur, rfl, hbg, hg, hnc, hcm, hcs, htake⟩
  · exact .inl ⟨rfl, List.length_eq_zero_iff.1 hz⟩
  · refine .inr ⟨g, 0, cap, cur, (0, 0), rfl, .inr rfl, hg, Dts.At.of_get _ _ _ (fun j hj => ?_), hnc⟩
    obtain ⟨cs, h5, h1, h2⟩ := hd j hj
    refine ⟨cs, fun i hi => ?_, Dt.At.mono (fun g h => .inl h) _ _ h2⟩
    rw [← h1 i hi, ← htake, List.getElem?_take, if_pos (by omega)]
    simp
end Go.Proofs.Ythhaegncnoekbaa
namespace Go
section
variable {P : Program} {a : Act} {w : World} {Q : Exit → Act → World → Prop}
/-- As wp_scope_labels; the measure is no function of the state: what holds at a label bounds the jumps that are left. -/
theorem wp_scope_fuel {c : Code} (J : Nat → Nat → Act → World → Prop)
    (first : c.wp P (Exit.jumps (fun l a w => ∃ n, J n l a w) Q) a w)
    (pass : ∀ n l a w, J n l a w → ∃ rest, findLabel c l = some rest ∧ rest.wp P (Exit.jumps (fun l' a' w' => ∃ n', n' < n ∧ J n' l' a' w') Q) a w) : (Code.scope c).wp P Q a w := by
  intro b k cs
  have key : ∀ n l a w, J n l a w → ∃ rest, findLabel c l = some rest ∧ ∃ e a' w', Q e a' w' ∧ Arrives P (lone (b.at a (.code rest :: .inScope c :: k)) cs w) b k cs e a' w' := by
    intro n
    induction n using Nat.strongRecOn with
    | _ n ih =>
      intro l a w hJ
      obtain ⟨rest, hf, hw⟩ := pass n l a w hJ
      refine ⟨rest, hf, ?_⟩
      obtain ⟨e, a₁, w₁, hq, harr⟩ := hw b (.inScope c :: k) cs
      cases e with
      | normal => exact ⟨.normal, a₁, w₁, hq, Steps.trans harr (.one step_inScope)⟩
      | exit id => exact ⟨.exit id, a₁, w₁, hq, fun k' hk => harr k' (by simp [exitTo, hk])⟩
      | goto l' =>
        obtain ⟨n', hlt, hJ'⟩ := hq
        obtain ⟨rest', hf', e₂, a₂, w₂, hq₂, harr₂⟩ := ih n' hlt l' a₁ w₁ hJ'
        have hg : gotoIn l' (.inScope c :: k) = some (.code rest' :: .inScope c :: k) := by simp [gotoIn, hf']
        exact ⟨e₂, a₂, w₂, hq₂, .of_steps (harr _ hg) harr₂⟩
      | ret => exact ⟨_, a₁, w₁, hq, harr⟩
      | panic ch => exact ⟨_, a₁, w₁, hq, harr⟩
      | outgrown => exact ⟨_, a₁, w₁, hq, harr⟩
  obtain ⟨e, a₁, w₁, hq, harr⟩ := first b (.inScope c :: k) cs
  cases e with
  | normal => exact ⟨.normal, a₁, w₁, hq, .head step_scope (Steps.trans harr (.one step_inScope))⟩
  | exit id => exact ⟨.exit id, a₁, w₁, hq, fun k' hk => .head step_scope (harr k' (by simp [exitTo, hk]))⟩
  | goto l' =>
    obtain ⟨n, hJ⟩ := hq
    obtain ⟨rest', hf', e₂, a₂, w₂, hq₂, harr₂⟩ := key n l' a₁ w₁ hJ
    have hg : gotoIn l' (.inScope c :: k) = some (.code rest' :: .inScope c :: k) := by simp [gotoIn, hf']
    exact ⟨e₂, a₂, w₂, hq₂, .of_steps (.head step_scope (harr _ hg)) harr₂⟩
  | ret => exact ⟨_, a₁, w₁, hq, .of_steps (.one step_scope) harr⟩
  | panic ch => exact ⟨_, a₁, w₁, hq, .of_steps (.one step_scope) harr⟩
  | outgrown => exact ⟨_, a₁, w₁, hq, .of_steps (.one step_scope) harr⟩
end
end Go
namespace Go.Proofs.Ythhaegncnoekbaa
open Go.RowKit
end Go.Proofs.Ythhaegncnoekbaa
namespace Go.Proofs.Ythhaegncnoekbaa
open Go.RowKit Go.BigM
theorem tokOf_pos {l : List UInt8} {k : Int} {t : ByteArray} {m : Nat} (h : tokOf l = some (k, t, m)) : 1 ≤ m := by
  unfold tokOf at h
  split at h
  · cases hb : boolOf l with
    | none => rw [hb] at h; cases h
    | some b => rw [hb] at h; injection h with h; injection h with _ h; injection h with _ h; omega
  · split at h
    · cases h
    · split at h
      · split at h
        · injection h with h; injection h with _ h; injection h with _ h; omega
        · cases h
      · split at h
        · cases h
        · injection h with h; injection h with _ h; injection h with _ h; omega
end Go.Proofs.Ythhaegncnoekbaa
namespace Go.Proofs.Ythhaegncnoekbaa
open Go.RowKit Go.BigM
theorem bAt_len {l t : List UInt8} (h : bAt l t = true) : t.length ≤ l.length := by
  unfold bAt at h
  have h1 : Lib.hasPrefix l t = true := by
    cases hp : Lib.hasPrefix l t with
    | true => rfl
    | false => simp [hp] at h
  unfold Lib.hasPrefix at h1
  exact (List.isPrefixOf_iff_prefix.1 h1).length_le
theorem tokOf_le {l : List UInt8} {k : Int} {t : ByteArray} {m : Nat} (h : tokOf l = some (k, t, m)) : m ≤ l.length := by
  have hr := rowOf_le sset l
  unfold tokOf at h
  split at h
  · cases hb : boolOf l with
    | none => rw [hb] at h; cases h
    | some b =>
      rw [hb] at h
      injection h with h; injection h with _ h; injection h with _ h
      unfold boolOf at hb
      split at hb
      · rename_i h1; have := bAt_len h1; simp at this; omega
      · split at hb
        · rename_i h1; have := bAt_len h1; simp at this; omega
        · cases hb
  · split at h
    · cases h
    · split at h
      · split at h
        · injection h with h; injection h with _ h; injection h with _ h; omega
        · cases h
      · split at h
        · cases h
        · injection h with h; injection h with _ h; injection h with _ h; omega
/-- The outermost list is the text's own. -/
def Outer : En → List En → Prop
  | e, [] => e.q = false
  | _, f :: r => Outer f r
theorem Outer.add {e : En} {r : List En} (h : Outer e r) (d : Dt) : Outer (e.add d) r := by
  cases r with
  | nil => exact h
  | cons f r => exact h
def Pc.rank : Pc → Nat
  | .put _ => 3 | .next => 2 | _ => 1
def Pc.fits (s : List UInt8) (p : Nat) : Pc → Prop
  | .begin => p < s.length | .finish => p < s.length | .token => p < s.length | _ => p ≤ s.length
theorem rd_total (s : List UInt8) : ∀ (n : Nat) (pc : Pc) (p : Nat) (e : En) (r : List En), 8 * (2 * (s.length - p) + r.length) + pc.rank ≤ n → pc.fits s p → Outer e r → ∃ R, rd s n pc p e r = some R := by
  intro n
  induction n with
  | zero => intro pc p e r h; cases pc <;> simp [Pc.rank] at h
  | succ n ih =>
    intro pc p e r h hp ho
    cases pc with
    | next =>
      have hp : p ≤ s.length := hp
      have hg : gapOf false (s.drop p) ≤ s.length - p := by have := gapOf_le false (s.drop p); simpa using this
      simp only [Pc.rank] at h
      unfold rd
      split
      · exact ih _ _ _ _ (by simp [Pc.rank]; omega) (by simp only [Pc.fits]; omega) ho
      · rename_i b hb
        have hlt := (List.getElem?_eq_some_iff.1 hb).1
        split
        · exact ih _ _ _ _ (by simp [Pc.rank]; omega) (by simp only [Pc.fits]; omega) ho
        · split
          · exact ih _ _ _ _ (by simp [Pc.rank]; omega) (by simp only [Pc.fits]; omega) ho
          · exact ih _ _ _ _ (by simp [Pc.rank]; omega) (by simp only [Pc.fits]; omega) ho
    | begin =>
      have hp : p < s.length := hp
      simp only [Pc.rank] at h
      unfold rd
      rw [List.getElem?_eq_getElem hp]
      simp only
      split
      · exact ⟨_, rfl⟩
      · exact ih _ _ _ _ (by simp [Pc.rank]; omega) (by simp only [Pc.fits]; omega) ho
    | finish =>
      have hp : p < s.length := hp
      simp only [Pc.rank] at h
      unfold rd
      cases r with
      | nil => exact ⟨_, rfl⟩
      | cons f r =>
        simp only
        split
        · exact ⟨_, rfl⟩
        · exact ih _ _ _ _ (by simp [Pc.rank] at h ⊢; omega) (by simp only [Pc.fits]; omega) ho
    | token =>
      have hp : p < s.length := hp
      simp only [Pc.rank] at h
      unfold rd
      split
      · exact ⟨_, rfl⟩
      · rename_i k t m ht
        have h1 := tokOf_pos ht
        have h2 := tokOf_le ht
        simp only [List.length_drop] at h2
        exact ih _ _ _ _ (by simp [Pc.rank]; omega) (by simp only [Pc.fits]; omega) ho
    | put d =>
      have hp : p ≤ s.length := hp
      simp only [Pc.rank] at h
      unfold rd
      split
      · rename_i hq
        cases r with
        | nil => exact absurd hq (by rw [show e.q = false from ho]; decide)
        | cons f r => exact ih _ _ _ _ (by simp [Pc.rank] at h ⊢; omega) hp ho
      · exact ih _ _ _ _ (by simp [Pc.rank] at h ⊢; omega) hp (ho.add d)
    | stop => unfold rd; split <;> exact ⟨_, rfl⟩
end Go.Proofs.Ythhaegncnoekbaa
namespace Go.Proofs.Ythhaegncnoekbaa
open Go.RowKit Go.BigM
def wgt (e : En) (r : List En) : Nat := match r with | [] => 1 + Dt.sizes e.ds | f :: r' => 1 + Dt.sizes e.ds + wgt f r'
def Pc.wgt : Pc → Nat | .put d => d.size | _ => 0
theorem sizes_snoc : ∀ (l : List Dt) (d : Dt), Dt.sizes (l ++ [d]) = Dt.sizes l + d.size
  | [], d => by simp [Dt.sizes]
  | x :: l, d => by simp only [List.cons_append, Dt.sizes]; rw [sizes_snoc l d]; omega
theorem wgt_add (e : En) (r : List En) (d : Dt) : wgt (e.add d) r = wgt e r + d.size := by
  cases r <;> simp [wgt, En.add, sizes_snoc] <;> omega
theorem dt_size (e : En) : e.dt.size = 1 + Dt.sizes e.ds := by simp [En.dt, Dt.size]
theorem rd_size (s : List UInt8) : ∀ (n : Nat) (pc : Pc) (p : Nat) (e : En) (r : List En) (ds : List Dt), rd s n pc p e r = some (.ok ds) → pc.fits s p → wgt e r + pc.wgt ≤ 2 * p + 1 → Dt.sizes ds ≤ 2 * s.length := by
  intro n
  induction n with
  | zero => intro pc p e r ds h; cases h
  | succ n ih =>
    intro pc p e r ds h hf hw
    cases pc with
    | next =>
      have hg := gapOf_le false (s.drop p)
      rw [List.length_drop] at hg
      have hf' : p ≤ s.length := hf
      simp only [Pc.wgt] at hw
      unfold rd at h
      split at h
      · exact ih _ _ _ _ _ h (by show _ ≤ _; omega) (by simp only [Pc.wgt]; omega)
      · rename_i b hb
        have hlt : p + gapOf false (s.drop p) < s.length := (List.getElem?_eq_some_iff.1 hb).1
        split at h
        · exact ih _ _ _ _ _ h hlt (by simp only [Pc.wgt]; omega)
        · split at h
          · exact ih _ _ _ _ _ h hlt (by simp only [Pc.wgt]; omega)
          · exact ih _ _ _ _ _ h hlt (by simp only [Pc.wgt]; omega)
    | begin =>
      have hf' : p < s.length := hf
      simp only [Pc.wgt] at hw
      unfold rd at h
      split at h
      · cases h
      · rename_i b hb
        split at h
        · cases h
        · refine ih _ _ _ _ _ h (by show _ ≤ _; omega) ?_
          simp only [Pc.wgt, wgt]
          split <;> simp [Dt.sizes, Dt.size] <;> omega
    | finish =>
      have hf' : p < s.length := hf
      simp only [Pc.wgt] at hw
      unfold rd at h
      cases r with
      | nil => cases h
      | cons f r' =>
        simp only [] at h
        split at h
        · cases h
        · refine ih _ _ _ _ _ h (by show _ ≤ _; omega) ?_
          simp only [Pc.wgt, dt_size]
          simp only [wgt] at hw
          omega
    | token =>
      have hf' : p < s.length := hf
      simp only [Pc.wgt] at hw
      unfold rd at h
      split at h
      · cases h
      · rename_i k t m ht
        have m1 := tokOf_pos ht
        have m2 := tokOf_le ht
        rw [List.length_drop] at m2
        refine ih _ _ _ _ _ h (by show _ ≤ _; omega) ?_
        simp only [Pc.wgt, Dt.size, Dt.sizes]
        omega
    | put d =>
      have hf' : p ≤ s.length := hf
      simp only [Pc.wgt] at hw
      unfold rd at h
      split at h
      · cases r with
        | nil => cases h
        | cons f r' =>
          simp only [] at h
          refine ih _ _ _ _ _ h (by show _ ≤ _; omega) ?_
          simp only [Pc.wgt, dt_size]
          have h2 := wgt_add e (f :: r') d
          simp only [wgt] at hw h2
          omega
      · refine ih _ _ _ _ _ h (by show _ ≤ _; omega) ?_
        simp only [Pc.wgt]
        rw [wgt_add]; omega
    | stop =>
      have hf' : p ≤ s.length := hf
      simp only [Pc.wgt] at hw
      unfold rd at h
      split at h
      · cases h
      · rename_i hr
        injection h with h
        injection h with h
        subst h
        have : r = [] := by cases r with | nil => rfl | cons _ _ => simp at hr
        subst this
        simp only [wgt] at hw
        omega
end Go.Proofs.Ythhaegncnoekbaa
namespace Go
section
variable {P : Program} {a : Act} {w : World} {Q : Exit → Act → World → Prop}
theorem Exit.jumps_mono {J J' : Nat → Act → World → Prop} (h : ∀ l a w, J l a w → J' l a w) : ∀ e a w, Exit.jumps J Q e a w → Exit.jumps J' Q e a w
  | .goto l, a, w, hj => h l a w hj
  | .normal, _, _, hj => hj
  | .exit _, _, _, hj => hj
  | .ret, _, _, hj => hj
  | .panic _, _, _, hj => hj
  | .outgrown, _, _, hj => hj
theorem wp_scope_fuel2 {c : Code} (J : Nat → Nat → Act → World → Prop) (l1 : Nat)
    (pass1 : ∀ n a w, J n l1 a w → ∃ x', findLabel c l1 = some (Code.skip.seq x') ∧ x'.wp P (Exit.jumps (fun l' a' w' => ∃ n', n' < n ∧ J n' l' a' w') Q) a w)
    (pass : (∀ n m a w x', n ≤ m → J n l1 a w → findLabel c l1 = some (Code.skip.seq x') → x'.wp P (Exit.jumps (fun l' a' w' => ∃ n', n' < m ∧ J n' l' a' w') Q) a w) → ∀ n l a w, l ≠ l1 → J n l a w →
      ∃ x', findLabel c l = some (Code.skip.seq x') ∧ x'.wp P (Exit.jumps (fun l' a' w' => ∃ n', n' < n ∧ J n' l' a' w') Q) a w)
    (first : (∀ n l a w x', J n l a w → findLabel c l = some (Code.skip.seq x') → x'.wp P (Exit.jumps (fun l' a' w' => ∃ n', J n' l' a' w') Q) a w) → c.wp P (Exit.jumps (fun l' a' w' => ∃ n', J n' l' a' w') Q) a w) : (Code.scope c).wp P Q a w := by
  have all : ∀ n l a w, J n l a w → ∃ x', findLabel c l = some (Code.skip.seq x') ∧ x'.wp P (Exit.jumps (fun l' a' w' => ∃ n', n' < n ∧ J n' l' a' w') Q) a w := by
    intro n l a w hJ
    by_cases hl : l = l1
    · subst hl; exact pass1 n a w hJ
    · refine pass (fun n m a w x' hm hj hf => ?_) n l a w hl hJ
      obtain ⟨y, hy, hw⟩ := pass1 n a w hj
      rw [hf] at hy
      injection hy with hy
      injection hy with _ hy
      subst hy
      exact wp_mono hw (Exit.jumps_mono fun l a w ⟨k, hk, hj⟩ => ⟨k, by omega, hj⟩)
  refine wp_scope_fuel J (first fun n l a w x' hj hf => ?_) (fun n l a w hJ => ?_)
  · obtain ⟨y, hy, hw⟩ := all n l a w hj
    rw [hf] at hy
    injection hy with hy
    injection hy with _ hy
    subst hy
    exact wp_mono hw (Exit.jumps_mono fun l a w ⟨k, _, hj⟩ => ⟨k, hj⟩)
  · obtain ⟨y, hy, hw⟩ := all n l a w hJ
    exact ⟨_, hy, wp_seq (wp_skip hw)⟩
end
end Go
namespace Go.Proofs.Ythhaegncnoekbaa
open Go.RowKit
/-- What Read leaves. -/
def RetRead (w0 : World) (R : Rs) (e : Ending) (w : World) : Prop :=
  Below w0.heap.size w0 w ∧ match R with
  | .ok ds => ∃ v, e = .returned (.tuple #[v, .int .i64 0, .int .i64 0]) ∧ LAt (fun g => w0.heap.size ≤ g) w v ds
  | .err c p => e = .returned (.tuple #[.slice none 0 0, .int .i64 p, .int .i64 c])
end Go.Proofs.Ythhaegncnoekbaa
namespace Go.Proofs.Ythhaegncnoekbaa
open Go.RowKit
theorem byte_at (s : ByteArray) (i : Nat) (h : i < s.size) : s.data.toList[i]? = some s[i] := by
  rw [List.getElem?_eq_getElem (by rw [← Lib.size_eq]; exact h)]
  simp
  rfl
theorem setRow_box (w : World) (g : Nat) (C cs : Array Value) (h : w.heap[g]? = some (.cells C 29 (0, 0))) : (w.setRow g cs).heap[g]? = some (.cells cs 29 (0, 0)) := setRow_heap w g C cs 29 (0, 0) h
end Go.Proofs.Ythhaegncnoekbaa
namespace Go.Proofs.Ythhaegncnoekbaa
open Go.RowKit Go.BigM
/-- The reader's state lies at g: the text, the place, what is open, what is done. -/
def Rs3 (w : World) (g : Nat) (s : ByteArray) (p : Nat) (ov dv : Value) : Prop := w.heap[g]? = some (.cells #[.string s, .int .i64 (p : Int), ov, dv] 114 (0, 0))
theorem Rs3.lt {w : World} {g p : Nat} {s : ByteArray} {ov dv : Value} (h : Rs3 w g s p ov dv) : g < w.heap.size := (Array.getElem?_eq_some_iff.1 h).1
theorem Rs3.cells {w : World} {g p : Nat} {s : ByteArray} {ov dv : Value} (h : Rs3 w g s p ov dv) : w.cell? ⟨g, 0, none⟩ = some (.string s) ∧ w.cell? ⟨g, 1, none⟩ = some (.int .i64 (p : Int)) ∧ w.cell? ⟨g, 2, none⟩ = some ov ∧ w.cell? ⟨g, 3, none⟩ = some dv := by
  unfold Rs3 at h
  refine ⟨?_, ?_, ?_, ?_⟩ <;> (rw [Lib.cell_of_heap h]; rfl)
/-- Only the block g has turned; no block came. -/
structure Only (g : Nat) (w w' : World) : Prop where
  os : w'.os = w.os
  tape : w'.tape = w.tape
  output : w'.output = w.output
  size : w'.heap.size = w.heap.size
  block : ∀ k, k ≠ g → w'.heap[k]? = w.heap[k]?
theorem Only.refl (g : Nat) (w : World) : Only g w w := ⟨rfl, rfl, rfl, rfl, fun _ _ => rfl⟩
theorem Only.trans {g : Nat} {a b c : World} (h : Only g a b) (k : Only g b c) : Only g a c := ⟨k.os.trans h.os, k.tape.trans h.tape, k.output.trans h.output, k.size.trans h.size, fun x hx => (k.block x hx).trans (h.block x hx)⟩
theorem Only.set (g o : Nat) (v : Value) (w : World) : Only g w (w.setCell ⟨g, o, none⟩ v) := ⟨rfl, rfl, rfl, by simp [World.setCell], fun k hk => Below.heap_setCell w _ v k (fun e => hk e)⟩
/-- The place turns. -/
theorem Rs3.setP {w : World} {g p : Nat} {s : ByteArray} {ov dv : Value} (h : Rs3 w g s p ov dv) (q : Nat) : Rs3 (w.setCell ⟨g, 1, none⟩ (.int .i64 (q : Int))) g s q ov dv := by
  have := heap_setCell_same w g 1 _ 114 (.int .i64 (q : Int)) h
  unfold Rs3; rw [this]; rfl
theorem gap_blank {c : UInt8} (l : List UInt8) (h : c = 32 ∨ c = 9 ∨ c = 10) : gapOf false (c :: l) = 1 + gapOf false l := by
  rcases h with rfl | rfl | rfl <;> simp [gapOf]
theorem gap_semi (l : List UInt8) : gapOf true (59 :: l) = gapOf false (59 :: l) := by simp [gapOf]
theorem gap_in {c : UInt8} (l : List UInt8) (h : c ≠ 10) : gapOf true (c :: l) = 1 + gapOf true l := by
  have : (c != 10) = true := by simpa using h
  simp [gapOf, this]
theorem gap_out (l : List UInt8) : gapOf true (10 :: l) = gapOf false (10 :: l) := by simp [gapOf]
theorem gap_stop {c : UInt8} (l : List UInt8) (h : ¬ (c = 32 ∨ c = 9 ∨ c = 10)) (h2 : c ≠ 59) : gapOf false (c :: l) = 0 := by
  have h3 : (c == 59) = false := by simpa using h2
  have h4 : ([9, 10, 32] : List UInt8).contains c = false := by
    simp only [List.contains_cons, List.contains_nil, Bool.or_false, Bool.or_eq_false_iff, beq_eq_false_iff_ne, ne_eq]
    exact ⟨fun e => h (.inr (.inl e)), fun e => h (.inr (.inr e)), fun e => h (.inl e)⟩
  unfold gapOf
  rw [h3, h4]
  rfl
theorem u8_all {P : UInt8 → Prop} (h : ∀ n : Fin 256, P (UInt8.ofNat n.1)) (c : UInt8) : P c := by
  have h1 := h ⟨c.toNat, c.toNat_lt⟩
  have h2 : UInt8.ofNat c.toNat = c := by simp
  rw [h2] at h1
  exact h1
end Go.Proofs.Ythhaegncnoekbaa
