/- Read as a machine: more steps change nothing; it ends. -/
import Derived.Test.YthhaegncnoekbaaYAB
import Derived.OwnWalk
import Derived.Test.YthhaegncnoekbaaYAA
namespace Go.Proofs.Ythhaegncnoekbaa
open Go.RowKit Go.BigM
set_option linter.unusedVariables false
set_option linter.unusedSimpArgs false
theorem bAt_len {l t : List UInt8} (h : bAt l t = true) : t.length ≤ l.length := by
  unfold bAt at h
  have h1 : Lib.hasPrefix l t = true := by
    cases hp : Lib.hasPrefix l t with
    | true => rfl
    | false => simp [hp] at h
  unfold Lib.hasPrefix at h1
  exact (List.isPrefixOf_iff_prefix.1 h1).length_le
theorem tokOf_le {l : List UInt8} {k : Int} {t : ByteArray} {m : Nat} (h : tokOf l = some (k, t, m)) : m ≤ l.length := by
  have hr := rowOf_le sset l
  unfold tokOf at h
  split at h
  · cases hb : boolOf l with
    | none => rw [hb] at h; cases h
    | some b =>
      rw [hb] at h
      injection h with h; injection h with _ h; injection h with _ h
      unfold boolOf at hb
      split at hb
      · rename_i h1; have := bAt_len h1; simp at this; omega
      · split at hb
        · rename_i h1; have := bAt_len h1; simp at this; omega
        · cases hb
  · split at h
    · cases h
    · split at h
      · split at h
        · injection h with h; injection h with _ h; injection h with _ h; omega
        · cases h
      · split at h
        · cases h
        · injection h with h; injection h with _ h; injection h with _ h; omega
/-- The outermost list is the text's own. -/
def Outer : En → List En → Prop
  | e, [] => e.q = false
  | _, f :: r => Outer f r
theorem Outer.add {e : En} {r : List En} (h : Outer e r) (d : Dt) : Outer (e.add d) r := by
  cases r with
  | nil => exact h
  | cons f r => exact h
def Pc.rank : Pc → Nat
  | .put _ => 3 | .next => 2 | _ => 1
def Pc.fits (s : List UInt8) (p : Nat) : Pc → Prop
  | .begin => p < s.length | .finish => p < s.length | .token => p < s.length | _ => p ≤ s.length
theorem rd_total (s : List UInt8) : ∀ (n : Nat) (pc : Pc) (p : Nat) (e : En) (r : List En), 8 * (2 * (s.length - p) + r.length) + pc.rank ≤ n → pc.fits s p → Outer e r → ∃ R, rd s n pc p e r = some R := by
  intro n
  induction n with
  | zero => intro pc p e r h; cases pc <;> simp [Pc.rank] at h
  | succ n ih =>
    intro pc p e r h hp ho
    cases pc with
    | next =>
      have hp : p ≤ s.length := hp
      have hg : gapOf false (s.drop p) ≤ s.length - p := by have := gapOf_le false (s.drop p); simpa using this
      simp only [Pc.rank] at h
      unfold rd
      split
      · exact ih _ _ _ _ (by simp [Pc.rank]; omega) (by simp only [Pc.fits]; omega) ho
      · rename_i b hb
        have hlt := (List.getElem?_eq_some_iff.1 hb).1
        split
        · exact ih _ _ _ _ (by simp [Pc.rank]; omega) (by simp only [Pc.fits]; omega) ho
        · split
          · exact ih _ _ _ _ (by simp [Pc.rank]; omega) (by simp only [Pc.fits]; omega) ho
          · exact ih _ _ _ _ (by simp [Pc.rank]; omega) (by simp only [Pc.fits]; omega) ho
    | begin =>
      have hp : p < s.length := hp
      simp only [Pc.rank] at h
      unfold rd
      rw [List.getElem?_eq_getElem hp]
      simp only
      split
      · exact ⟨_, rfl⟩
      · exact ih _ _ _ _ (by simp [Pc.rank]; omega) (by simp only [Pc.fits]; omega) ho
    | finish =>
      have hp : p < s.length := hp
      simp only [Pc.rank] at h
      unfold rd
      cases r with
      | nil => exact ⟨_, rfl⟩
      | cons f r =>
        simp only
        split
        · exact ⟨_, rfl⟩
        · exact ih _ _ _ _ (by simp [Pc.rank] at h ⊢; omega) (by simp only [Pc.fits]; omega) ho
    | token =>
      have hp : p < s.length := hp
      simp only [Pc.rank] at h
      unfold rd
      split
      · exact ⟨_, rfl⟩
      · rename_i k t m ht
        have h1 := tokOf_pos ht
        have h2 := tokOf_le ht
        simp only [List.length_drop] at h2
        exact ih _ _ _ _ (by simp [Pc.rank]; omega) (by simp only [Pc.fits]; omega) ho
    | put d =>
      have hp : p ≤ s.length := hp
      simp only [Pc.rank] at h
      unfold rd
      split
      · rename_i hq
        cases r with
        | nil => exact absurd hq (by rw [show e.q = false from ho]; decide)
        | cons f r => exact ih _ _ _ _ (by simp [Pc.rank] at h ⊢; omega) hp ho
      · exact ih _ _ _ _ (by simp [Pc.rank] at h ⊢; omega) hp (ho.add d)
    | stop => unfold rd; split <;> exact ⟨_, rfl⟩
end Go.Proofs.Ythhaegncnoekbaa
namespace Go.Proofs.Ythhaegncnoekbaa
open Go.RowKit Go.BigM
set_option linter.unusedVariables false
set_option linter.unusedSimpArgs false
def wgt (e : En) (r : List En) : Nat := match r with | [] => 1 + Dt.sizes e.ds | f :: r' => 1 + Dt.sizes e.ds + wgt f r'
def Pc.wgt : Pc → Nat | .put d => d.size | _ => 0
theorem sizes_snoc : ∀ (l : List Dt) (d : Dt), Dt.sizes (l ++ [d]) = Dt.sizes l + d.size
  | [], d => by simp [Dt.sizes]
  | x :: l, d => by simp only [List.cons_append, Dt.sizes]; rw [sizes_snoc l d]; omega
theorem wgt_add (e : En) (r : List En) (d : Dt) : wgt (e.add d) r = wgt e r + d.size := by
  cases r <;> simp [wgt, En.add, sizes_snoc] <;> omega
theorem dt_size (e : En) : e.dt.size = 1 + Dt.sizes e.ds := by simp [En.dt, Dt.size]
theorem rd_size (s : List UInt8) : ∀ (n : Nat) (pc : Pc) (p : Nat) (e : En) (r : List En) (ds : List Dt), rd s n pc p e r = some (.ok ds) → pc.fits s p → wgt e r + pc.wgt ≤ 2 * p + 1 → Dt.sizes ds ≤ 2 * s.length := by
  intro n
  induction n with
  | zero => intro pc p e r ds h; cases h
  | succ n ih =>
    intro pc p e r ds h hf hw
    cases pc with
    | next =>
      have hg := gapOf_le false (s.drop p)
      rw [List.length_drop] at hg
      have hf' : p ≤ s.length := hf
      simp only [Pc.wgt] at hw
      unfold rd at h
      split at h
      · exact ih _ _ _ _ _ h (by show _ ≤ _; omega) (by simp only [Pc.wgt]; omega)
      · rename_i b hb
        have hlt : p + gapOf false (s.drop p) < s.length := (List.getElem?_eq_some_iff.1 hb).1
        split at h
        · exact ih _ _ _ _ _ h hlt (by simp only [Pc.wgt]; omega)
        · split at h
          · exact ih _ _ _ _ _ h hlt (by simp only [Pc.wgt]; omega)
          · exact ih _ _ _ _ _ h hlt (by simp only [Pc.wgt]; omega)
    | begin =>
      have hf' : p < s.length := hf
      simp only [Pc.wgt] at hw
      unfold rd at h
      split at h
      · cases h
      · rename_i b hb
        split at h
        · cases h
        · refine ih _ _ _ _ _ h (by show _ ≤ _; omega) ?_
          simp only [Pc.wgt, wgt]
          split <;> simp [Dt.sizes, Dt.size] <;> omega
    | finish =>
      have hf' : p < s.length := hf
      simp only [Pc.wgt] at hw
      unfold rd at h
      cases r with
      | nil => cases h
      | cons f r' =>
        simp only [] at h
        split at h
        · cases h
        · refine ih _ _ _ _ _ h (by show _ ≤ _; omega) ?_
          simp only [Pc.wgt, dt_size]
          simp only [wgt] at hw
          omega
    | token =>
      have hf' : p < s.length := hf
      simp only [Pc.wgt] at hw
      unfold rd at h
      split at h
      · cases h
      · rename_i k t m ht
        have m1 := tokOf_pos ht
        have m2 := tokOf_le ht
        rw [List.length_drop] at m2
        refine ih _ _ _ _ _ h (by show _ ≤ _; omega) ?_
        simp only [Pc.wgt, Dt.size, Dt.sizes]
        omega
    | put d =>
      have hf' : p ≤ s.length := hf
      simp only [Pc.wgt] at hw
      unfold rd at h
      split at h
      · cases r with
        | nil => cases h
        | cons f r' =>
          simp only [] at h
          refine ih _ _ _ _ _ h (by show _ ≤ _; omega) ?_
          simp only [Pc.wgt, dt_size]
          have h2 := wgt_add e (f :: r') d
          simp only [wgt] at hw h2
          omega
      · refine ih _ _ _ _ _ h (by show _ ≤ _; omega) ?_
        simp only [Pc.wgt]
        rw [wgt_add]; omega
    | stop =>
      have hf' : p ≤ s.length := hf
      simp only [Pc.wgt] at hw
      unfold rd at h
      split at h
      · cases h
      · rename_i hr
        injection h with h
        injection h with h
        subst h
        have : r = [] := by cases r with | nil => rfl | cons _ _ => simp at hr
        subst this
        simp only [wgt] at hw
        omega
end Go.Proofs.Ythhaegncnoekbaa
namespace Go.Proofs.Ythhaegncnoekbaa
open Go.RowKit
set_option linter.unusedVariables false
set_option linter.unusedSimpArgs false
/-- What Read leaves. -/
def RetRead (w0 : World) (R : Rs) (e : Ending) (w : World) : Prop :=
  Below w0.heap.size w0 w ∧ match R with
  | .ok ds => ∃ v, e = .returned (.tuple #[v, .int .i64 0, .int .i64 0]) ∧ LAt (fun g => w0.heap.size ≤ g) w v ds
  | .err c p => e = .returned (.tuple #[.slice none 0 0, .int .i64 p, .int .i64 c])
end Go.Proofs.Ythhaegncnoekbaa
namespace Go.Proofs.Ythhaegncnoekbaa
open Go.RowKit
set_option linter.unusedVariables false
set_option linter.unusedSimpArgs false
theorem OwnS.low {S : Nat → Prop} {B B' : Nat} {w : World} {v : Value} {ds : List Dt} (h : OwnS S B w v ds) (hB : B' ≤ B) : OwnS S B' w v ds := by
  obtain ⟨xs, hown, hd⟩ := h
  refine ⟨xs, ⟨hown.1, ?_⟩, hd⟩
  rcases hown.2 with h | ⟨g, cap, cur, rfl, hb, r⟩
  · exact .inl h
  · exact .inr ⟨g, cap, cur, rfl, by omega, r⟩
theorem byte_at (s : ByteArray) (i : Nat) (h : i < s.size) : s.data.toList[i]? = some s[i] := by
  rw [List.getElem?_eq_getElem (by rw [← Lib.size_eq]; exact h)]
  simp
  rfl
theorem setRow_box (w : World) (g : Nat) (C cs : Array Value) (h : w.heap[g]? = some (.cells C 29 (0, 0))) : (w.setRow g cs).heap[g]? = some (.cells cs 29 (0, 0)) := setRow_heap w g C cs 29 (0, 0) h
end Go.Proofs.Ythhaegncnoekbaa
namespace Go.Proofs.Ythhaegncnoekbaa
open Go.RowKit Go.BigM
set_option linter.unusedVariables false
set_option linter.unusedSimpArgs false
/-- The reader's state lies at g: the text, the place, what is open, what is done. -/
def Rs3 (w : World) (g : Nat) (s : ByteArray) (p : Nat) (ov dv : Value) : Prop := w.heap[g]? = some (.cells #[.string s, .int .i64 (p : Int), ov, dv] 114 (0, 0))
theorem Rs3.lt {w : World} {g p : Nat} {s : ByteArray} {ov dv : Value} (h : Rs3 w g s p ov dv) : g < w.heap.size := (Array.getElem?_eq_some_iff.1 h).1
theorem Rs3.cells {w : World} {g p : Nat} {s : ByteArray} {ov dv : Value} (h : Rs3 w g s p ov dv) : w.cell? ⟨g, 0, none⟩ = some (.string s) ∧ w.cell? ⟨g, 1, none⟩ = some (.int .i64 (p : Int)) ∧ w.cell? ⟨g, 2, none⟩ = some ov ∧ w.cell? ⟨g, 3, none⟩ = some dv := by
  unfold Rs3 at h
  refine ⟨?_, ?_, ?_, ?_⟩ <;> (rw [Lib.cell_of_heap h]; rfl)
/-- Only the block g has turned; no block came. -/
structure Only (g : Nat) (w w' : World) : Prop where
  os : w'.os = w.os
  tape : w'.tape = w.tape
  output : w'.output = w.output
  size : w'.heap.size = w.heap.size
  block : ∀ k, k ≠ g → w'.heap[k]? = w.heap[k]?
theorem Only.refl (g : Nat) (w : World) : Only g w w := ⟨rfl, rfl, rfl, rfl, fun _ _ => rfl⟩
theorem Only.trans {g : Nat} {a b c : World} (h : Only g a b) (k : Only g b c) : Only g a c := ⟨k.os.trans h.os, k.tape.trans h.tape, k.output.trans h.output, k.size.trans h.size, fun x hx => (k.block x hx).trans (h.block x hx)⟩
theorem Only.set (g o : Nat) (v : Value) (w : World) : Only g w (w.setCell ⟨g, o, none⟩ v) := ⟨rfl, rfl, rfl, by simp [World.setCell], fun k hk => Below.heap_setCell w _ v k (fun e => hk e)⟩
/-- The place turns. -/
theorem Rs3.setP {w : World} {g p : Nat} {s : ByteArray} {ov dv : Value} (h : Rs3 w g s p ov dv) (q : Nat) : Rs3 (w.setCell ⟨g, 1, none⟩ (.int .i64 (q : Int))) g s q ov dv := by
  have := heap_setCell_same w g 1 _ 114 (.int .i64 (q : Int)) h
  unfold Rs3; rw [this]; rfl
theorem gap_blank {c : UInt8} (l : List UInt8) (h : c = 32 ∨ c = 9 ∨ c = 10) : gapOf false (c :: l) = 1 + gapOf false l := by
  rcases h with rfl | rfl | rfl <;> simp [gapOf]
theorem gap_semi (l : List UInt8) : gapOf true (59 :: l) = gapOf false (59 :: l) := by simp [gapOf]
theorem gap_in {c : UInt8} (l : List UInt8) (h : c ≠ 10) : gapOf true (c :: l) = 1 + gapOf true l := by
  have : (c != 10) = true := by simpa using h
  simp [gapOf, this]
theorem gap_out (l : List UInt8) : gapOf true (10 :: l) = gapOf false (10 :: l) := by simp [gapOf]
theorem gap_stop {c : UInt8} (l : List UInt8) (h : ¬ (c = 32 ∨ c = 9 ∨ c = 10)) (h2 : c ≠ 59) : gapOf false (c :: l) = 0 := by
  have h3 : (c == 59) = false := by simpa using h2
  have h4 : ([9, 10, 32] : List UInt8).contains c = false := by
    simp only [List.contains_cons, List.contains_nil, Bool.or_false, Bool.or_eq_false_iff, beq_eq_false_iff_ne, ne_eq]
    exact ⟨fun e => h (.inr (.inl e)), fun e => h (.inr (.inr e)), fun e => h (.inl e)⟩
  unfold gapOf
  rw [h3, h4]
  rfl
theorem u8_all {P : UInt8 → Prop} (h : ∀ n : Fin 256, P (UInt8.ofNat n.1)) (c : UInt8) : P c := by
  have h1 := h ⟨c.toNat, c.toNat_lt⟩
  have h2 : UInt8.ofNat c.toNat = c := by simp
  rw [h2] at h1
  exact h1
end Go.Proofs.Ythhaegncnoekbaa
