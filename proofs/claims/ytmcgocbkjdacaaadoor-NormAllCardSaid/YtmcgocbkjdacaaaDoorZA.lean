/- Terms as trees, and how they lie in memory. -/
import Derived.Test.YtmcgocbkjdacaaaDoorProg
import Derived.WalkKit
import Derived.Lib.Hide
import Derived.Below
import Derived.Laws.AppendOwn
import Derived.Lib.Builder
import Derived.Laws.Rows
import Derived.Laws.Externs
import Derived.Deep.RegionWith
import Derived.Lib.TrimByte
import Derived.Lib.AppendStr
import Derived.Lib.UnsafeStr
import Derived.Lib.OthersKept
import Derived.Deep.Cut
import Derived.Deep.QuietTactic
import Derived.Deep.RegionHeld3
import Derived.Deep.Draws
import Derived.Maps.OwnSet
import Derived.StringKeys
import Derived.PlainAid
namespace Go.Proofs.YtmcgocbkjdacaaaDoor
open Go.RowKit
set_option linter.unusedVariables false
set_option linter.unusedSimpArgs false

/-- A term: kind, text, names, parts. -/
inductive Et where
  | mk (k : Int) (t : ByteArray) (ns : List ByteArray) (a : List Et) : Et

namespace Et
def kind : Et → Int | mk k _ _ _ => k
def text : Et → ByteArray | mk _ t _ _ => t
def names : Et → List ByteArray | mk _ _ ns _ => ns
def parts : Et → List Et | mk _ _ _ a => a
mutual
/-- How many terms it is, with itself. -/
def size : Et → Nat
  | mk _ _ _ a => 1 + sizes a
def sizes : List Et → Nat
  | [] => 0
  | e :: l => e.size + sizes l
end
end Et

/-- A slice of texts that reads as ns; its block is one of S. -/
def NAt (S : Nat → Prop) (w : World) (nv : Value) (ns : List ByteArray) : Prop :=
  (nv = .slice none 0 0 ∧ ns = []) ∨ ∃ g o cap arr fz, nv = .slice (some ⟨g, o, none⟩) ns.length cap ∧ S g ∧ w.heap[g]? = some (.cells arr 9 fz) ∧ (∀ j (h : j < ns.length), arr[o + j]? = some (.string ns[j])) ∧ ns.length ≤ cap

mutual
/-- The cells cs are this term; all blocks that it leads to are some of S. -/
def Et.At (S : Nat → Prop) (w : World) : Et → Array Value → Prop
  | .mk k t ns a, cs => ∃ nv av, cs = #[.int .i64 k, .string t, nv, av] ∧ NAt S w nv ns ∧
      ((av = .slice none 0 0 ∧ a = []) ∨ ∃ g o cap arr fz, av = .slice (some ⟨g, o, none⟩) a.length cap ∧ S g ∧ w.heap[g]? = some (.cells arr 28 fz) ∧ Ets.At S w a arr o ∧ a.length ≤ cap)
/-- From place o on the cells of a row are these terms, one behind the other. -/
def Ets.At (S : Nat → Prop) (w : World) : List Et → Array Value → Nat → Prop
  | [], _, _ => True
  | e :: l, arr, o => (∃ cs, (∀ i, i < 4 → arr[o + i]? = cs[i]?) ∧ Et.At S w e cs) ∧ Ets.At S w l arr (o + 4)
end
/-- A slice of terms that reads as l. -/
def AAt (S : Nat → Prop) (w : World) (av : Value) (l : List Et) : Prop :=
  (av = .slice none 0 0 ∧ l = []) ∨ ∃ g o cap arr fz, av = .slice (some ⟨g, o, none⟩) l.length cap ∧ S g ∧ w.heap[g]? = some (.cells arr 28 fz) ∧ Ets.At S w l arr o ∧ l.length ≤ cap
theorem EAt_mk (S : Nat → Prop) (w : World) (k : Int) (t : ByteArray) (ns : List ByteArray) (l : List Et) (cs : Array Value) :
    Et.At S w (.mk k t ns l) cs ↔ ∃ nv av, cs = #[.int .i64 k, .string t, nv, av] ∧ NAt S w nv ns ∧ AAt S w av l := by
  unfold Et.At AAt; rfl

/-- Rows of terms and of texts stand. -/
def Keeps (S : Nat → Prop) (w w' : World) : Prop := ∀ g c T fz, S g → w.heap[g]? = some (.cells c T fz) → (T = 28 ∨ T = 9) → ∃ fz', w'.heap[g]? = some (.cells c T fz')
theorem Keeps.refl (S : Nat → Prop) (w : World) : Keeps S w w := fun _ _ _ fz _ h _ => ⟨fz, h⟩
theorem Keeps.trans {S : Nat → Prop} {a b c : World} (h : Keeps S a b) (k : Keeps S b c) : Keeps S a c := by
  intro g cs T fz hs hg hT
  obtain ⟨fz', h1⟩ := h g cs T fz hs hg hT
  exact k g cs T fz' hs h1 hT
theorem Keeps.of_below {S : Nat → Prop} {w w' : World} (h : Below w.heap.size w w') : Keeps S w w' := by
  intro g c T fz _ hg _
  have hlt : g < w.heap.size := (Array.getElem?_eq_some_iff.1 hg).1
  exact ⟨fz, by rw [h.block g hlt]; exact hg⟩
theorem NAt.keeps {S : Nat → Prop} {w w' : World} {nv : Value} {ns : List ByteArray} (h : NAt S w nv ns) (k : Keeps S w w') : NAt S w' nv ns := by
  rcases h with h | ⟨g, o, cap, arr, fz, h1, h2, h3, h4⟩
  · exact .inl h
  · obtain ⟨fz', h5⟩ := k g arr 9 fz h2 h3 (.inr rfl)
    exact .inr ⟨g, o, cap, arr, fz', h1, h2, h5, h4⟩
theorem NAt.mono {S T : Nat → Prop} {w : World} {nv : Value} {ns : List ByteArray} (h : NAt S w nv ns) (k : ∀ g, S g → T g) : NAt T w nv ns := by
  rcases h with h | ⟨g, o, cap, arr, fz, h1, h2, h3, h4⟩
  · exact .inl h
  · exact .inr ⟨g, o, cap, arr, fz, h1, k g h2, h3, h4⟩
mutual
theorem Et.At.keeps {S : Nat → Prop} {w w' : World} (k : Keeps S w w') : ∀ (e : Et) (cs : Array Value), Et.At S w e cs → Et.At S w' e cs
  | .mk _ _ ns l, cs, h => by
    rw [EAt_mk] at h ⊢
    obtain ⟨nv, av, e, hm, hl⟩ := h
    refine ⟨nv, av, e, hm.keeps k, ?_⟩
    rcases hl with hl | ⟨g, o, cap, arr, fz, h1, h2, h3, h4⟩
    · exact .inl hl
    · obtain ⟨fz', h5⟩ := k g arr 28 fz h2 h3 (.inl rfl)
      exact .inr ⟨g, o, cap, arr, fz', h1, h2, h5, Ets.At.keeps k l arr o h4.1, h4.2⟩
theorem Ets.At.keeps {S : Nat → Prop} {w w' : World} (k : Keeps S w w') : ∀ (l : List Et) (arr : Array Value) (o : Nat), Ets.At S w l arr o → Ets.At S w' l arr o
  | [], _, _, _ => by unfold Ets.At; trivial
  | d :: l, arr, o, h => by
    unfold Ets.At at h ⊢
    obtain ⟨⟨cs, hc, hd⟩, hr⟩ := h
    exact ⟨⟨cs, hc, Et.At.keeps k d cs hd⟩, Ets.At.keeps k l arr (o + 4) hr⟩
end
mutual
theorem Et.At.mono {S T : Nat → Prop} {w : World} (k : ∀ g, S g → T g) : ∀ (e : Et) (cs : Array Value), Et.At S w e cs → Et.At T w e cs
  | .mk _ _ ns l, cs, h => by
    rw [EAt_mk] at h ⊢
    obtain ⟨nv, av, e, hm, hl⟩ := h
    refine ⟨nv, av, e, hm.mono k, ?_⟩
    rcases hl with hl | ⟨g, o, cap, arr, fz, h1, h2, h3, h4⟩
    · exact .inl hl
    · exact .inr ⟨g, o, cap, arr, fz, h1, k g h2, h3, Ets.At.mono k l arr o h4.1, h4.2⟩
theorem Ets.At.mono {S T : Nat → Prop} {w : World} (k : ∀ g, S g → T g) : ∀ (l : List Et) (arr : Array Value) (o : Nat), Ets.At S w l arr o → Ets.At T w l arr o
  | [], _, _, _ => by unfold Ets.At; trivial
  | d :: l, arr, o, h => by
    unfold Ets.At at h ⊢
    obtain ⟨⟨cs, hc, hd⟩, hr⟩ := h
    exact ⟨⟨cs, hc, Et.At.mono k d cs hd⟩, Ets.At.mono k l arr (o + 4) hr⟩
end
theorem AAt.keeps {S : Nat → Prop} {w w' : World} {av : Value} {l : List Et} (h : AAt S w av l) (k : Keeps S w w') : AAt S w' av l := by
  rcases h with h | ⟨g, o, cap, arr, fz, h1, h2, h3, h4⟩
  · exact .inl h
  · obtain ⟨fz', h5⟩ := k g arr 28 fz h2 h3 (.inl rfl)
    exact .inr ⟨g, o, cap, arr, fz', h1, h2, h5, Ets.At.keeps k l arr o h4.1, h4.2⟩
theorem AAt.mono {S T : Nat → Prop} {w : World} {av : Value} {l : List Et} (h : AAt S w av l) (k : ∀ g, S g → T g) : AAt T w av l := by
  rcases h with h | ⟨g, o, cap, arr, fz, h1, h2, h3, h4⟩
  · exact .inl h
  · exact .inr ⟨g, o, cap, arr, fz, h1, k g h2, h3, Ets.At.mono k l arr o h4.1, h4.2⟩
/-- The part at a place. -/
theorem Ets.At.get {S : Nat → Prop} {w : World} : ∀ (l : List Et) (arr : Array Value) (o : Nat), Ets.At S w l arr o → ∀ j (h : j < l.length), ∃ cs, (∀ i, i < 4 → arr[o + 4 * j + i]? = cs[i]?) ∧ Et.At S w l[j] cs
  | [], _, _, _, j, h => by simp at h
  | d :: l, arr, o, H, j, h => by
    unfold Ets.At at H
    cases j with
    | zero => simpa using H.1
    | succ j =>
      obtain ⟨cs, h1, h2⟩ := Ets.At.get l arr (o + 4) H.2 j (by simpa using h)
      exact ⟨cs, fun i hi => by rw [← h1 i hi]; congr 1; omega, h2⟩
theorem NAt.caps {S : Nat → Prop} {w : World} {ao : Option Addr} {n cap : Nat} {ns : List ByteArray} (h : NAt S w (.slice ao n cap) ns) : ns.length ≤ cap := by
  rcases h with ⟨_, rfl⟩ | ⟨g, o, cap', arr, fz, e, _, _, _, h⟩
  · simp
  · injection e with e1 e2 e3; omega
theorem NAt.one {S : Nat → Prop} {w : World} {nv : Value} {ns : List ByteArray} (h : NAt S w nv ns) : nv.oneCell' = true := by
  rcases h with ⟨rfl, _⟩ | ⟨g, o, cap, arr, fz, rfl, _⟩ <;> rfl
theorem AAt.one {S : Nat → Prop} {w : World} {av : Value} {l : List Et} (h : AAt S w av l) : av.oneCell' = true := by
  rcases h with ⟨rfl, _⟩ | ⟨g, o, cap, arr, fz, rfl, _⟩ <;> rfl
theorem esize_get : ∀ (l : List Et) (j : Nat) (h : j < l.length), l[j].size ≤ Et.sizes l
  | [], j, h => by simp at h
  | d :: l, 0, _ => by simp [Et.sizes]
  | d :: l, j + 1, h => by
    have := esize_get l j (by simpa using h)
    simp only [Et.sizes, List.getElem_cons_succ]; omega
theorem size_pos (e : Et) : 1 ≤ e.size := by cases e; simp only [Et.size]; omega
theorem length_esizes : ∀ (l : List Et), l.length ≤ Et.sizes l
  | [] => by simp
  | d :: l => by
    have h1 := length_esizes l
    have h2 := size_pos d
    simp only [List.length_cons, Et.sizes]; omega
theorem take_snoc_et (l : List Et) (j : Nat) (h : j < l.length) : l.take (j + 1) = l.take j ++ [l[j]] := by
  rw [List.take_succ_eq_append_getElem h]
theorem NAt.form {S : Nat → Prop} {w : World} {nv : Value} {l : List ByteArray} (h : NAt S w nv l) : ∃ ao cap, nv = .slice ao l.length cap := by
  rcases h with ⟨rfl, rfl⟩ | ⟨g, o, cap, arr, fz, rfl, _⟩
  · exact ⟨none, 0, rfl⟩
  · exact ⟨_, _, rfl⟩
theorem AAt.form {S : Nat → Prop} {w : World} {av : Value} {l : List Et} (h : AAt S w av l) : ∃ ao cap, av = .slice ao l.length cap := by
  rcases h with ⟨rfl, rfl⟩ | ⟨g, o, cap, arr, fz, rfl, _⟩
  · exact ⟨none, 0, rfl⟩
  · exact ⟨_, _, rfl⟩
/-- The cell of the text at a place. -/
theorem NAt.get {S : Nat → Prop} {w : World} {ao : Option Addr} {n cap : Nat} {l : List ByteArray} (h : NAt S w (.slice ao n cap) l) (j : Nat) (hj : j < l.length) :
    ∃ g o, ao = some ⟨g, o, none⟩ ∧ S g ∧ w.cell? ⟨g, o + j, none⟩ = some (.string l[j]) := by
  rcases h with ⟨_, rfl⟩ | ⟨g, o, cap', arr, fz, e, hS, hg, hd, _⟩
  · simp at hj
  · injection e with e1 e2 e3
    subst e1
    exact ⟨g, o, rfl, hS, by rw [Lib.cell_of_heap hg]; exact hd j hj⟩
/-- The cells of the part at a place. -/
theorem AAt.get {S : Nat → Prop} {w : World} {ao : Option Addr} {n cap : Nat} {l : List Et} (h : AAt S w (.slice ao n cap) l) (j : Nat) (hj : j < l.length) :
    ∃ g o k t nv av, ao = some ⟨g, o, none⟩ ∧ S g ∧ (∃ c fz, w.heap[g]? = some (.cells c 28 fz)) ∧ Et.At S w l[j] #[.int .i64 k, .string t, nv, av] ∧
      w.cell? ⟨g, o + j * 4, none⟩ = some (.int .i64 k) ∧ w.cell? ⟨g, o + j * 4 + 1, none⟩ = some (.string t) ∧ w.cell? ⟨g, o + j * 4 + 2, none⟩ = some nv ∧
      w.cell? ⟨g, o + j * 4 + 3, none⟩ = some av ∧ nv.oneCell' = true ∧ av.oneCell' = true := by
  rcases h with ⟨_, rfl⟩ | ⟨g, o, cap', arr, fz, e, hS, hg, hd, _⟩
  · simp at hj
  · injection e with e1 e2 e3
    subst e1
    obtain ⟨cs, hc, hat⟩ := Ets.At.get l arr o hd j hj
    generalize hd' : l[j] = d at hat
    obtain ⟨k, t, ns, lst⟩ := d
    have hat' := hat
    rw [EAt_mk] at hat'
    obtain ⟨nv, av, rfl, hm, hl⟩ := hat'
    refine ⟨g, o, k, t, nv, av, rfl, hS, ⟨arr, fz, hg⟩, hat, ?_, ?_, ?_, ?_, hm.one, hl.one⟩
    · rw [Lib.cell_of_heap hg, Nat.mul_comm]; exact hc 0 (by decide)
    · rw [Lib.cell_of_heap hg, Nat.mul_comm]; exact hc 1 (by decide)
    · rw [Lib.cell_of_heap hg, Nat.mul_comm]; exact hc 2 (by decide)
    · rw [Lib.cell_of_heap hg, Nat.mul_comm]; exact hc 3 (by decide)
theorem AAt.caps {S : Nat → Prop} {w : World} {ao : Option Addr} {n cap : Nat} {l : List Et} (h : AAt S w (.slice ao n cap) l) : l.length ≤ cap := by
  rcases h with ⟨_, rfl⟩ | ⟨g, o, cap', arr, fz, e, _, _, _, h⟩
  · simp
  · injection e with e1 e2 e3; omega
theorem esizes_append : ∀ (a b : List Et), Et.sizes (a ++ b) = Et.sizes a + Et.sizes b
  | [], b => by simp [Et.sizes]
  | d :: a, b => by simp only [List.cons_append, Et.sizes, esizes_append a b]; omega
theorem esizes_take (l : List Et) (j : Nat) (h : j < l.length) : Et.sizes (l.take (j + 1)) = Et.sizes (l.take j) + l[j].size := by
  rw [take_snoc_et l j h, esizes_append]; simp [Et.sizes]
theorem esizes_take_le (l : List Et) (j : Nat) : Et.sizes (l.take j) ≤ Et.sizes l := by
  have h := esizes_append (l.take j) (l.drop j)
  rw [List.take_append_drop] at h; omega
/-- Blocks that a term leads to are there. -/
theorem NAt.bound {S : Nat → Prop} {w : World} {nv : Value} {ns : List ByteArray} (h : NAt S w nv ns) : NAt (fun g => S g ∧ g < w.heap.size) w nv ns := by
  rcases h with h | ⟨g, o, cap, arr, fz, h1, h2, h3, h4⟩
  · exact .inl h
  · exact .inr ⟨g, o, cap, arr, fz, h1, ⟨h2, (Array.getElem?_eq_some_iff.1 h3).1⟩, h3, h4⟩
mutual
theorem Et.At.bound {S : Nat → Prop} {w : World} : ∀ (e : Et) (cs : Array Value), Et.At S w e cs → Et.At (fun g => S g ∧ g < w.heap.size) w e cs
  | .mk _ _ ns l, cs, h => by
    rw [EAt_mk] at h ⊢
    obtain ⟨nv, av, e, hm, hl⟩ := h
    refine ⟨nv, av, e, hm.bound, ?_⟩
    rcases hl with hl | ⟨g, o, cap, arr, fz, h1, h2, h3, h4⟩
    · exact .inl hl
    · exact .inr ⟨g, o, cap, arr, fz, h1, ⟨h2, (Array.getElem?_eq_some_iff.1 h3).1⟩, h3, Ets.At.bound l arr o h4.1, h4.2⟩
theorem Ets.At.bound {S : Nat → Prop} {w : World} : ∀ (l : List Et) (arr : Array Value) (o : Nat), Ets.At S w l arr o → Ets.At (fun g => S g ∧ g < w.heap.size) w l arr o
  | [], _, _, _ => by unfold Ets.At; trivial
  | d :: l, arr, o, h => by
    unfold Ets.At at h ⊢
    obtain ⟨⟨cs, hc, hd⟩, hr⟩ := h
    exact ⟨⟨cs, hc, Et.At.bound d cs hd⟩, Ets.At.bound l arr (o + 4) hr⟩
end
theorem Ets.At.of_get {S : Nat → Prop} {w : World} : ∀ (l : List Et) (arr : Array Value) (o : Nat), (∀ j (h : j < l.length), ∃ cs, (∀ i, i < 4 → arr[o + 4 * j + i]? = cs[i]?) ∧ Et.At S w l[j] cs) → Ets.At S w l arr o
  | [], _, _, _ => by unfold Ets.At; trivial
  | d :: l, arr, o, H => by
    unfold Ets.At
    refine ⟨?_, Ets.At.of_get l arr (o + 4) fun j h => ?_⟩
    · have := H 0 (by simp)
      simpa using this
    · obtain ⟨cs, h1, h2⟩ := H (j + 1) (by simpa using h)
      exact ⟨cs, fun i hi => by rw [← h1 i hi]; congr 1; omega, by simpa using h2⟩
theorem EAt_form {S : Nat → Prop} {w : World} {e : Et} {cs : Array Value} (h : Et.At S w e cs) : ∃ k t nv av, cs = #[.int .i64 k, .string t, nv, av] ∧ nv.oneCell' = true ∧ av.oneCell' = true := by
  obtain ⟨k, t, ns, l⟩ := e
  rw [EAt_mk] at h
  obtain ⟨nv, av, e, hm, hl⟩ := h
  exact ⟨k, t, nv, av, e, hm.one, hl.one⟩
theorem EAt_one {S : Nat → Prop} {w : World} {d : Et} {k : Int} {t : ByteArray} {nv av : Value} (h : Et.At S w d #[.int .i64 k, .string t, nv, av]) : nv.oneCell' = true ∧ av.oneCell' = true := by
  obtain ⟨k', t', nv', av', e, h1, h2⟩ := EAt_form h
  simp at e
  obtain ⟨_, _, rfl, rfl⟩ := e
  exact ⟨h1, h2⟩
/-- It returns this; what was there stands. -/
def RetBool (b : Bool) (w : World) (e : Ending) (w' : World) : Prop := e = .returned (.bool b) ∧ Below w.heap.size w w'
def RetInt (r : Int) (w : World) (e : Ending) (w' : World) : Prop := e = .returned (.int .i64 r) ∧ Below w.heap.size w w'
def RetStr (s : ByteArray) (w : World) (e : Ending) (w' : World) : Prop := e = .returned (.string s) ∧ Below w.heap.size w w'
/-- The zero cells of a term. -/
abbrev Z4 : Array Value := #[.int .i64 0, .string ⟨#[]⟩, .slice none 0 0, .slice none 0 0]
end Go.Proofs.YtmcgocbkjdacaaaDoor
namespace Go.Proofs.YtmcgocbkjdacaaaDoor
open Go.RowKit
set_option linter.unusedVariables false
set_option linter.unusedSimpArgs false

/-- The primitives' texts: ten of two, then eight of one. -/
def prims : List (List UInt8) := [[43], [45], [42], [113, 117, 111, 116, 105, 101, 110, 116], [114, 101, 109, 97, 105, 110, 100, 101, 114], [60], [61], [101, 113, 63], [99, 111, 110, 115], [115, 101, 113], [99, 97, 114], [99, 100, 114], [110, 117, 108, 108, 63], [112, 97, 105, 114, 63], [110, 111, 116], [105, 110, 116, 101, 103, 101, 114, 63], [115, 121, 109, 98, 111, 108, 63], [101, 114, 114, 111, 114]]
/-- How many terms a primitive takes, by its place in a list. -/
def arityIn : List (List UInt8) → Nat → ByteArray → Nat
  | [], _, _ => 0
  | p :: l, i, t => if t.toList == p then (if i < 10 then 2 else 1) else arityIn l (i + 1) t
def arity (t : ByteArray) : Nat := arityIn prims 0 t
instance memDec (s : ByteArray) (ns : List ByteArray) : Decidable (s ∈ ns) := decidable_of_iff (ns.any (fun x => decide (x = s)) = true) (by simp)
/-- Names: none empty, none twice. -/
def Once (ns : List ByteArray) : Prop := (∀ s ∈ ns, s ≠ ⟨#[]⟩) ∧ ns.Nodup
instance (ns : List ByteArray) : Decidable (Once ns) := inferInstanceAs (Decidable (_ ∧ _))
def textB (num : ByteArray → Bool) (k : Int) (t : ByteArray) : Bool :=
  if k = 1 then num t else if k = 2 then (t.toList == [35, 116] || t.toList == [35, 102]) else if k = 4 ∨ k = 5 then !t.toList.isEmpty else if k = 10 then decide (0 < arity t)
  else if k = 3 ∨ k = 6 ∨ k = 7 ∨ k = 8 ∨ k = 9 then t.toList.isEmpty else false
def namesB (k : Int) (ns : List ByteArray) : Bool := if k = 6 ∨ k = 9 then decide (0 < ns.length) && decide (Once ns) else decide (ns.length = 0)
def partsB (k : Int) (t : ByteArray) (m n : Nat) : Bool :=
  if k = 6 then decide (n = 1) else if k = 7 then decide (2 ≤ n) else if k = 8 then decide (n = 3) else if k = 9 then decide (n = m + 1) else if k = 10 then decide (n = arity t) else decide (n = 0)
/-- A term's own right form. -/
def shapeB (num : ByteArray → Bool) (k : Int) (t : ByteArray) (ns : List ByteArray) (n : Nat) : Bool := textB num k t && namesB k ns && partsB k t ns.length n
mutual
def Et.right (num : ByteArray → Bool) : Et → Bool
  | .mk k t ns a => shapeB num k t ns a.length && Et.rights num a
def Et.rights (num : ByteArray → Bool) : List Et → Bool
  | [] => true
  | e :: l => e.right num && Et.rights num l
end
theorem rights_all {num : ByteArray → Bool} : ∀ (l : List Et), Et.rights num l = true ↔ ∀ e ∈ l, Et.right num e = true
  | [] => by simp [Et.rights]
  | e :: l => by simp [Et.rights, rights_all l]
theorem rights_append {num : ByteArray → Bool} : ∀ (l m : List Et), Et.rights num (l ++ m) = (Et.rights num l && Et.rights num m)
  | [], m => by simp [Et.rights]
  | e :: l, m => by simp [Et.rights, rights_append l m, Bool.and_assoc]
theorem rights_take {num : ByteArray → Bool} (l : List Et) (j : Nat) (h : j < l.length) : Et.rights num (l.take (j + 1)) = (Et.rights num (l.take j) && Et.right num l[j]) := by
  rw [take_snoc_et l j h, rights_append]; simp [Et.rights]
theorem rights_false {num : ByteArray → Bool} (l : List Et) (j : Nat) (h : j < l.length) (hf : Et.right num l[j] = false) : Et.rights num l = false := by
  cases hr : Et.rights num l with
  | false => rfl
  | true => rw [(rights_all l).1 hr _ (List.getElem_mem h)] at hf; cases hf
mutual
/-- A name is free in a term. -/
def Et.fr (s : ByteArray) : Et → Prop
  | .mk k t ns a => (k = 5 ∧ t = s) ∨ (Et.frs s a ∧ s ∉ ns)
def Et.frs (s : ByteArray) : List Et → Prop
  | [] => False
  | e :: l => e.fr s ∨ Et.frs s l
end
theorem frs_iff {s : ByteArray} : ∀ (l : List Et), Et.frs s l ↔ ∃ e ∈ l, Et.fr s e
  | [] => by simp [Et.frs]
  | e :: l => by simp [Et.frs, frs_iff l]
mutual
/-- The names that a term binds, from its head on. -/
def Et.bnd : Et → List ByteArray
  | .mk _ _ ns a => ns ++ Et.bnds a
def Et.bnds : List Et → List ByteArray
  | [] => []
  | e :: l => e.bnd ++ Et.bnds l
end
theorem bnds_append : ∀ (l m : List Et), Et.bnds (l ++ m) = Et.bnds l ++ Et.bnds m
  | [], m => by simp [Et.bnds]
  | e :: l, m => by simp [Et.bnds, bnds_append l m]
mutual
/-- Texts and names are short, and there are few names at each. -/
def Et.fine : Et → Prop
  | .mk _ t ns a => t.size ≤ 100 ∧ ns.length ≤ 100 ∧ (∀ s ∈ ns, s.size ≤ 100) ∧ Et.fines a
def Et.fines : List Et → Prop
  | [] => True
  | e :: l => e.fine ∧ Et.fines l
end
theorem fines_all : ∀ (l : List Et), Et.fines l ↔ ∀ e ∈ l, Et.fine e
  | [] => by simp [Et.fines]
  | e :: l => by simp [Et.fines, fines_all l]
theorem fine_mk (k : Int) (t : ByteArray) (ns : List ByteArray) (a : List Et) : (Et.mk k t ns a).fine ↔ t.size ≤ 100 ∧ ns.length ≤ 100 ∧ (∀ s ∈ ns, s.size ≤ 100) ∧ ∀ e ∈ a, e.fine := by
  rw [← fines_all]; unfold Et.fine; rfl
theorem right_mk (num : ByteArray → Bool) (k : Int) (t : ByteArray) (ns : List ByteArray) (a : List Et) : (Et.mk k t ns a).right num = (shapeB num k t ns a.length && Et.rights num a) := by
  unfold Et.right; rfl
end Go.Proofs.YtmcgocbkjdacaaaDoor
namespace Go.Proofs.YtmcgocbkjdacaaaDoor
open Go.RowKit
set_option linter.unusedVariables false
set_option linter.unusedSimpArgs false
theorem ret_int {k : IntKind} {a b : Int} (h : a = b) : Ending.returned (.int k a) = .returned (.int k b) := by rw [h]
def RetSame (r : Int) (w : World) (e : Ending) (w' : World) : Prop := e = .returned (.int .i64 r) ∧ w = w'
end Go.Proofs.YtmcgocbkjdacaaaDoor
namespace Go.Proofs.YtmcgocbkjdacaaaDoor
open Go.RowKit
set_option linter.unusedVariables false
set_option linter.unusedSimpArgs false
theorem info28 : (Tryd.prog.info? 28).map (·.size) = some 4 := by kernel_rfl
theorem alloc_at (w : World) (o : Obj) : (w.alloc o).heap[w.heap.size]? = some o := heap_alloc_new w o
theorem setRow_new (w : World) (z cs : Array Value) (T : TypeId) : (w.alloc (.cells z T)).setRow w.heap.size cs = w.alloc (.cells cs T) := by
  unfold World.setRow World.alloc
  simp only [World.mk.injEq, and_true]
  apply Array.ext
  · simp
  · intro k h1 h2
    simp only [Array.getElem_modify]
    split
    · rename_i hk; subst hk; simp
    · rename_i hk
      simp only [Array.getElem_push]
      split
      · rfl
      · rename_i h3
        simp at h1
        omega
section
variable {P : Program} {ops : Array Oper} {Q : Exit → Act → World → Prop} {a : Act} {w : World} {rest : List Oper} {o : Oper}
theorem wpList_wanted (hw : Region.wanted o (yielded ops a.tmps) = true) (h : ∀ K : Act → World → Prop, (∀ a w, wpList P ops Q rest a w → K a w) → o.wp P a w K Q) : wpList P ops Q (o :: rest) a w :=
  wpList_step fun K hK => by rw [if_pos hw]; exact h K hK
theorem wpList_load_wanted (hw : Region.wanted o (yielded ops a.tmps) = true) (ty : TypeId) (x : Operand) (ho : o.op = .load ty x)
    (g : Nat) (hx : a.eval x = .pointer (some ⟨g, 0, none⟩)) (t : TypeId) (cs : Array Value) (fr : Nat × Nat) (d : TypeDesc) (hg : w.heap[g]? = some (.cells cs t fr))
    (hu : P.underlying ty = some d) (hd : (match d with | .struct _ | .array _ _ => true | _ => false) = true) (hi : (P.info? ty).map (·.size) = some cs.size)
    (h : wpList P ops Q rest (a.put o.dst (.agg cs)) w) : wpList P ops Q (o :: rest) a w :=
  wpList_wanted hw fun _ hK => wp_load_row ty x ho g hx t cs fr d hg hu hd hi (hK _ _ h)
end
theorem row_below {w w' : World} (h : Below w.heap.size w w') {g : Nat} {c : Array Value} {T : TypeId} {fz : Nat × Nat} (hg : w.heap[g]? = some (.cells c T fz)) : w'.heap[g]? = some (.cells c T fz) := by
  rw [h.block g (Array.getElem?_eq_some_iff.1 hg).1]; exact hg
theorem below_setRow {b : Nat} {a w : World} (h : Below b a w) (g : Nat) (cs : Array Value) (hg : b ≤ g) : Below b a (w.setRow g cs) :=
  h.trans ⟨rfl, rfl, rfl, by simp, fun k hk => setRow_other w g k cs (by omega)⟩
/-- Texts as cells. -/
def tcells (l : List ByteArray) : Array Value := (l.map Value.string).toArray
theorem tcells_at (l : List ByteArray) (i : Nat) (hi : i < l.length) : (tcells l)[i]? = some (.string l[i]) := by
  unfold tcells
  rw [List.getElem?_toArray, List.getElem?_map, List.getElem?_eq_getElem hi]; rfl
theorem tcells_get (w : World) (g : Nat) (l : List ByteArray) (hg : w.heap[g]? = some (.cells (tcells l) 9 (0, 0))) (i : Nat) (hi : i < l.length) : w.cell? ⟨g, i, none⟩ = some (.string (l.getD i ⟨#[]⟩)) := by
  rw [Lib.cell_of_heap hg, tcells_at l i hi, List.getD_eq_getElem?_getD, List.getElem?_eq_getElem hi]; rfl
theorem str_app (a b : List UInt8) : (⟨a.toArray⟩ ++ ⟨b.toArray⟩ : ByteArray) = ⟨(a ++ b).toArray⟩ := by
  apply ByteArray.ext
  simp [ByteArray.data_append]
/-- Texts are one where their bytes are. -/
theorem str_eq {a b : ByteArray} : (a.toList == b.toList) = decide (a = b) := by
  rw [Lib.toList_data, Lib.toList_data]
  by_cases h : a = b
  · subst h; simp
  · have : ¬ a.data.toList = b.data.toList := fun e => h (ByteArray.ext (Array.toList_inj.1 e))
    rw [decide_eq_false h, beq_eq_false_iff_ne]; exact this
theorem str_eqL {a : ByteArray} (l : List UInt8) : (a.toList == l) = decide (a = ⟨l.toArray⟩) := by
  have : l = (⟨l.toArray⟩ : ByteArray).toList := by rw [Lib.toList_data]
  conv => lhs; rw [this]
  exact str_eq
end Go.Proofs.YtmcgocbkjdacaaaDoor
namespace Go.Proofs.YtmcgocbkjdacaaaDoor
open Go.RowKit
set_option linter.unusedVariables false

theorem infoByte : (Tryd.prog.info? 5).map (fun i => (i.zero, i.size, i.bytes)) = some (some (.int .u8 0), 1, 1) := by kernel_rfl
theorem byteCells_snoc (l : List UInt8) (c : UInt8) : Lib.byteCells l ++ [.int .u8 (c.toNat : Int)] = Lib.byteCells (l ++ [c]) := by simp [Lib.byteCells]
theorem strCells_bytes (s : ByteArray) : Lib.strCells s = Lib.byteCells s.data.toList := by simp [Lib.strCells, Lib.byteCells]
theorem byteCells_append (l m : List UInt8) : Lib.byteCells l ++ Lib.byteCells m = Lib.byteCells (l ++ m) := by simp [Lib.byteCells]

end Go.Proofs.YtmcgocbkjdacaaaDoor
namespace Go.Proofs.YtmcgocbkjdacaaaDoor
open Go.RowKit
set_option linter.unusedVariables false

end Go.Proofs.YtmcgocbkjdacaaaDoor
namespace Go.Proofs.YtmcgocbkjdacaaaDoor
open Go.RowKit
set_option linter.unusedVariables false
set_option linter.unusedSimpArgs false
/-- Texts, one behind the other. -/
def cat (ts : List ByteArray) : List UInt8 := ts.flatMap fun s => s.data.toList
theorem cat_snoc (l : List ByteArray) (x : ByteArray) : cat (l ++ [x]) = cat l ++ x.data.toList := by simp [cat]
theorem cat_take (ts : List ByteArray) (j : Nat) (h : j < ts.length) : cat (ts.take (j + 1)) = cat (ts.take j) ++ ts[j].data.toList := by
  rw [List.take_succ_eq_append_getElem h, cat_snoc]
theorem cat_le (ts : List ByteArray) (j : Nat) : (cat (ts.take j)).length ≤ (cat ts).length := by
  have : cat ts = cat (ts.take j) ++ cat (ts.drop j) := by unfold cat; rw [← List.flatMap_append, List.take_append_drop]
  rw [this, List.length_append]; omega
theorem NAt.lits (w : World) (ts : List ByteArray) : NAt (fun g => w.heap.size ≤ g) (w.alloc (.cells (tcells ts) 9)) (.slice (some ⟨w.heap.size, 0, none⟩) ts.length ts.length) ts :=
  .inr ⟨w.heap.size, 0, ts.length, tcells ts, (0, 0), rfl, Nat.le_refl _, alloc_at _ _, fun j hj => by rw [Nat.zero_add]; exact tcells_at ts j hj, Nat.le_refl _⟩
end Go.Proofs.YtmcgocbkjdacaaaDoor
namespace Go.BigM
set_option linter.unusedVariables false

/-- A byte is a digit. -/
def isD (c : UInt8) : Prop := 48 ≤ c.toNat ∧ c.toNat ≤ 57
instance (c : UInt8) : Decidable (isD c) := by unfold isD; infer_instance

/-- The value of a row of digits, the highest first. -/
def dval (l : List UInt8) : Nat := l.foldl (fun n c => 10 * n + (c.toNat - 48)) 0

theorem dval_nil : dval [] = 0 := rfl
theorem dval_snoc (l : List UInt8) (c : UInt8) : dval (l ++ [c]) = 10 * dval l + (c.toNat - 48) := by
  unfold dval; rw [List.foldl_append]; rfl

theorem dval_go (l : List UInt8) : ∀ n, l.foldl (fun n c => 10 * n + (c.toNat - 48)) n = n * 10 ^ l.length + dval l := by
  induction l with
  | nil => intro n; simp [dval]
  | cons c l ih =>
    intro n
    have h1 := ih (10 * n + (c.toNat - 48))
    have h2 := ih (10 * 0 + (c.toNat - 48))
    simp only [List.foldl_cons, dval]
    rw [h1, h2]
    simp only [List.length_cons, Nat.pow_succ]
    rw [Nat.add_mul, Nat.add_mul]
    have : 10 * n * 10 ^ l.length = n * (10 ^ l.length * 10) := by rw [Nat.mul_comm 10 n, Nat.mul_assoc, Nat.mul_comm 10]
    omega

theorem dval_append (l m : List UInt8) : dval (l ++ m) = dval l * 10 ^ m.length + dval m := by
  unfold dval; rw [List.foldl_append]; exact dval_go m _

theorem dval_cons (c : UInt8) (m : List UInt8) : dval (c :: m) = (c.toNat - 48) * 10 ^ m.length + dval m := by
  have := dval_append [c] m
  simpa [dval] using this

theorem dval_lt (l : List UInt8) (h : ∀ c ∈ l, isD c) : dval l < 10 ^ l.length := by
  induction l with
  | nil => simp [dval]
  | cons c l ih =>
    rw [dval_cons, List.length_cons, Nat.pow_succ]
    have h1 := ih (fun x hx => h x (by simp [hx]))
    have h2 := (h c (by simp)).2
    have : (c.toNat - 48) * 10 ^ l.length ≤ 9 * 10 ^ l.length := Nat.mul_le_mul_right _ (by omega)
    omega

/-- The limb at a place; 0 behind the end. -/
def lg (l : List Nat) (j : Nat) : Nat := l.getD j 0

/-- The base of a limb. -/
def B : Nat := 1000000000

/-- The value of a row of limbs, the lowest first. -/
def lval : List Nat → Nat
  | [] => 0
  | a :: l => a + B * lval l

/-- All are limbs. -/
def Small (l : List Nat) : Prop := ∀ a ∈ l, a < B

theorem Small.nil : Small [] := by simp [Small]
theorem Small.cons {a l} (h : a < B) (hl : Small l) : Small (a :: l) := by
  intro x hx; simp at hx; rcases hx with rfl | hx; exact h; exact hl x hx
theorem Small.tail {a l} (h : Small (a :: l)) : Small l := fun x hx => h x (by simp [hx])
theorem Small.head {a l} (h : Small (a :: l)) : a < B := h a (by simp)
theorem Small.append {l m} (h : Small l) (k : Small m) : Small (l ++ m) := by
  intro x hx; simp at hx; rcases hx with hx | hx; exact h x hx; exact k x hx
theorem Small.left {l m} (h : Small (l ++ m)) : Small l := fun x hx => h x (by simp [hx])
theorem Small.right {l m} (h : Small (l ++ m)) : Small m := fun x hx => h x (by simp [hx])
theorem Small.take {l} (h : Small l) (n : Nat) : Small (l.take n) := fun x hx => h x (List.mem_of_mem_take hx)
theorem Small.drop {l} (h : Small l) (n : Nat) : Small (l.drop n) := fun x hx => h x (List.mem_of_mem_drop hx)
theorem Small.getD {l} (h : Small l) (n : Nat) : l.getD n 0 < B := by
  rw [List.getD_eq_getElem?_getD]
  by_cases hn : n < l.length
  · rw [List.getElem?_eq_getElem hn]; exact h _ (List.getElem_mem hn)
  · rw [List.getElem?_eq_none (by omega)]; simp [B]
theorem Small.zeros (n : Nat) : Small (List.replicate n 0) := by
  intro x hx; simp [List.mem_replicate] at hx; rw [hx.2]; simp [B]

theorem lval_append (l m : List Nat) : lval (l ++ m) = lval l + B ^ l.length * lval m := by
  induction l with
  | nil => simp [lval]
  | cons a l ih =>
    simp only [List.cons_append, lval, ih, List.length_cons, Nat.pow_succ]
    rw [Nat.mul_add, ← Nat.mul_assoc, Nat.mul_comm B (B ^ l.length)]; omega

theorem lval_snoc (l : List Nat) (a : Nat) : lval (l ++ [a]) = lval l + B ^ l.length * a := by
  rw [lval_append]; simp [lval]

theorem lval_zeros (n : Nat) : lval (List.replicate n 0) = 0 := by
  induction n with
  | zero => rfl
  | succ n ih => simp [List.replicate_succ, lval, ih]

theorem lval_lt (l : List Nat) (h : Small l) : lval l < B ^ l.length := by
  induction l with
  | nil => simp [lval]
  | cons a l ih =>
    have h1 := ih h.tail
    have h2 := h.head
    simp only [lval, List.length_cons, Nat.pow_succ]
    have : B * (lval l + 1) ≤ B * B ^ l.length := Nat.mul_le_mul_left _ (by omega)
    rw [Nat.mul_comm (B ^ l.length) B]
    rw [Nat.mul_add] at this
    omega

theorem Bpos (n : Nat) : 0 < B ^ n := Nat.pow_pos (by simp [B])

/-- Rows of one length, of limbs, of one value, are one. -/
theorem lval_inj : ∀ (l m : List Nat), l.length = m.length → Small l → Small m → lval l = lval m → l = m
  | [], [], _, _, _, _ => rfl
  | a :: l, b :: m, hl, h1, h2, hv => by
    simp only [lval] at hv
    have e1 : (a + B * lval l) % B = (b + B * lval m) % B := by rw [hv]
    rw [Nat.add_mul_mod_self_left, Nat.add_mul_mod_self_left, Nat.mod_eq_of_lt h1.head, Nat.mod_eq_of_lt h2.head] at e1
    subst e1
    have : B * lval l = B * lval m := by omega
    have := Nat.eq_of_mul_eq_mul_left (show 0 < B by simp [B]) this
    rw [lval_inj l m (by simpa using hl) h1.tail h2.tail this]
  | [], b :: m, hl, _, _, _ => by simp at hl
  | a :: l, [], hl, _, _, _ => by simp at hl

theorem lval_split (l : List Nat) (n : Nat) : lval l = lval (l.take n) + B ^ (min n l.length) * lval (l.drop n) := by
  have := lval_append (l.take n) (l.drop n)
  rw [List.take_append_drop] at this
  rw [this, List.length_take]

theorem take_succ_getD (l : List Nat) (n : Nat) (h : n < l.length) : l.take (n + 1) = l.take n ++ [l.getD n 0] := by
  rw [List.take_succ_eq_append_getElem h, List.getD_eq_getElem?_getD, List.getElem?_eq_getElem h]; rfl

theorem lval_take_succ (l : List Nat) (n : Nat) (h : n < l.length) : lval (l.take (n + 1)) = lval (l.take n) + B ^ n * l.getD n 0 := by
  rw [take_succ_getD l n h, lval_snoc, List.length_take, Nat.min_eq_left (by omega)]

theorem lval_take_ge (l : List Nat) (n : Nat) (h : l.length ≤ n) : lval (l.take n) = lval l := by rw [List.take_of_length_le h]

/-- A text without the sign that it may begin with. -/
def strip (l : List UInt8) : List UInt8 := if l.head? = some 45 then l.tail else l
/-- Does it begin with the sign? -/
def low (l : List UInt8) : Bool := l.head? == some 45
theorem strip_low (l : List UInt8) (h : low l = true) : strip l = l.tail := by unfold strip low at *; rw [if_pos (by simpa using h)]
theorem strip_high (l : List UInt8) (h : low l = false) : strip l = l := by unfold strip low at *; rw [if_neg (by simpa using h)]
/-- A number's text: W1 of the document. -/
def Canon (l : List UInt8) : Prop := 1 ≤ (strip l).length ∧ (strip l).length ≤ 200 ∧ (∀ c ∈ strip l, isD c) ∧ ((strip l).head? ≠ some 48 ∨ l = [48])
instance (l : List UInt8) : Decidable (Canon l) := by unfold Canon; infer_instance
theorem strip_le (l : List UInt8) : (strip l).length ≤ l.length := by unfold strip; split <;> simp

/-- How many limbs there are without the noughts on top. -/
def usedOf : List Nat → Nat
  | [] => 0
  | a :: l => if usedOf l = 0 then (if a = 0 then 0 else 1) else usedOf l + 1
theorem usedOf_le (l : List Nat) : usedOf l ≤ l.length := by
  induction l with
  | nil => simp [usedOf]
  | cons a l ih => simp only [usedOf, List.length_cons]; split <;> (try split) <;> omega
theorem usedOf_zeros (n : Nat) : usedOf (List.replicate n 0) = 0 := by
  induction n with
  | zero => rfl
  | succ n ih => simp [List.replicate_succ, usedOf, ih]
/-- It is k, if the limbs from k on are noughts, and the one ahead is none. -/
theorem usedOf_is : ∀ (l : List Nat) (k : Nat), k ≤ l.length → (∀ j, k ≤ j → l.getD j 0 = 0) → (k = 0 ∨ l.getD (k - 1) 0 ≠ 0) → usedOf l = k
  | [], k, hk, _, _ => by simp at hk; simp [usedOf, hk]
  | a :: l, 0, hk, hz, _ => by
    have := usedOf_is l 0 (Nat.zero_le _) (fun j _ => by have := hz (j + 1) (Nat.zero_le _); simpa using this) (Or.inl rfl)
    have ha := hz 0 (Nat.zero_le _)
    simp at ha
    simp [usedOf, this, ha]
  | a :: l, 1, hk, hz, hn => by
    have := usedOf_is l 0 (Nat.zero_le _) (fun j _ => by have := hz (j + 1) (by omega); simpa using this) (Or.inl rfl)
    have ha : a ≠ 0 := by simpa using hn
    simp [usedOf, this, ha]
  | a :: l, k + 2, hk, hz, hn => by
    have := usedOf_is l (k + 1) (by simpa using hk) (fun j hj => by have := hz (j + 1) (by omega); simpa using this) (Or.inr (by simpa using hn))
    simp [usedOf, this]
theorem usedOf_zero : ∀ (l : List Nat) (j : Nat), usedOf l ≤ j → l.getD j 0 = 0
  | [], j, _ => by simp
  | a :: l, 0, h => by
    simp only [usedOf] at h
    simp only [List.getD_cons_zero]
    split at h
    · split at h <;> omega
    · omega
  | a :: l, j + 1, h => by
    simp only [List.getD_cons_succ]
    refine usedOf_zero l j ?_
    simp only [usedOf] at h
    split at h <;> omega
theorem usedOf_top : ∀ (l : List Nat), usedOf l ≠ 0 → l.getD (usedOf l - 1) 0 ≠ 0
  | [], h => by simp [usedOf] at h
  | a :: l, h => by
    simp only [usedOf] at h ⊢
    by_cases hl : usedOf l = 0
    · simp only [hl, if_true] at h ⊢
      by_cases ha : a = 0
      · simp [ha] at h
      · simp [ha]
    · simp only [hl, if_false] at h ⊢
      have := usedOf_top l hl
      obtain ⟨m, hm⟩ : ∃ m, usedOf l = m + 1 := ⟨usedOf l - 1, by omega⟩
      rw [hm] at this ⊢
      simpa using this
theorem lval_drop_zero (l : List Nat) : ∀ n, (∀ j, n ≤ j → l.getD j 0 = 0) → lval (l.drop n) = 0 := by
  induction l with
  | nil => intro n _; simp [lval]
  | cons a l ih =>
    intro n h
    cases n with
    | zero =>
      have h0 := h 0 (Nat.le_refl _)
      have := ih 0 (fun j _ => by have := h (j + 1) (by omega); simpa using this)
      simp at h0 this
      simp [lval, h0, this]
    | succ n => simpa using ih n (fun j hj => by have := h (j + 1) (by omega); simpa using this)
theorem lval_used (l : List Nat) : lval (l.take (usedOf l)) = lval l := by
  rw [lval_split l (usedOf l), lval_drop_zero l _ (fun j hj => usedOf_zero l j hj)]; omega
theorem usedOf_zero_iff (l : List Nat) : usedOf l = 0 ↔ lval l = 0 := by
  constructor
  · intro h; have := lval_used l; rw [h] at this; simpa [lval] using this.symm
  · intro h
    by_cases hu : usedOf l = 0
    · exact hu
    · exfalso
      have h1 := usedOf_top l hu
      have h2 := lval_take_succ l (usedOf l - 1) (by have := usedOf_le l; omega)
      have h3 : usedOf l - 1 + 1 = usedOf l := by omega
      rw [h3, lval_used, h] at h2
      have : 0 < B ^ (usedOf l - 1) * l.getD (usedOf l - 1) 0 := Nat.mul_pos (Bpos _) (Nat.pos_of_ne_zero h1)
      omega

theorem lval_lt_of_top (A C : List Nat) (k : Nat) (hA : k < A.length) (hC : k < C.length) (h1 : Small A) (hd : A.drop (k + 1) = C.drop (k + 1)) (hl : lg A k < lg C k) :
    lval A < lval C := by
  have eA := lval_split A (k + 1)
  have eC := lval_split C (k + 1)
  rw [Nat.min_eq_left (by omega), lval_take_succ _ _ hA] at eA
  rw [Nat.min_eq_left (by omega), lval_take_succ _ _ hC, ← hd] at eC
  have b1 := lval_lt (A.take k) (h1.take k)
  rw [List.length_take, Nat.min_eq_left (by omega)] at b1
  have b2 : B ^ k * (A.getD k 0 + 1) ≤ B ^ k * C.getD k 0 := Nat.mul_le_mul_left _ hl
  rw [Nat.mul_add, Nat.mul_one] at b2
  omega
theorem drop_step (A C : List Nat) (k : Nat) (hA : k < A.length) (hC : k < C.length) (hd : A.drop (k + 1) = C.drop (k + 1)) (hl : lg A k = lg C k) : A.drop k = C.drop k := by
  rw [List.drop_eq_getElem_cons hA, List.drop_eq_getElem_cons hC, hd]
  congr 1
  unfold lg at hl
  rw [List.getD_eq_getElem?_getD, List.getD_eq_getElem?_getD, List.getElem?_eq_getElem hA, List.getElem?_eq_getElem hC] at hl
  exact hl

theorem lval_take_lg (l : List Nat) (n : Nat) : lval (l.take (n + 1)) = lval (l.take n) + B ^ n * lg l n := by
  by_cases h : n < l.length
  · exact lval_take_succ l n h
  · rw [List.take_of_length_le (by omega), List.take_of_length_le (by omega)]
    have : lg l n = 0 := by unfold lg; rw [List.getD_eq_getElem?_getD, List.getElem?_eq_none (by omega)]; rfl
    rw [this]; omega
theorem lg_of_drop (l : List Nat) (o i : Nat) : lg (l.drop o) i = lg l (o + i) := by
  unfold lg; rw [List.getD_eq_getElem?_getD, List.getD_eq_getElem?_getD, List.getElem?_drop]
/-- One step of a sum with carry. -/
theorem add_step (P A q Rv c a r i : Nat) (h : P + B ^ i * c = A + q * Rv) :
    P + B ^ i * ((c + a + r * q) % B) + B ^ (i + 1) * ((c + a + r * q) / B) = A + B ^ i * a + q * (Rv + B ^ i * r) := by
  have h1 := Nat.mod_add_div (c + a + r * q) B
  have h2 : B ^ i * ((c + a + r * q) % B) + B ^ (i + 1) * ((c + a + r * q) / B) = B ^ i * (c + a + r * q) := by
    rw [Nat.pow_succ, Nat.mul_assoc, ← Nat.mul_add, h1]
  have h3 : B ^ i * (c + a + r * q) = B ^ i * c + B ^ i * a + q * (B ^ i * r) := by
    rw [Nat.mul_add, Nat.mul_add, Nat.mul_comm r q, ← Nat.mul_assoc, ← Nat.mul_assoc, Nat.mul_comm (B ^ i) q]
  rw [Nat.mul_add]
  omega

/-- One step of a difference with borrow: d is what is left of a, with b borrowed (0 or 1). -/
theorem take_step (P A q Rv c a r i d b : Nat) (h : P + q * Rv = A + B ^ i * c) (hd : d + (c + r * q) % B = a + B * b) :
    P + B ^ i * d + q * (Rv + B ^ i * r) = A + B ^ i * a + B ^ (i + 1) * ((c + r * q) / B + b) := by
  have h1 := Nat.mod_add_div (c + r * q) B
  have h2 : B ^ i * ((c + r * q) % B) + B ^ (i + 1) * ((c + r * q) / B) = B ^ i * c + q * (B ^ i * r) := by
    rw [Nat.pow_succ, Nat.mul_assoc, ← Nat.mul_add, h1, Nat.mul_add, Nat.mul_comm r q, ← Nat.mul_assoc, ← Nat.mul_assoc, Nat.mul_comm (B ^ i) q]
  have h3 : B ^ i * d + B ^ i * ((c + r * q) % B) = B ^ i * a + B ^ (i + 1) * b := by
    rw [Nat.pow_succ, Nat.mul_assoc, ← Nat.mul_add, ← Nat.mul_add, hd]
  rw [Nat.mul_add, Nat.mul_add]
  omega

theorem lval_take_used (l : List Nat) (k : Nat) (h : usedOf l ≤ k) : lval (l.take k) = lval l := by
  rw [lval_split l k, lval_drop_zero l _ (fun j hj => usedOf_zero l j (by omega))]; omega
theorem lval_lt_used (l : List Nat) (k : Nat) (h : usedOf l ≤ k) (s : Small l) : lval l < B ^ k := by
  rw [← lval_take_used l k h]
  have := lval_lt (l.take k) (s.take k)
  rw [List.length_take] at this
  exact Nat.lt_of_lt_of_le this (Nat.pow_le_pow_right (by simp [B]) (Nat.min_le_left _ _))
theorem lval_drop_used (l : List Nat) (k : Nat) (h : usedOf l ≤ k) : lval (l.drop k) = 0 := lval_drop_zero l _ (fun j hj => usedOf_zero l j (by omega))
/-- Fewer limbs are used, the less the value is. -/
theorem used_of_lt (l : List Nat) (k : Nat) (h : lval l < B ^ k) : usedOf l ≤ k := by
  by_cases hu : usedOf l ≤ k
  · exact hu
  · exfalso
    have h1 := usedOf_top l (by omega)
    have h2 := lval_take_succ l (usedOf l - 1) (by have := usedOf_le l; omega)
    have h3 : usedOf l - 1 + 1 = usedOf l := by omega
    rw [h3, lval_used] at h2
    have h4 : B ^ k ≤ B ^ (usedOf l - 1) := Nat.pow_le_pow_right (by simp [B]) (by omega)
    have h5 : B ^ (usedOf l - 1) * 1 ≤ B ^ (usedOf l - 1) * l.getD (usedOf l - 1) 0 := Nat.mul_le_mul_left _ (Nat.pos_of_ne_zero h1)
    omega
theorem used_mono (l m : List Nat) (s : Small m) (h : lval l ≤ lval m) : usedOf l ≤ usedOf m := by
  have := lval_lt_used m _ (Nat.le_refl _) s
  exact used_of_lt l _ (by omega)

theorem dval_split (l : List UInt8) (c m : Nat) (hc : c ≤ m) (hm : m ≤ l.length) : dval (l.drop c) = dval ((l.take m).drop c) * 10 ^ (l.length - m) + dval (l.drop m) := by
  have : l.drop c = (l.take m).drop c ++ l.drop m := by
    rw [List.drop_take]
    have h2 : l.drop m = (l.drop c).drop (m - c) := by rw [List.drop_drop]; congr 1; omega
    rw [h2, List.take_append_drop]
  rw [this, dval_append, List.length_drop]
theorem B_pow (i : Nat) : B ^ i = 10 ^ (9 * i) := by unfold B; rw [Nat.pow_mul]

/-- The digits of a number, the highest first; none of 0. -/
def digs (v : Nat) : List UInt8 := if h : v = 0 then [] else digs (v / 10) ++ [UInt8.ofNat (48 + v % 10)]
theorem digs_zero : digs 0 = [] := by rw [digs]; simp
theorem digs_pos (v : Nat) (h : v ≠ 0) : digs v = digs (v / 10) ++ [UInt8.ofNat (48 + v % 10)] := by rw [digs, dif_neg h]
theorem dig_nat (d : Nat) (h : d < 10) : (UInt8.ofNat (48 + d)).toNat = 48 + d := by rw [UInt8.toNat_ofNat_of_lt' (by show _ < 256; omega)]
theorem dig_back (c : UInt8) (h : isD c) : UInt8.ofNat (48 + (c.toNat - 48)) = c := by
  apply UInt8.toNat_inj.1
  unfold isD at h
  rw [dig_nat _ (by omega)]; omega
theorem digs_isD : ∀ v, ∀ c ∈ digs v, isD c := by
  intro v
  induction v using Nat.strongRecOn with
  | _ v ih =>
    intro c hc
    by_cases h : v = 0
    · subst h; rw [digs_zero] at hc; simp at hc
    · rw [digs_pos v h] at hc
      simp only [List.mem_append, List.mem_singleton] at hc
      rcases hc with hc | rfl
      · exact ih (v / 10) (by omega) c hc
      · unfold isD; rw [dig_nat _ (by omega)]; omega
theorem dval_digs : ∀ v, dval (digs v) = v := by
  intro v
  induction v using Nat.strongRecOn with
  | _ v ih =>
    by_cases h : v = 0
    · subst h; rw [digs_zero]; rfl
    · rw [digs_pos v h, dval_snoc, ih (v / 10) (by omega), dig_nat _ (by omega)]; omega
theorem digs_head : ∀ v, (digs v).head? ≠ some 48 := by
  intro v
  induction v using Nat.strongRecOn with
  | _ v ih =>
    by_cases h : v = 0
    · subst h; rw [digs_zero]; simp
    · rw [digs_pos v h]
      by_cases h2 : v / 10 = 0
      · rw [h2, digs_zero]
        simp only [List.nil_append, List.head?_cons]
        intro e
        injection e with e
        have := congrArg UInt8.toNat e
        rw [dig_nat _ (by omega)] at this
        have h48 : (48 : UInt8).toNat = 48 := rfl
        omega
      · have h3 := ih (v / 10) (by omega)
        cases hd : digs (v / 10) with
        | nil => rw [digs_pos _ h2] at hd; simp at hd
        | cons a m => rw [hd] at h3; simpa using h3
theorem digs_len : ∀ n v, (digs v).length ≤ n ↔ v < 10 ^ n := by
  intro n
  induction n with
  | zero =>
    intro v
    by_cases h : v = 0
    · subst h; simp [digs_zero]
    · rw [digs_pos v h]; simp; omega
  | succ n ih =>
    intro v
    by_cases h : v = 0
    · subst h; simp [digs_zero, Nat.pow_pos]
    · rw [digs_pos v h, List.length_append, List.length_singleton, Nat.add_le_add_iff_right, ih (v / 10), Nat.pow_succ]
      rw [Nat.div_lt_iff_lt_mul (by decide)]
theorem digs_snoc (x : Nat) (c : UInt8) (hc : isD c) (h : 10 * x + (c.toNat - 48) ≠ 0) : digs (10 * x + (c.toNat - 48)) = digs x ++ [c] := by
  have hc' : c.toNat - 48 < 10 := by unfold isD at hc; omega
  rw [digs_pos _ h]
  have e1 : (10 * x + (c.toNat - 48)) / 10 = x := by omega
  have e2 : (10 * x + (c.toNat - 48)) % 10 = c.toNat - 48 := by omega
  rw [e1, e2, dig_back c hc]
/-- Without the noughts ahead a row of digits is its value's digits. -/
theorem trim_digs (D : List UInt8) : (∀ c ∈ D, isD c) → D.dropWhile (· == 48) = digs (dval D) := by
  have H : ∀ n (D : List UInt8), D.length = n → (∀ c ∈ D, isD c) → D.dropWhile (· == 48) = digs (dval D) := by
    intro n
    induction n with
    | zero => intro D hD _; obtain rfl := List.length_eq_zero_iff.1 hD; simp [dval, digs_zero]
    | succ n ih =>
      intro D hD hd
      obtain ⟨E, c, rfl⟩ : ∃ E c, D = E ++ [c] := by
        have hne : D ≠ [] := by intro h; rw [h] at hD; simp at hD
        exact ⟨D.dropLast, D.getLast hne, (List.dropLast_concat_getLast hne).symm⟩
      have hE := ih E (by simpa using hD) (fun x hx => hd x (by simp [hx]))
      have hc : isD c := hd c (by simp)
      rw [List.dropWhile_append, hE, dval_snoc]
      by_cases hx : dval E = 0
      · rw [hx, digs_zero]
        by_cases hc0 : c = 48
        · subst hc0; simp [digs_zero]
        · have hcn : c.toNat ≠ 48 := fun e => hc0 (UInt8.toNat_inj.1 (by rw [e]; rfl))
          unfold isD at hc
          have := digs_snoc 0 c hc (by omega)
          rw [digs_zero] at this
          rw [this]
          simp [hc0]
      · have hne : digs (dval E) ≠ [] := by rw [digs_pos _ hx]; simp
        rw [digs_snoc _ c hc (by omega)]
        cases hde : digs (dval E) with
        | nil => exact absurd hde hne
        | cons a m => simp
  exact H D.length D rfl
theorem digs_ne (v : Nat) (h : v ≠ 0) : digs v ≠ [] := by rw [digs_pos v h]; simp

/-- What a number must be below. -/
def Lim : Nat := 10 ^ 200
theorem Lim_len (v : Nat) : (digs v).length ≤ 200 ↔ v < Lim := digs_len 200 v
/-- The text of a number, as a row of bytes; none if it has too many digits. -/
def txt (b : Bool) (v : Nat) : List UInt8 := if v = 0 then [48] else if v < Lim then (if b then 45 :: digs v else digs v) else []

/-- A number of a sign and a size. -/
def sgn (b : Bool) (v : Nat) : Int := if b then -(v : Int) else v
theorem sgn_abs (b : Bool) (v : Nat) : (sgn b v).natAbs = v := by unfold sgn; split <;> omega
theorem sgn_true (v : Nat) : sgn true v = -(v : Int) := rfl
theorem sgn_false (v : Nat) : sgn false v = v := rfl
/-- A number's text. -/
def txtI (z : Int) : List UInt8 := txt (decide (z < 0)) z.natAbs
theorem txt_sgn (b : Bool) (v : Nat) : txt b v = txtI (sgn b v) := by
  unfold txtI
  rw [sgn_abs]
  by_cases h : v = 0
  · subst h; unfold txt; simp
  · cases b with
    | true => rw [sgn_true, decide_eq_true (by omega)]
    | false => rw [sgn_false, decide_eq_false (by omega)]
/-- The number that a text is. -/
def ival (l : List UInt8) : Int := sgn (low l) (dval (strip l))

theorem digs_low (v : Nat) : low (digs v) = false := by
  unfold low
  cases hd : digs v with
  | nil => rfl
  | cons a m =>
    have h := digs_isD v a (by rw [hd]; simp)
    simp
    intro e; subst e; unfold isD at h; have h45 : (45 : UInt8).toNat = 45 := rfl; omega
theorem Lim_pos : 0 < Lim := by unfold Lim; exact Nat.pow_pos (by decide)

theorem txtI_spec (z : Int) (h : z.natAbs < Lim) : Canon (txtI z) ∧ ival (txtI z) = z := by
  unfold txtI txt
  by_cases h0 : z.natAbs = 0
  · rw [if_pos h0]
    refine ⟨by decide, ?_⟩
    have : z = 0 := by omega
    subst this; rfl
  · rw [if_neg h0, if_pos h]
    have hl := (Lim_len _).2 h
    have hne := digs_ne _ h0
    have hlen : 1 ≤ (digs z.natAbs).length := by
      cases hd : digs z.natAbs with
      | nil => exact absurd hd hne
      | cons a m => simp
    by_cases hz : z < 0
    · rw [decide_eq_true hz, if_pos rfl]
      have hlow : low (45 :: digs z.natAbs) = true := by simp [low]
      have hst : strip (45 :: digs z.natAbs) = digs z.natAbs := by rw [strip_low _ hlow]; rfl
      refine ⟨⟨by rw [hst]; exact hlen, by rw [hst]; exact hl, by rw [hst]; exact digs_isD _, Or.inl (by rw [hst]; exact digs_head _)⟩, ?_⟩
      unfold ival
      rw [hst, hlow, dval_digs, sgn_true]; omega
    · rw [decide_eq_false hz, if_neg Bool.false_ne_true]
      have hst : strip (digs z.natAbs) = digs z.natAbs := strip_high _ (digs_low _)
      refine ⟨⟨by rw [hst]; exact hlen, by rw [hst]; exact hl, by rw [hst]; exact digs_isD _, Or.inl (by rw [hst]; exact digs_head _)⟩, ?_⟩
      unfold ival
      rw [hst, digs_low, dval_digs, sgn_false]; omega

theorem canon_lim (l : List UInt8) (h : Canon l) : dval (strip l) < Lim := by
  obtain ⟨_, h2, h3, _⟩ := h
  have := dval_lt (strip l) h3
  unfold Lim
  exact Nat.lt_of_lt_of_le this (Nat.pow_le_pow_right (by decide) h2)
theorem canon_ival (l : List UInt8) (h : Canon l) : (ival l).natAbs < Lim := by unfold ival; rw [sgn_abs]; exact canon_lim l h
/-- A text is its number's. -/
theorem canon_txt (l : List UInt8) (h : Canon l) : txtI (ival l) = l := by
  have hlim := canon_lim l h
  obtain ⟨h1, h2, h3, h4⟩ := h
  unfold ival
  rw [← txt_sgn]
  have htrim := trim_digs (strip l) h3
  rcases h4 with h4 | h4
  · have hdw : (strip l).dropWhile (· == 48) = strip l := by
      cases hs : strip l with
      | nil => rfl
      | cons a m =>
        rw [hs] at h4
        have : a ≠ 48 := by intro e; apply h4; rw [e]; rfl
        simp [this]
    rw [hdw] at htrim
    have h0 : dval (strip l) ≠ 0 := by
      intro e; rw [e, digs_zero] at htrim; rw [htrim] at h1; simp at h1
    unfold txt
    rw [if_neg h0, if_pos hlim, ← htrim]
    cases hb : low l with
    | true =>
      rw [if_pos rfl, strip_low _ hb]
      unfold low at hb
      cases l with
      | nil => simp at hb
      | cons a m => simp at hb; rw [hb]; rfl
    | false => rw [if_neg Bool.false_ne_true, strip_high _ hb]
  · subst h4; rfl
end Go.BigM
namespace Go.Proofs.YtmcgocbkjdacaaaDoor
open Go.RowKit
set_option linter.unusedVariables false
set_option linter.unusedSimpArgs false
def RetBw (b : Bool) (w : World) (e : Ending) (w' : World) : Prop := e = .returned (.bool b) ∧ w = w'
def InInv (s : ByteArray) (ns : List ByteArray) (w : World) (iv : Value) (wr : World) : Prop :=
  ∃ j : Nat, j ≤ ns.length ∧ iv = .int .i64 (j : Int) ∧ s ∉ ns.take j ∧ wr = w
theorem in_step {s : ByteArray} {ns : List ByteArray} {j : Nat} (hlt : j < ns.length) (h : s ∉ ns.take j) (hx : ns[j] ≠ s) : s ∉ ns.take (j + 1) := by
  rw [List.take_succ_eq_append_getElem hlt]
  intro hm
  rcases List.mem_append.1 hm with hm | hm
  · exact h hm
  · simp at hm; exact hx hm.symm
set_option maxHeartbeats 2000000 in
set_option maxRecDepth 100000 in
theorem in_any (s : ByteArray) (ns : List ByteArray) (S : Nat → Prop) (v : Value) (w : World) (h : NAt S w v ns) (hn : ns.length ≤ 100000) : Calls Tryd.prog 44 #[v, .string s] w (RetBw (decide (s ∈ ns)) w) := by
  obtain ⟨ao, cap, rfl⟩ := h.form
  have H := Lib.hid h
  clear h
  go_enter Tryd.func44, Tryd.ntmps44
  go_wp2_with fail
  go_loopw [5] (fun iv wr => InInv s ns w iv wr) (fun iv _ => ns.length - (intOf iv).toNat)
  case atStart => exact ⟨0, Nat.zero_le _, rfl, by simp, rfl⟩
  case round =>
    obtain ⟨j, hj, rfl, hni, rfl⟩ := hrel
    by_cases hlt : j < ns.length
    · have q1 : decide ((j : Int) < (ns.length : Int)) = true := decide_eq_true (by omega)
      obtain ⟨g, o, rfl, hS, e0⟩ := H.out.get j hlt
      obtain ⟨x, hx⟩ : ∃ x, ns[j] = x := ⟨_, rfl⟩
      rw [hx] at e0
      by_cases he : x = s
      · subst he
        have HE : Hid (decide (x ∈ ns) = true) := decide_eq_true (by rw [← hx]; exact List.getElem_mem hlt)
        clear hx hS hni
        go_wp2_with fail
        go_ret
        exact ⟨by rw [HE.out]; rfl, rfl⟩
      · have q2 : (x.toList == s.toList) = false := by rw [str_eq]; exact decide_eq_false he
        have HN := Lib.hid (in_step hlt hni (by rw [hx]; exact he))
        clear hx hS hni
        go_wp2_with fail
        go_roundw
        case rel => exact ⟨j + 1, by omega, by go_num, HN.out, rfl⟩
        case measure => simp [intOf]; omega
    · have q1 : decide ((j : Int) < (ns.length : Int)) = false := decide_eq_false (by omega)
      have hjn : j = ns.length := by omega
      have HE : Hid (decide (s ∈ ns) = false) := decide_eq_false (by rw [hjn, List.take_length] at hni; exact hni)
      clear hjn hni
      go_wp2_with fail
      go_ret
      exact ⟨by rw [HE.out]; rfl, rfl⟩
theorem once_snoc (l : List ByteArray) (x : ByteArray) : Once (l ++ [x]) ↔ Once l ∧ x ≠ ⟨#[]⟩ ∧ x ∉ l := by
  unfold Once
  constructor
  · rintro ⟨h1, h2⟩
    rw [List.nodup_append] at h2
    refine ⟨⟨fun s hs => h1 s (by simp [hs]), h2.1⟩, h1 x (by simp), fun hx => h2.2.2 x hx x (by simp) rfl⟩
  · rintro ⟨⟨h1, h2⟩, h3, h4⟩
    refine ⟨fun s hs => ?_, ?_⟩
    · rcases List.mem_append.1 hs with hs | hs
      · exact h1 s hs
      · simp at hs; rw [hs]; exact h3
    · rw [List.nodup_append]
      refine ⟨h2, by simp, fun a ha b hb e => ?_⟩
      simp at hb; subst hb; subst e; exact h4 ha
theorem once_take {ns : List ByteArray} (h : Once ns) (j : Nat) : Once (ns.take j) := ⟨fun s hs => h.1 s (List.mem_of_mem_take hs), h.2.sublist (List.take_sublist _ _)⟩
theorem NAt.take {S : Nat → Prop} {w : World} {ao : Option Addr} {n cap : Nat} {ns : List ByteArray} (h : NAt S w (.slice ao n cap) ns) (j : Nat) (hj : j ≤ ns.length) : NAt S w (.slice ao j cap) (ns.take j) := by
  rcases h with ⟨e, rfl⟩ | ⟨g, o, cap', arr, fz, e, hS, hg, hd, hl⟩
  · injection e with e1 e2 e3
    subst e1 e3
    obtain rfl : j = 0 := by simpa using hj
    exact .inl ⟨rfl, rfl⟩
  · injection e with e1 e2 e3
    subst e1 e3
    refine .inr ⟨g, o, cap, arr, fz, by rw [List.length_take, Nat.min_eq_left hj], hS, hg, fun i hi => ?_, by rw [List.length_take]; omega⟩
    rw [List.length_take] at hi
    rw [List.getElem_take]
    exact hd i (by omega)
def OnInv (ns : List ByteArray) (w : World) (iv : Value) (wr : World) : Prop :=
  ∃ j : Nat, j ≤ ns.length ∧ iv = .int .i64 (j : Int) ∧ Once (ns.take j) ∧ Below w.heap.size w wr
set_option maxHeartbeats 4000000 in
set_option maxRecDepth 100000 in
theorem once_any (ns : List ByteArray) (S : Nat → Prop) (v : Value) (w : World) (h : NAt S w v ns) (hn : ns.length ≤ 1000) : Calls Tryd.prog 21 #[v] w (RetBool (decide (Once ns)) w) := by
  obtain ⟨ao, cap, rfl⟩ := h.form
  have hc1 := h.caps
  have H := Lib.hid h
  clear h
  go_enter Tryd.func21, Tryd.ntmps21
  go_wp2_with fail
  go_loopw [3] (fun iv wr => OnInv ns w iv wr) (fun iv _ => ns.length - (intOf iv).toNat)
  case atStart => exact ⟨0, Nat.zero_le _, rfl, by simp [Once], Below.refl _ _⟩
  case round =>
    obtain ⟨j, hj, rfl, hon, hb⟩ := hrel
    have HB := Lib.hid hb
    have HO := Lib.hid hon
    have HW := Lib.hid (H.out.keeps (Keeps.of_below hb))
    clear hb hon
    by_cases hlt : j < ns.length
    · have q1 : decide ((j : Int) < (ns.length : Int)) = true := decide_eq_true (by omega)
      obtain ⟨g, o, rfl, hS, e0⟩ := HW.out.get j hlt
      have hjc : j ≤ cap := by omega
      obtain ⟨x, hx⟩ : ∃ x, ns[j] = x := ⟨_, rfl⟩
      rw [hx] at e0
      have FI := Lib.hid (fun w' (hw' : Below wr.heap.size wr w') => in_any x (ns.take j) S _ w' ((HW.out.keeps (Keeps.of_below hw')).take j (by omega)) (by rw [List.length_take]; omega))
      have hs : ns.take (j + 1) = ns.take j ++ [x] := by rw [List.take_succ_eq_append_getElem hlt, hx]
      have HS := Lib.hid hs
      clear hx hS hs
      have hgl : g < wr.heap.size := World.block_lt_of_cell? wr _ e0
      by_cases hx0 : x = ⟨#[]⟩
      · have q2 : (x.toList == []) = true := by rw [str_eqL]; exact decide_eq_true hx0
        have HE : Hid (decide (Once ns) = false) := decide_eq_false (fun h => by
          have h1 := once_take h (j + 1)
          rw [HS.out, once_snoc] at h1
          exact h1.2.1 hx0)
        clear hx0 FI
        go_upto_region 4 with fail
        refine wp_region_noPanic ?_
        refine wp_region_held_drew (S := Below wr.heap.size wr) (by kernel_rfl) ((Below.refl _ _).drew) (fun hHeld => ?_)
        refine wpAnyH_take (i := 0) (v := Value.slice (some ⟨g, o, none⟩) ns.length cap) rfl (by kernel_rfl) (by kernel_rfl) (by kernel_rfl) (fun _ _ _ h => h) (Or.inl ⟨rfl, fun w' hw' => ?_⟩) hHeld ?_
        · go_simp
        simp only [List.getElem_toArray, List.getElem_cons_succ, List.getElem_cons_zero, Act.put, List.setIfInBounds_toArray, List.set_cons_zero, List.set_cons_succ]
        refine wpAnyH_take (i := 1) (v := Value.int .i64 (j : Int)) rfl (by kernel_rfl) (by kernel_rfl) (by kernel_rfl) (fun _ _ _ h => h) (Or.inl ⟨rfl, fun w' hw' => ?_⟩) hHeld ?_
        · go_simp
        simp only [List.getElem_toArray, List.getElem_cons_succ, List.getElem_cons_zero, Act.put, List.setIfInBounds_toArray, List.set_cons_zero, List.set_cons_succ]
        refine wpAnyH_take (i := 2) (v := Value.pointer (some ⟨g, o + j, none⟩)) rfl (by kernel_rfl) (by kernel_rfl) (by kernel_rfl) (fun _ _ _ h => h) (Or.inl ⟨rfl, fun w' hw' => ?_⟩) hHeld ?_
        · go_simp
        simp only [List.getElem_toArray, List.getElem_cons_succ, List.getElem_cons_zero, Act.put, List.setIfInBounds_toArray, List.set_cons_zero, List.set_cons_succ]
        refine wpAnyH_take (i := 3) (v := Value.string x) rfl (by kernel_rfl) (by kernel_rfl) (by kernel_rfl) (fun _ _ _ h => h) (Or.inl ⟨rfl, fun w' hw' => ?_⟩) hHeld ?_
        · have q9 := (hw'.cell (p := ⟨g, o + j, none⟩) (by show g < wr.heap.size; omega)).trans e0; go_simp
        simp only [List.getElem_toArray, List.getElem_cons_succ, List.getElem_cons_zero, Act.put, List.setIfInBounds_toArray, List.set_cons_zero, List.set_cons_succ]
        refine wpAnyH_take (i := 4) (v := Value.bool true) rfl (by kernel_rfl) (by kernel_rfl) (by kernel_rfl) (fun _ _ _ h => h) (Or.inl ⟨rfl, fun w' hw' => ?_⟩) hHeld ?_
        · go_simp
        simp only [List.getElem_toArray, List.getElem_cons_succ, List.getElem_cons_zero, Act.put, List.setIfInBounds_toArray, List.set_cons_zero, List.set_cons_succ]
        refine wpAnyH_take (i := 5) (v := Value.bool true) rfl (by kernel_rfl) (by kernel_rfl) (by kernel_rfl) (fun _ _ _ h => h) (Or.inl ⟨rfl, fun w' hw' => ?_⟩) hHeld ?_
        · go_simp
        simp only [List.getElem_toArray, List.getElem_cons_succ, List.getElem_cons_zero, Act.put, List.setIfInBounds_toArray, List.set_cons_zero, List.set_cons_succ]
        refine wpAnyH_take (i := 6) (v := undef) rfl (by kernel_rfl) (by kernel_rfl) (by kernel_rfl) (fun _ _ _ h => h) (Or.inr ⟨rfl, rfl⟩) hHeld ?_
        simp only [List.getElem_toArray, List.getElem_cons_succ, List.getElem_cons_zero, Act.put, List.setIfInBounds_toArray, List.set_cons_zero, List.set_cons_succ]
        refine wpAnyH_take (i := 7) (v := undef) rfl (by kernel_rfl) (by kernel_rfl) (by kernel_rfl) (fun _ _ _ h => h) (Or.inr ⟨rfl, rfl⟩) hHeld ?_
        simp only [List.getElem_toArray, List.getElem_cons_succ, List.getElem_cons_zero, Act.put, List.setIfInBounds_toArray, List.set_cons_zero, List.set_cons_succ]
        refine wpAnyH_take (i := 8) (v := undef) rfl (by kernel_rfl) (by kernel_rfl) (by kernel_rfl) (fun _ _ _ h => h) (Or.inr ⟨rfl, rfl⟩) hHeld ?_
        simp only [List.getElem_toArray, List.getElem_cons_succ, List.getElem_cons_zero, Act.put, List.setIfInBounds_toArray, List.set_cons_zero, List.set_cons_succ]
        refine wpAnyH_take (i := 9) (v := undef) rfl (by kernel_rfl) (by kernel_rfl) (by kernel_rfl) (fun _ _ _ h => h) (Or.inr ⟨rfl, rfl⟩) hHeld ?_
        simp only [List.getElem_toArray, List.getElem_cons_succ, List.getElem_cons_zero, Act.put, List.setIfInBounds_toArray, List.set_cons_zero, List.set_cons_succ]
        refine wpAnyH_take (i := 10) (v := undef) rfl (by kernel_rfl) (by kernel_rfl) (by kernel_rfl) (fun _ _ _ h => h) (Or.inr ⟨rfl, rfl⟩) hHeld ?_
        simp only [List.getElem_toArray, List.getElem_cons_succ, List.getElem_cons_zero, Act.put, List.setIfInBounds_toArray, List.set_cons_zero, List.set_cons_succ]
        refine wpAnyH_take (i := 11) (v := undef) rfl (by kernel_rfl) (by kernel_rfl) (by kernel_rfl) (fun _ _ _ h => h) (Or.inr ⟨rfl, rfl⟩) hHeld ?_
        simp only [List.getElem_toArray, List.getElem_cons_succ, List.getElem_cons_zero, Act.put, List.setIfInBounds_toArray, List.set_cons_zero, List.set_cons_succ]
        refine wpAnyH_take (i := 12) (v := undef) rfl (by kernel_rfl) (by kernel_rfl) (by kernel_rfl) (fun _ _ _ h => h) (Or.inr ⟨rfl, rfl⟩) hHeld ?_
        simp only [List.getElem_toArray, List.getElem_cons_succ, List.getElem_cons_zero, Act.put, List.setIfInBounds_toArray, List.set_cons_zero, List.set_cons_succ]
        refine wpAnyH_take (i := 13) (v := undef) rfl (by kernel_rfl) (by kernel_rfl) (by kernel_rfl) (fun _ _ _ h => h) (Or.inr ⟨rfl, rfl⟩) hHeld ?_
        simp only [List.getElem_toArray, List.getElem_cons_succ, List.getElem_cons_zero, Act.put, List.setIfInBounds_toArray, List.set_cons_zero, List.set_cons_succ]
        refine wpAnyH_take (i := 14) (v := Value.bool true) rfl (by kernel_rfl) (by kernel_rfl) (by kernel_rfl) (fun _ _ _ h => h) (Or.inl ⟨rfl, fun w' hw' => ?_⟩) hHeld ?_
        · go_simp
        simp only [List.getElem_toArray, List.getElem_cons_succ, List.getElem_cons_zero, Act.put, List.setIfInBounds_toArray, List.set_cons_zero, List.set_cons_succ]
        refine wpAnyH_done (by kernel_rfl) ?_ _
        refine NoPanic.normal ?_
        clear hHeld
        go_wp2_with fail
        go_ret
        exact ⟨by rw [HE.out]; rfl, HB.out.drew⟩
      · have q2 : (x.toList == []) = false := by rw [str_eqL]; exact decide_eq_false hx0
        have FJ := FI.out wr.drew (Below.refl _ _).drew
        by_cases hxi : x ∈ ns.take j
        · have HE : Hid (decide (Once ns) = false) := decide_eq_false (fun h => by
            have h1 := once_take h (j + 1)
            rw [HS.out, once_snoc] at h1
            exact h1.2.2 hxi)
          rw [decide_eq_true hxi] at FJ
          have FI2 := Lib.hid FJ
          clear hx0 FI hxi FJ
          go_upto_region 4 with fail
          refine wp_region_noPanic ?_
          refine wp_region_held_drew (S := Below wr.heap.size wr) (by kernel_rfl) ((Below.refl _ _).drew) (fun hHeld => ?_)
          refine wpAnyH_take (i := 0) (v := Value.slice (some ⟨g, o, none⟩) ns.length cap) rfl (by kernel_rfl) (by kernel_rfl) (by kernel_rfl) (fun _ _ _ h => h) (Or.inl ⟨rfl, fun w' hw' => ?_⟩) hHeld ?_
          · go_simp
          simp only [List.getElem_toArray, List.getElem_cons_succ, List.getElem_cons_zero, Act.put, List.setIfInBounds_toArray, List.set_cons_zero, List.set_cons_succ]
          refine wpAnyH_take (i := 1) (v := Value.int .i64 (j : Int)) rfl (by kernel_rfl) (by kernel_rfl) (by kernel_rfl) (fun _ _ _ h => h) (Or.inl ⟨rfl, fun w' hw' => ?_⟩) hHeld ?_
          · go_simp
          simp only [List.getElem_toArray, List.getElem_cons_succ, List.getElem_cons_zero, Act.put, List.setIfInBounds_toArray, List.set_cons_zero, List.set_cons_succ]
          refine wpAnyH_take (i := 2) (v := Value.pointer (some ⟨g, o + j, none⟩)) rfl (by kernel_rfl) (by kernel_rfl) (by kernel_rfl) (fun _ _ _ h => h) (Or.inl ⟨rfl, fun w' hw' => ?_⟩) hHeld ?_
          · go_simp
          simp only [List.getElem_toArray, List.getElem_cons_succ, List.getElem_cons_zero, Act.put, List.setIfInBounds_toArray, List.set_cons_zero, List.set_cons_succ]
          refine wpAnyH_take (i := 3) (v := Value.string x) rfl (by kernel_rfl) (by kernel_rfl) (by kernel_rfl) (fun _ _ _ h => h) (Or.inl ⟨rfl, fun w' hw' => ?_⟩) hHeld ?_
          · have q9 := (hw'.cell (p := ⟨g, o + j, none⟩) (by show g < wr.heap.size; omega)).trans e0; go_simp
          simp only [List.getElem_toArray, List.getElem_cons_succ, List.getElem_cons_zero, Act.put, List.setIfInBounds_toArray, List.set_cons_zero, List.set_cons_succ]
          refine wpAnyH_take (i := 4) (v := Value.bool false) rfl (by kernel_rfl) (by kernel_rfl) (by kernel_rfl) (fun _ _ _ h => h) (Or.inl ⟨rfl, fun w' hw' => ?_⟩) hHeld ?_
          · go_simp
          simp only [List.getElem_toArray, List.getElem_cons_succ, List.getElem_cons_zero, Act.put, List.setIfInBounds_toArray, List.set_cons_zero, List.set_cons_succ]
          refine wpAnyH_take (i := 5) (v := Value.bool false) rfl (by kernel_rfl) (by kernel_rfl) (by kernel_rfl) (fun _ _ _ h => h) (Or.inl ⟨rfl, fun w' hw' => ?_⟩) hHeld ?_
          · go_simp
          simp only [List.getElem_toArray, List.getElem_cons_succ, List.getElem_cons_zero, Act.put, List.setIfInBounds_toArray, List.set_cons_zero, List.set_cons_succ]
          refine wpAnyH_take (i := 6) (v := Value.slice (some ⟨g, o, none⟩) ns.length cap) rfl (by kernel_rfl) (by kernel_rfl) (by kernel_rfl) (fun _ _ _ h => h) (Or.inl ⟨rfl, fun w' hw' => ?_⟩) hHeld ?_
          · go_simp
          simp only [List.getElem_toArray, List.getElem_cons_succ, List.getElem_cons_zero, Act.put, List.setIfInBounds_toArray, List.set_cons_zero, List.set_cons_succ]
          refine wpAnyH_take (i := 7) (v := Value.int .i64 (j : Int)) rfl (by kernel_rfl) (by kernel_rfl) (by kernel_rfl) (fun _ _ _ h => h) (Or.inl ⟨rfl, fun w' hw' => ?_⟩) hHeld ?_
          · go_simp
          simp only [List.getElem_toArray, List.getElem_cons_succ, List.getElem_cons_zero, Act.put, List.setIfInBounds_toArray, List.set_cons_zero, List.set_cons_succ]
          refine wpAnyH_take (i := 8) (v := Value.slice (some ⟨g, o, none⟩) j cap) rfl (by kernel_rfl) (by kernel_rfl) (by kernel_rfl) (fun _ _ _ h => h) (Or.inl ⟨rfl, fun w' hw' => ?_⟩) hHeld ?_
          · go_simp
          simp only [List.getElem_toArray, List.getElem_cons_succ, List.getElem_cons_zero, Act.put, List.setIfInBounds_toArray, List.set_cons_zero, List.set_cons_succ]
          refine wpAnyH_take (i := 9) (v := Value.slice (some ⟨g, o, none⟩) ns.length cap) rfl (by kernel_rfl) (by kernel_rfl) (by kernel_rfl) (fun _ _ _ h => h) (Or.inl ⟨rfl, fun w' hw' => ?_⟩) hHeld ?_
          · go_simp
          simp only [List.getElem_toArray, List.getElem_cons_succ, List.getElem_cons_zero, Act.put, List.setIfInBounds_toArray, List.set_cons_zero, List.set_cons_succ]
          refine wpAnyH_take (i := 10) (v := Value.int .i64 (j : Int)) rfl (by kernel_rfl) (by kernel_rfl) (by kernel_rfl) (fun _ _ _ h => h) (Or.inl ⟨rfl, fun w' hw' => ?_⟩) hHeld ?_
          · go_simp
          simp only [List.getElem_toArray, List.getElem_cons_succ, List.getElem_cons_zero, Act.put, List.setIfInBounds_toArray, List.set_cons_zero, List.set_cons_succ]
          refine wpAnyH_take (i := 11) (v := Value.pointer (some ⟨g, o + j, none⟩)) rfl (by kernel_rfl) (by kernel_rfl) (by kernel_rfl) (fun _ _ _ h => h) (Or.inl ⟨rfl, fun w' hw' => ?_⟩) hHeld ?_
          · go_simp
          simp only [List.getElem_toArray, List.getElem_cons_succ, List.getElem_cons_zero, Act.put, List.setIfInBounds_toArray, List.set_cons_zero, List.set_cons_succ]
          refine wpAnyH_take (i := 12) (v := Value.string x) rfl (by kernel_rfl) (by kernel_rfl) (by kernel_rfl) (fun _ _ _ h => h) (Or.inl ⟨rfl, fun w' hw' => ?_⟩) hHeld ?_
          · have q9 := (hw'.cell (p := ⟨g, o + j, none⟩) (by show g < wr.heap.size; omega)).trans e0; go_simp
          simp only [List.getElem_toArray, List.getElem_cons_succ, List.getElem_cons_zero, Act.put, List.setIfInBounds_toArray, List.set_cons_zero, List.set_cons_succ]
          refine wpAnyH_ready (rs := [13]) (by kernel_rfl) (by simp) ?_
          refine (AllReadyH.cons rfl (fun K hK => ?_) AllReadyH.nil)
          go_simp
          refine FI2.out.mono ?_
          rintro e w5 ⟨rfl, rfl⟩
          refine hK.out _ _ ((Below.refl _ _).drew) (fun hHeld => ?_)
          clear hK K
          try simp only [List.getElem_toArray, List.getElem_cons_succ, List.getElem_cons_zero, Act.put, List.setIfInBounds_toArray, List.set_cons_zero, List.set_cons_succ]
          refine wpAnyH_take (i := 14) (v := Value.bool true) rfl (by kernel_rfl) (by kernel_rfl) (by kernel_rfl) (fun _ _ _ h => h) (Or.inl ⟨rfl, fun w' hw' => ?_⟩) hHeld ?_
          · go_simp
          simp only [List.getElem_toArray, List.getElem_cons_succ, List.getElem_cons_zero, Act.put, List.setIfInBounds_toArray, List.set_cons_zero, List.set_cons_succ]
          refine wpAnyH_done (by kernel_rfl) ?_ _
          refine NoPanic.normal ?_
          clear hHeld
          go_wp2_with fail
          go_ret
          exact ⟨by rw [HE.out]; rfl, HB.out.drew⟩
        · have HN : Hid (Once (ns.take (j + 1))) := by
            show _
            rw [HS.out, once_snoc]
            exact ⟨HO.out, hx0, hxi⟩
          rw [decide_eq_false hxi] at FJ
          have FI2 := Lib.hid FJ
          clear hx0 FI hxi FJ
          go_upto_region 4 with fail
          refine wp_region_noPanic ?_
          refine wp_region_held_drew (S := Below wr.heap.size wr) (by kernel_rfl) ((Below.refl _ _).drew) (fun hHeld => ?_)
          refine wpAnyH_take (i := 0) (v := Value.slice (some ⟨g, o, none⟩) ns.length cap) rfl (by kernel_rfl) (by kernel_rfl) (by kernel_rfl) (fun _ _ _ h => h) (Or.inl ⟨rfl, fun w' hw' => ?_⟩) hHeld ?_
          · go_simp
          simp only [List.getElem_toArray, List.getElem_cons_succ, List.getElem_cons_zero, Act.put, List.setIfInBounds_toArray, List.set_cons_zero, List.set_cons_succ]
          refine wpAnyH_take (i := 1) (v := Value.int .i64 (j : Int)) rfl (by kernel_rfl) (by kernel_rfl) (by kernel_rfl) (fun _ _ _ h => h) (Or.inl ⟨rfl, fun w' hw' => ?_⟩) hHeld ?_
          · go_simp
          simp only [List.getElem_toArray, List.getElem_cons_succ, List.getElem_cons_zero, Act.put, List.setIfInBounds_toArray, List.set_cons_zero, List.set_cons_succ]
          refine wpAnyH_take (i := 2) (v := Value.pointer (some ⟨g, o + j, none⟩)) rfl (by kernel_rfl) (by kernel_rfl) (by kernel_rfl) (fun _ _ _ h => h) (Or.inl ⟨rfl, fun w' hw' => ?_⟩) hHeld ?_
          · go_simp
          simp only [List.getElem_toArray, List.getElem_cons_succ, List.getElem_cons_zero, Act.put, List.setIfInBounds_toArray, List.set_cons_zero, List.set_cons_succ]
          refine wpAnyH_take (i := 3) (v := Value.string x) rfl (by kernel_rfl) (by kernel_rfl) (by kernel_rfl) (fun _ _ _ h => h) (Or.inl ⟨rfl, fun w' hw' => ?_⟩) hHeld ?_
          · have q9 := (hw'.cell (p := ⟨g, o + j, none⟩) (by show g < wr.heap.size; omega)).trans e0; go_simp
          simp only [List.getElem_toArray, List.getElem_cons_succ, List.getElem_cons_zero, Act.put, List.setIfInBounds_toArray, List.set_cons_zero, List.set_cons_succ]
          refine wpAnyH_take (i := 4) (v := Value.bool false) rfl (by kernel_rfl) (by kernel_rfl) (by kernel_rfl) (fun _ _ _ h => h) (Or.inl ⟨rfl, fun w' hw' => ?_⟩) hHeld ?_
          · go_simp
          simp only [List.getElem_toArray, List.getElem_cons_succ, List.getElem_cons_zero, Act.put, List.setIfInBounds_toArray, List.set_cons_zero, List.set_cons_succ]
          refine wpAnyH_take (i := 5) (v := Value.bool false) rfl (by kernel_rfl) (by kernel_rfl) (by kernel_rfl) (fun _ _ _ h => h) (Or.inl ⟨rfl, fun w' hw' => ?_⟩) hHeld ?_
          · go_simp
          simp only [List.getElem_toArray, List.getElem_cons_succ, List.getElem_cons_zero, Act.put, List.setIfInBounds_toArray, List.set_cons_zero, List.set_cons_succ]
          refine wpAnyH_take (i := 6) (v := Value.slice (some ⟨g, o, none⟩) ns.length cap) rfl (by kernel_rfl) (by kernel_rfl) (by kernel_rfl) (fun _ _ _ h => h) (Or.inl ⟨rfl, fun w' hw' => ?_⟩) hHeld ?_
          · go_simp
          simp only [List.getElem_toArray, List.getElem_cons_succ, List.getElem_cons_zero, Act.put, List.setIfInBounds_toArray, List.set_cons_zero, List.set_cons_succ]
          refine wpAnyH_take (i := 7) (v := Value.int .i64 (j : Int)) rfl (by kernel_rfl) (by kernel_rfl) (by kernel_rfl) (fun _ _ _ h => h) (Or.inl ⟨rfl, fun w' hw' => ?_⟩) hHeld ?_
          · go_simp
          simp only [List.getElem_toArray, List.getElem_cons_succ, List.getElem_cons_zero, Act.put, List.setIfInBounds_toArray, List.set_cons_zero, List.set_cons_succ]
          refine wpAnyH_take (i := 8) (v := Value.slice (some ⟨g, o, none⟩) j cap) rfl (by kernel_rfl) (by kernel_rfl) (by kernel_rfl) (fun _ _ _ h => h) (Or.inl ⟨rfl, fun w' hw' => ?_⟩) hHeld ?_
          · go_simp
          simp only [List.getElem_toArray, List.getElem_cons_succ, List.getElem_cons_zero, Act.put, List.setIfInBounds_toArray, List.set_cons_zero, List.set_cons_succ]
          refine wpAnyH_take (i := 9) (v := Value.slice (some ⟨g, o, none⟩) ns.length cap) rfl (by kernel_rfl) (by kernel_rfl) (by kernel_rfl) (fun _ _ _ h => h) (Or.inl ⟨rfl, fun w' hw' => ?_⟩) hHeld ?_
          · go_simp
          simp only [List.getElem_toArray, List.getElem_cons_succ, List.getElem_cons_zero, Act.put, List.setIfInBounds_toArray, List.set_cons_zero, List.set_cons_succ]
          refine wpAnyH_take (i := 10) (v := Value.int .i64 (j : Int)) rfl (by kernel_rfl) (by kernel_rfl) (by kernel_rfl) (fun _ _ _ h => h) (Or.inl ⟨rfl, fun w' hw' => ?_⟩) hHeld ?_
          · go_simp
          simp only [List.getElem_toArray, List.getElem_cons_succ, List.getElem_cons_zero, Act.put, List.setIfInBounds_toArray, List.set_cons_zero, List.set_cons_succ]
          refine wpAnyH_take (i := 11) (v := Value.pointer (some ⟨g, o + j, none⟩)) rfl (by kernel_rfl) (by kernel_rfl) (by kernel_rfl) (fun _ _ _ h => h) (Or.inl ⟨rfl, fun w' hw' => ?_⟩) hHeld ?_
          · go_simp
          simp only [List.getElem_toArray, List.getElem_cons_succ, List.getElem_cons_zero, Act.put, List.setIfInBounds_toArray, List.set_cons_zero, List.set_cons_succ]
          refine wpAnyH_take (i := 12) (v := Value.string x) rfl (by kernel_rfl) (by kernel_rfl) (by kernel_rfl) (fun _ _ _ h => h) (Or.inl ⟨rfl, fun w' hw' => ?_⟩) hHeld ?_
          · have q9 := (hw'.cell (p := ⟨g, o + j, none⟩) (by show g < wr.heap.size; omega)).trans e0; go_simp
          simp only [List.getElem_toArray, List.getElem_cons_succ, List.getElem_cons_zero, Act.put, List.setIfInBounds_toArray, List.set_cons_zero, List.set_cons_succ]
          refine wpAnyH_ready (rs := [13]) (by kernel_rfl) (by simp) ?_
          refine (AllReadyH.cons rfl (fun K hK => ?_) AllReadyH.nil)
          go_simp
          refine FI2.out.mono ?_
          rintro e w5 ⟨rfl, rfl⟩
          refine hK.out _ _ ((Below.refl _ _).drew) (fun hHeld => ?_)
          clear hK K
          try simp only [List.getElem_toArray, List.getElem_cons_succ, List.getElem_cons_zero, Act.put, List.setIfInBounds_toArray, List.set_cons_zero, List.set_cons_succ]
          refine wpAnyH_take (i := 14) (v := Value.bool false) rfl (by kernel_rfl) (by kernel_rfl) (by kernel_rfl) (fun _ _ _ h => h) (Or.inl ⟨rfl, fun w' hw' => ?_⟩) hHeld ?_
          · go_simp
          simp only [List.getElem_toArray, List.getElem_cons_succ, List.getElem_cons_zero, Act.put, List.setIfInBounds_toArray, List.set_cons_zero, List.set_cons_succ]
          refine wpAnyH_done (by kernel_rfl) ?_ _
          refine NoPanic.normal ?_
          clear hHeld
          go_wp2_with fail
          go_roundw
          case rel => exact ⟨j + 1, by omega, by go_num, HN.out, HB.out.drew⟩
          case measure => simp [intOf]; omega
    · have q1 : decide ((j : Int) < (ns.length : Int)) = false := decide_eq_false (by omega)
      have hjn : j = ns.length := by omega
      have HE : Hid (decide (Once ns) = true) := decide_eq_true (by have := HO.out; rw [hjn, List.take_length] at this; exact this)
      clear hjn
      go_wp2_with fail
      go_ret
      exact ⟨by rw [HE.out]; rfl, HB.out⟩
end Go.Proofs.YtmcgocbkjdacaaaDoor
namespace Go.Proofs.YtmcgocbkjdacaaaDoor
open Go.RowKit
set_option linter.unusedVariables false
set_option linter.unusedSimpArgs false
def primB : List ByteArray := prims.map fun l => ⟨l.toArray⟩
theorem primB_len : primB.length = 18 := rfl
theorem primB_get (j : Nat) (h : j < 18) : ∃ p, primB.getD j ⟨#[]⟩ = p ∧ prims.drop j = p.toList :: prims.drop (j + 1) := by
  refine ⟨_, rfl, ?_⟩
  have hl : j < prims.length := h
  rw [List.drop_eq_getElem_cons hl]
  congr 1
  unfold primB
  rw [Lib.toList_data, List.getD_eq_getElem?_getD, List.getElem?_map, List.getElem?_eq_getElem hl]
  simp
def ArInv (t : ByteArray) (w : World) (g : Nat) (iv : Value) (wr : World) : Prop :=
  ∃ j : Nat, j ≤ 18 ∧ iv = .int .i64 (j : Int) ∧ arityIn (prims.drop j) j t = arity t ∧ wr.heap[g]? = some (.cells (tcells primB) 9 (0, 0)) ∧ Below w.heap.size w wr
set_option maxHeartbeats 4000000 in
set_option maxRecDepth 100000 in
theorem refarity_any (t : ByteArray) (w : World) : Calls Tryd.prog 48 #[.string t] w (RetInt (arity t : Nat) w) := by
  have HB0 := (Below.refl w.heap.size w).alloc (Nat.le_refl _) (.cells (tcells primB) 9)
  have HA0 : (w.alloc (.cells (tcells primB) 9)).heap[w.heap.size]? = some (.cells (tcells primB) 9 (0, 0)) := alloc_at _ _
  have H0 : Hid (ArInv t w w.heap.size (.int .i64 0) (w.alloc (.cells (tcells primB) 9))) := ⟨0, by omega, rfl, rfl, HA0, HB0⟩
  have HW : w.alloc (.cells #[.string ⟨#[43]⟩, .string ⟨#[45]⟩, .string ⟨#[42]⟩, .string ⟨#[113, 117, 111, 116, 105, 101, 110, 116]⟩, .string ⟨#[114, 101, 109, 97, 105, 110, 100, 101, 114]⟩, .string ⟨#[60]⟩, .string ⟨#[61]⟩, .string ⟨#[101, 113, 63]⟩, .string ⟨#[99, 111, 110, 115]⟩, .string ⟨#[115, 101, 113]⟩, .string ⟨#[99, 97, 114]⟩, .string ⟨#[99, 100, 114]⟩, .string ⟨#[110, 117, 108, 108, 63]⟩, .string ⟨#[112, 97, 105, 114, 63]⟩, .string ⟨#[110, 111, 116]⟩, .string ⟨#[105, 110, 116, 101, 103, 101, 114, 63]⟩, .string ⟨#[115, 121, 109, 98, 111, 108, 63]⟩, .string ⟨#[101, 114, 114, 111, 114]⟩] 9) = w.alloc (.cells (tcells primB) 9) := rfl
  have HWW := Lib.hid HW
  clear HB0 HA0 HW
  go_enter Tryd.func48, Tryd.ntmps48
  go_wp2_with fail
  rw [HWW.out]
  generalize w.alloc (.cells (tcells primB) 9) = W at H0 ⊢
  clear HWW
  obtain ⟨g0, hg⟩ : ∃ g0, w.heap.size = g0 := ⟨_, rfl⟩
  rw [hg] at H0
  simp only [hg]
  go_loopw [4] (fun iv wr => ArInv t w g0 iv wr) (fun iv _ => 18 - (intOf iv).toNat)
  case atStart => exact H0.out
  case round =>
    clear H0
    obtain ⟨j, hj, rfl, har, hg0, hb⟩ := hrel
    have HB := Lib.hid hb
    have HG := Lib.hid hg0
    clear hb
    by_cases hlt : j < 18
    · have q1 : decide ((j : Int) < 18) = true := decide_eq_true (by omega)
      obtain ⟨p, hp, hd⟩ := primB_get j hlt
      have e0 := tcells_get wr g0 primB hg0 j hlt
      rw [hp] at e0
      rw [hd] at har
      by_cases he : p = t
      · subst he
        have q2 : (p.toList == p.toList) = true := by simp
        by_cases h10 : j < 10
        · have q3 : decide ((j : Int) < 10) = true := decide_eq_true (by omega)
          have HE : Hid (((arity p : Nat) : Int) = 2) := by show _ = _; rw [← har]; simp [arityIn, h10]
          clear har hp hd hg0
          go_wp2_with fail
          go_ret
          exact ⟨by rw [HE.out]; rfl, HB.out⟩
        · have q3 : decide ((j : Int) < 10) = false := decide_eq_false (by omega)
          have HE : Hid (((arity p : Nat) : Int) = 1) := by show _ = _; rw [← har]; simp [arityIn, h10]
          clear har hp hd hg0
          go_wp2_with fail
          go_ret
          exact ⟨by rw [HE.out]; rfl, HB.out⟩
      · have q2 : (p.toList == t.toList) = false := by rw [str_eq]; exact decide_eq_false he
        have q2' : (t.toList == p.toList) = false := by rw [str_eq]; exact decide_eq_false (fun e => he e.symm)
        have HE : Hid (arityIn (prims.drop (j + 1)) (j + 1) t = arity t) := by show _ = _; rw [← har]; simp [arityIn, q2']
        clear har hp hd hg0 q2' he
        go_wp2_with fail
        go_roundw
        case rel => exact ⟨j + 1, by omega, by go_num, HE.out, HG.out, HB.out⟩
        case measure => simp [intOf]; omega
    · have hj18 : j = 18 := by omega
      have q1 : decide ((j : Int) < 18) = false := decide_eq_false (by omega)
      have HE : Hid (((arity t : Nat) : Int) = 0) := by show _ = _; rw [← har, hj18]; rfl
      clear hj18 har hg0
      go_wp2_with fail
      go_ret
      exact ⟨by rw [HE.out]; rfl, HB.out⟩
end Go.Proofs.YtmcgocbkjdacaaaDoor
namespace Go.Proofs.YtmcgocbkjdacaaaDoor
open Go.RowKit
open Go.Maps
open Go.WideMaps (keyOf_string_mk)
set_option linter.unusedVariables false
set_option linter.unusedSimpArgs false
theorem any_same {L : List Lit} {x : Lit} (hx : WideAt.IsKeyLit x) : L.any (fun y => y.sameKey x) = true ↔ x ∈ L := by
  rw [List.any_eq_true]
  constructor
  · rintro ⟨y, hy, h⟩
    by_cases e : y = x
    · subst e; exact hy
    · rw [sameKey_ne e] at h; cases h
  · intro h
    exact ⟨x, h, WideAt.sameKey_self hx⟩
theorem addKeys : ∀ (xs L : List Lit), (∀ x ∈ xs, WideAt.IsKeyLit x) → (xs.foldl addKey L).length ≤ L.length + xs.length ∧ ((xs.foldl addKey L).length = L.length + xs.length ↔ xs.Nodup ∧ ∀ x ∈ xs, x ∉ L)
  | [], L, _ => by simp
  | x :: r, L, h => by
    have hx := h x (by simp)
    have ih := addKeys r (addKey L x) (fun y hy => h y (by simp [hy]))
    rw [List.foldl_cons]
    unfold addKey at ih ⊢
    by_cases hm : x ∈ L
    · rw [if_pos ((any_same hx).2 hm)] at ih ⊢
      refine ⟨by have := ih.1; simp only [List.length_cons]; omega, ?_⟩
      constructor
      · intro e; have := ih.1; simp only [List.length_cons] at e; omega
      · rintro ⟨_, h2⟩; exact absurd hm (h2 x (by simp))
    · rw [if_neg (fun e => hm ((any_same hx).1 e))] at ih ⊢
      simp only [List.length_append, List.length_cons, List.length_nil] at ih ⊢
      refine ⟨by have := ih.1; omega, ?_⟩
      have e1 : L.length + (r.length + 1) = L.length + (0 + 1) + r.length := by omega
      rw [e1, ih.2, List.nodup_cons]
      constructor
      · rintro ⟨h1, h2⟩
        refine ⟨⟨fun hxr => h2 x hxr (by simp), h1⟩, fun y hy => ?_⟩
        rcases List.mem_cons.1 hy with rfl | hy
        · exact hm
        · exact fun hl => h2 y hy (by simp [hl])
      · rintro ⟨⟨h1, h2⟩, h3⟩
        refine ⟨h2, fun y hy hl => ?_⟩
        rcases List.mem_append.1 hl with hl | hl
        · exact h3 y (by simp [hy]) hl
        · simp at hl; subst hl; exact h1 hy
def litS (s : ByteArray) : Lit := .string s.data.toList
theorem litS_inj {a b : ByteArray} (h : litS a = litS b) : a = b := by
  unfold litS at h
  injection h with h
  exact ByteArray.ext (Array.toList_inj.1 h)
def full (ns : List ByteArray) : List ByteArray := ns.filter fun s => decide (s ≠ ⟨#[]⟩)
theorem full_snoc (l : List ByteArray) (x : ByteArray) : full (l ++ [x]) = full l ++ (if x = ⟨#[]⟩ then [] else [x]) := by
  unfold full
  rw [List.filter_append]
  congr 1
  by_cases h : x = ⟨#[]⟩ <;> simp [h]
def setN {H : Type} (ns : List ByteArray) : DataW H := setOf (.agg []) ((full ns).map litS)
theorem setN_size {H : Type} (ns : List ByteArray) : (Maps.size (setN (H := H) ns) = ns.length ↔ Once ns) ∧ Maps.size (setN (H := H) ns) ≤ ns.length := by
  have hk : ∀ x ∈ (full ns).map litS, WideAt.IsKeyLit x := fun y hy => by obtain ⟨_, _, rfl⟩ := List.mem_map.1 hy; trivial
  have h1 := addKeys ((full ns).map litS) [] hk
  unfold setN
  rw [size_setOf _ _ hk]
  simp only [List.length_nil, List.length_map, Nat.zero_add] at h1
  have hle : (full ns).length ≤ ns.length := List.length_filter_le _ _
  refine ⟨?_, by have := h1.1; omega⟩
  have hfull : (full ns).length = ns.length ↔ ∀ s ∈ ns, s ≠ ⟨#[]⟩ := by
    unfold full
    rw [List.length_filter_eq_length_iff]
    simp
  constructor
  · intro e
    have e2 : (full ns).length = ns.length := by have := h1.1; omega
    have e3 := h1.2.1 (by rw [e, e2])
    have hns := hfull.1 e2
    have hf : full ns = ns := by unfold full; rw [List.filter_eq_self]; intro a ha; simpa using hns a ha
    refine ⟨hns, ?_⟩
    have h4 := e3.1
    rw [hf] at h4
    exact List.Pairwise.imp (fun h e => h (by rw [e])) (List.pairwise_map.1 h4)
  · rintro ⟨h2, h3⟩
    have hf : full ns = ns := by unfold full; rw [List.filter_eq_self]; intro a ha; simpa using h2 a ha
    rw [hf] at h1 ⊢
    refine h1.2.2 ⟨?_, fun x _ h => by simp at h⟩
    exact List.pairwise_map.2 (List.Pairwise.imp (fun h e => h (litS_inj e)) h3)
theorem law9 : Keyed Tryd.prog 9 := string_keyed Tryd.underlying9
theorem isEmpty_ne {x : ByteArray} (h : x ≠ ⟨#[]⟩) : x.toList.isEmpty = false := by
  rw [Lib.toList_data]
  cases hd : x.data.toList with
  | nil => exact absurd (ByteArray.ext (Array.toList_inj.1 hd)) h
  | cons a l => rfl
end Go.Proofs.YtmcgocbkjdacaaaDoor
namespace Go.Proofs.YtmcgocbkjdacaaaDoor
open Go.RowKit Go.BigM
set_option linter.unusedVariables false

theorem take_snoc (s : ByteArray) (k : Nat) (h : k < s.size) : s.data.toList.take (k + 1) = s.data.toList.take k ++ [s[k]] := by
  rw [List.take_succ_eq_append_getElem (by simpa using h)]; rfl
end Go.Proofs.YtmcgocbkjdacaaaDoor
namespace Go.Proofs.YtmcgocbkjdacaaaDoor
open Go.RowKit Go.BigM
set_option linter.unusedVariables false

theorem right_ret (l : List UInt8) (b : Bool) (h : b = true ↔ Canon l) : Ending.returned (.bool b) = .returned (.bool (decide (Canon l))) := by
  congr 2; rw [Bool.eq_iff_iff]; simpa using h

end Go.Proofs.YtmcgocbkjdacaaaDoor
namespace Go.Proofs.YtmcgocbkjdacaaaDoor
open Go.RowKit Go.BigM
set_option linter.unusedVariables false

set_option maxHeartbeats 4000000 in
set_option maxRecDepth 100000 in
theorem refRight_low (s t : ByteArray) (ht : t.data.toList = strip s.data.toList) (hx : s.extract 1 s.size = t) (hs0 : 0 < s.size) (hq0 : ((s[0].toNat : Int) == 45) = true) (w : World) (hs : s.size ≤ 5000) :
    Calls Tryd.prog 54 #[.string s] w fun e w' => e = .returned (.bool (decide (Canon s.data.toList))) ∧ w = w' := by
  have hlen : (strip s.data.toList).length = t.size := by rw [Lib.size_eq, ht]
  by_cases h0 : t.size = 0
  · have hn : false = true ↔ Canon s.data.toList := by simp [Canon, hlen, h0]
    rw [← right_ret _ _ hn]
    have e1 : ((t.size : Int) == 0) = true := beq_iff_eq.2 (by omega)
    clear ht hlen hn
    go_enter Tryd.func54, Tryd.ntmps54
    go_wp2
    go_ret
    exact ⟨rfl, rfl⟩
  · have h0' : 1 ≤ t.size := by omega
    have e1 : ((t.size : Int) == 0) = false := beq_eq_false_iff_ne.2 (by omega)
    by_cases h1 : 200 < t.size
    · have hn : false = true ↔ Canon s.data.toList := by simp [Canon, hlen]; intros; omega
      rw [← right_ret _ _ hn]
      have e2 : decide (200 < (t.size : Int)) = true := decide_eq_true (by omega)
      clear ht hlen hn h0
      go_enter Tryd.func54, Tryd.ntmps54
      go_wp2
      go_ret
      exact ⟨rfl, rfl⟩
    · have h1' : t.size ≤ 200 := by omega
      have e2 : decide (200 < (t.size : Int)) = false := decide_eq_false (by omega)
      have hhd : (strip s.data.toList).head? = some t[0] := by
        rw [← ht, List.head?_eq_getElem?, List.getElem?_eq_getElem (by rw [← Lib.size_eq]; omega)]; rfl
      by_cases hz : t[0].toNat = 48 ∧ 1 < s.size
      · have hn : false = true ↔ Canon s.data.toList := by
          simp only [Bool.false_eq_true, false_iff]
          rintro ⟨_, _, _, h | h⟩
          · apply h; rw [hhd]; congr 1; exact UInt8.toNat_inj.1 (by rw [hz.1]; rfl)
          · have := hz.2; rw [Lib.size_eq, h] at this; simp at this
        rw [← right_ret _ _ hn]
        have e3 : ((t[0].toNat : Int) == 48) = true := by rw [beq_iff_eq]; omega
        have e4 : decide (1 < (s.size : Int)) = true := decide_eq_true (by omega)
        clear ht hlen hn h0 hhd hz
        go_enter Tryd.func54, Tryd.ntmps54
        go_wp2
        go_ret
        exact ⟨rfl, rfl⟩
      · have hok : (strip s.data.toList).head? ≠ some 48 ∨ s.data.toList = [48] := by
          by_cases hq : t[0].toNat = 48
          · right
            have hs1 : s.size ≤ 1 := by omega
            have hq' : t[0] = 48 := UInt8.toNat_inj.1 (by rw [hq]; rfl)
            rw [hq'] at hhd
            cases hl : s.data.toList with
            | nil => rw [hl] at hhd; simp [strip] at hhd
            | cons a m =>
              have : m = [] := by
                rw [Lib.size_eq, hl] at hs1; simp at hs1; exact hs1
              subst this
              rw [hl] at hhd
              unfold strip at hhd
              split at hhd
              · simp at hhd
              · simp at hhd; rw [hhd]
          · left; rw [hhd]; intro e; injection e with e; apply hq; rw [e]; rfl
        have HT := Lib.hid ht
        have HL := Lib.hid hlen
        have HOK := Lib.hid hok
        by_cases hq : t[0].toNat = 48
        · have e3 : ((t[0].toNat : Int) == 48) = true := by rw [beq_iff_eq]; omega
          have e4 : decide (1 < (s.size : Int)) = false := decide_eq_false (by omega)
          clear ht hlen h0 hhd hz hok h1 hq
          go_enter Tryd.func54, Tryd.ntmps54
          go_wp2
          go_loop [4] (fun i => ∃ k : Nat, k ≤ t.size ∧ i = .int .i64 k ∧ Hid (∀ c ∈ t.data.toList.take k, isD c)) (fun i => t.size - (intOf i).toNat)
          case atStart => exact ⟨0, Nat.zero_le _, rfl, by intro c hc; simp at hc⟩
          case round =>
            obtain ⟨k, hk, rfl, hd⟩ := hrel
            by_cases hlt : k < t.size
            · have hmem : t[k] ∈ t.data.toList := by simp [ByteArray.getElem_eq_getElem_data]
              by_cases ha : t[k].toNat < 48
              · have hn : false = true ↔ Canon s.data.toList := by
                  simp only [Bool.false_eq_true, false_iff]; rintro ⟨_, _, h, _⟩
                  have := h _ (by rw [← HT.out]; exact hmem)
                  unfold isD at this; omega
                have HR := Lib.hid (right_ret _ _ hn)
                clear hmem hn
                go_wp2
                go_ret
                exact ⟨HR.out, rfl⟩
              · by_cases hb : 57 < t[k].toNat
                · have hn : false = true ↔ Canon s.data.toList := by
                    simp only [Bool.false_eq_true, false_iff]; rintro ⟨_, _, h, _⟩
                    have := h _ (by rw [← HT.out]; exact hmem)
                    unfold isD at this; omega
                  have HR := Lib.hid (right_ret _ _ hn)
                  have ha' : 48 ≤ t[k].toNat := by omega
                  clear hmem hn ha
                  go_wp2
                  go_ret
                  exact ⟨HR.out, rfl⟩
                · have ha' : 48 ≤ t[k].toNat := by omega
                  have hb' : t[k].toNat ≤ 57 := by omega
                  have hd' : Hid (∀ c ∈ t.data.toList.take (k + 1), isD c) := by
                    intro c hc
                    rw [take_snoc t k hlt] at hc
                    simp only [List.mem_append, List.mem_singleton] at hc
                    rcases hc with hc | rfl
                    · exact hd c hc
                    · exact ⟨ha', hb'⟩
                  clear hmem ha hb hd
                  go_wp2
                  go_round
                  case rel => exact ⟨k + 1, by omega, by go_num, hd'⟩
                  case measure => simp [intOf]; omega
            · have hk' : k = t.size := by omega
              have q2 : true = true ↔ Canon s.data.toList := by
                simp only [true_iff]
                refine ⟨by rw [HL.out]; exact h0', by rw [HL.out]; exact h1', fun c hc => ?_, HOK.out⟩
                rw [← HT.out] at hc
                exact hd c (by rw [List.take_of_length_le (by rw [← Lib.size_eq]; omega)]; exact hc)
              have HQ := Lib.hid (right_ret _ _ q2)
              clear q2 hd hlt hk
              subst hk'
              go_wp2
              go_ret
              exact ⟨HQ.out, rfl⟩
        · have e3 : ((t[0].toNat : Int) == 48) = false := by rw [beq_eq_false_iff_ne]; omega
          clear ht hlen h0 hhd hz hok h1 hq
          go_enter Tryd.func54, Tryd.ntmps54
          go_wp2
          go_loop [4] (fun i => ∃ k : Nat, k ≤ t.size ∧ i = .int .i64 k ∧ Hid (∀ c ∈ t.data.toList.take k, isD c)) (fun i => t.size - (intOf i).toNat)
          case atStart => exact ⟨0, Nat.zero_le _, rfl, by intro c hc; simp at hc⟩
          case round =>
            obtain ⟨k, hk, rfl, hd⟩ := hrel
            by_cases hlt : k < t.size
            · have hmem : t[k] ∈ t.data.toList := by simp [ByteArray.getElem_eq_getElem_data]
              by_cases ha : t[k].toNat < 48
              · have hn : false = true ↔ Canon s.data.toList := by
                  simp only [Bool.false_eq_true, false_iff]; rintro ⟨_, _, h, _⟩
                  have := h _ (by rw [← HT.out]; exact hmem)
                  unfold isD at this; omega
                have HR := Lib.hid (right_ret _ _ hn)
                clear hmem hn
                go_wp2
                go_ret
                exact ⟨HR.out, rfl⟩
              · by_cases hb : 57 < t[k].toNat
                · have hn : false = true ↔ Canon s.data.toList := by
                    simp only [Bool.false_eq_true, false_iff]; rintro ⟨_, _, h, _⟩
                    have := h _ (by rw [← HT.out]; exact hmem)
                    unfold isD at this; omega
                  have HR := Lib.hid (right_ret _ _ hn)
                  have ha' : 48 ≤ t[k].toNat := by omega
                  clear hmem hn ha
                  go_wp2
                  go_ret
                  exact ⟨HR.out, rfl⟩
                · have ha' : 48 ≤ t[k].toNat := by omega
                  have hb' : t[k].toNat ≤ 57 := by omega
                  have hd' : Hid (∀ c ∈ t.data.toList.take (k + 1), isD c) := by
                    intro c hc
                    rw [take_snoc t k hlt] at hc
                    simp only [List.mem_append, List.mem_singleton] at hc
                    rcases hc with hc | rfl
                    · exact hd c hc
                    · exact ⟨ha', hb'⟩
                  clear hmem ha hb hd
                  go_wp2
                  go_round
                  case rel => exact ⟨k + 1, by omega, by go_num, hd'⟩
                  case measure => simp [intOf]; omega
            · have hk' : k = t.size := by omega
              have q2 : true = true ↔ Canon s.data.toList := by
                simp only [true_iff]
                refine ⟨by rw [HL.out]; exact h0', by rw [HL.out]; exact h1', fun c hc => ?_, HOK.out⟩
                rw [← HT.out] at hc
                exact hd c (by rw [List.take_of_length_le (by rw [← Lib.size_eq]; omega)]; exact hc)
              have HQ := Lib.hid (right_ret _ _ q2)
              clear q2 hd hlt hk
              subst hk'
              go_wp2
              go_ret
              exact ⟨HQ.out, rfl⟩

set_option maxHeartbeats 4000000 in
set_option maxRecDepth 100000 in
theorem refRight_high (s : ByteArray) (ht : s.data.toList = strip s.data.toList) (hs0 : 0 < s.size) (hq0 : ((s[0].toNat : Int) == 45) = false) (w : World) (hs : s.size ≤ 5000) :
    Calls Tryd.prog 54 #[.string s] w fun e w' => e = .returned (.bool (decide (Canon s.data.toList))) ∧ w = w' := by
  have hlen : (strip s.data.toList).length = s.size := (congrArg List.length ht).symm.trans (Lib.size_eq s).symm
  by_cases h0 : s.size = 0
  · have hn : false = true ↔ Canon s.data.toList := by simp [Canon, hlen, h0]
    rw [← right_ret _ _ hn]
    have e1 : ((s.size : Int) == 0) = true := beq_iff_eq.2 (by omega)
    clear ht hlen hn
    go_enter Tryd.func54, Tryd.ntmps54
    go_wp2
    go_ret
    exact ⟨rfl, rfl⟩
  · have h0' : 1 ≤ s.size := by omega
    have e1 : ((s.size : Int) == 0) = false := beq_eq_false_iff_ne.2 (by omega)
    by_cases h1 : 200 < s.size
    · have hn : false = true ↔ Canon s.data.toList := by simp [Canon, hlen]; intros; omega
      rw [← right_ret _ _ hn]
      have e2 : decide (200 < (s.size : Int)) = true := decide_eq_true (by omega)
      clear ht hlen hn h0
      go_enter Tryd.func54, Tryd.ntmps54
      go_wp2
      go_ret
      exact ⟨rfl, rfl⟩
    · have h1' : s.size ≤ 200 := by omega
      have e2 : decide (200 < (s.size : Int)) = false := decide_eq_false (by omega)
      have hhd : (strip s.data.toList).head? = some s[0] := by
        rw [← ht, List.head?_eq_getElem?, List.getElem?_eq_getElem (by rw [← Lib.size_eq]; omega)]; rfl
      by_cases hz : s[0].toNat = 48 ∧ 1 < s.size
      · have hn : false = true ↔ Canon s.data.toList := by
          simp only [Bool.false_eq_true, false_iff]
          rintro ⟨_, _, _, h | h⟩
          · apply h; rw [hhd]; congr 1; exact UInt8.toNat_inj.1 (by rw [hz.1]; rfl)
          · have := hz.2; rw [Lib.size_eq, h] at this; simp at this
        rw [← right_ret _ _ hn]
        have e3 : ((s[0].toNat : Int) == 48) = true := by rw [beq_iff_eq]; omega
        have e4 : decide (1 < (s.size : Int)) = true := decide_eq_true (by omega)
        clear ht hlen hn h0 hhd hz
        go_enter Tryd.func54, Tryd.ntmps54
        go_wp2
        go_ret
        exact ⟨rfl, rfl⟩
      · have hok : (strip s.data.toList).head? ≠ some 48 ∨ s.data.toList = [48] := by
          by_cases hq : s[0].toNat = 48
          · right
            have hs1 : s.size ≤ 1 := by omega
            have hq' : s[0] = 48 := UInt8.toNat_inj.1 (by rw [hq]; rfl)
            rw [hq'] at hhd
            cases hl : s.data.toList with
            | nil => rw [hl] at hhd; simp [strip] at hhd
            | cons a m =>
              have : m = [] := by
                rw [Lib.size_eq, hl] at hs1; simp at hs1; exact hs1
              subst this
              rw [hl] at hhd
              unfold strip at hhd
              split at hhd
              · simp at hhd
              · simp at hhd; rw [hhd]
          · left; rw [hhd]; intro e; injection e with e; apply hq; rw [e]; rfl
        have HT := Lib.hid ht
        have HL := Lib.hid hlen
        have HOK := Lib.hid hok
        by_cases hq : s[0].toNat = 48
        · have e3 : ((s[0].toNat : Int) == 48) = true := by rw [beq_iff_eq]; omega
          have e4 : decide (1 < (s.size : Int)) = false := decide_eq_false (by omega)
          clear ht hlen h0 hhd hz hok h1 hq
          go_enter Tryd.func54, Tryd.ntmps54
          go_wp2
          go_loop [4] (fun i => ∃ k : Nat, k ≤ s.size ∧ i = .int .i64 k ∧ Hid (∀ c ∈ s.data.toList.take k, isD c)) (fun i => s.size - (intOf i).toNat)
          case atStart => exact ⟨0, Nat.zero_le _, rfl, by intro c hc; simp at hc⟩
          case round =>
            obtain ⟨k, hk, rfl, hd⟩ := hrel
            by_cases hlt : k < s.size
            · have hmem : s[k] ∈ s.data.toList := by simp [ByteArray.getElem_eq_getElem_data]
              by_cases ha : s[k].toNat < 48
              · have hn : false = true ↔ Canon s.data.toList := by
                  simp only [Bool.false_eq_true, false_iff]; rintro ⟨_, _, h, _⟩
                  have := h _ (by rw [← HT.out]; exact hmem)
                  unfold isD at this; omega
                have HR := Lib.hid (right_ret _ _ hn)
                clear hmem hn
                go_wp2
                go_ret
                exact ⟨HR.out, rfl⟩
              · by_cases hb : 57 < s[k].toNat
                · have hn : false = true ↔ Canon s.data.toList := by
                    simp only [Bool.false_eq_true, false_iff]; rintro ⟨_, _, h, _⟩
                    have := h _ (by rw [← HT.out]; exact hmem)
                    unfold isD at this; omega
                  have HR := Lib.hid (right_ret _ _ hn)
                  have ha' : 48 ≤ s[k].toNat := by omega
                  clear hmem hn ha
                  go_wp2
                  go_ret
                  exact ⟨HR.out, rfl⟩
                · have ha' : 48 ≤ s[k].toNat := by omega
                  have hb' : s[k].toNat ≤ 57 := by omega
                  have hd' : Hid (∀ c ∈ s.data.toList.take (k + 1), isD c) := by
                    intro c hc
                    rw [take_snoc s k hlt] at hc
                    simp only [List.mem_append, List.mem_singleton] at hc
                    rcases hc with hc | rfl
                    · exact hd c hc
                    · exact ⟨ha', hb'⟩
                  clear hmem ha hb hd
                  go_wp2
                  go_round
                  case rel => exact ⟨k + 1, by omega, by go_num, hd'⟩
                  case measure => simp [intOf]; omega
            · have hk' : k = s.size := by omega
              have q2 : true = true ↔ Canon s.data.toList := by
                simp only [true_iff]
                refine ⟨by rw [HL.out]; exact h0', by rw [HL.out]; exact h1', fun c hc => ?_, HOK.out⟩
                rw [← HT.out] at hc
                exact hd c (by rw [List.take_of_length_le (by rw [← Lib.size_eq]; omega)]; exact hc)
              have HQ := Lib.hid (right_ret _ _ q2)
              clear q2 hd hlt hk
              subst hk'
              go_wp2
              go_ret
              exact ⟨HQ.out, rfl⟩
        · have e3 : ((s[0].toNat : Int) == 48) = false := by rw [beq_eq_false_iff_ne]; omega
          clear ht hlen h0 hhd hz hok h1 hq
          go_enter Tryd.func54, Tryd.ntmps54
          go_wp2
          go_loop [4] (fun i => ∃ k : Nat, k ≤ s.size ∧ i = .int .i64 k ∧ Hid (∀ c ∈ s.data.toList.take k, isD c)) (fun i => s.size - (intOf i).toNat)
          case atStart => exact ⟨0, Nat.zero_le _, rfl, by intro c hc; simp at hc⟩
          case round =>
            obtain ⟨k, hk, rfl, hd⟩ := hrel
            by_cases hlt : k < s.size
            · have hmem : s[k] ∈ s.data.toList := by simp [ByteArray.getElem_eq_getElem_data]
              by_cases ha : s[k].toNat < 48
              · have hn : false = true ↔ Canon s.data.toList := by
                  simp only [Bool.false_eq_true, false_iff]; rintro ⟨_, _, h, _⟩
                  have := h _ (by rw [← HT.out]; exact hmem)
                  unfold isD at this; omega
                have HR := Lib.hid (right_ret _ _ hn)
                clear hmem hn
                go_wp2
                go_ret
                exact ⟨HR.out, rfl⟩
              · by_cases hb : 57 < s[k].toNat
                · have hn : false = true ↔ Canon s.data.toList := by
                    simp only [Bool.false_eq_true, false_iff]; rintro ⟨_, _, h, _⟩
                    have := h _ (by rw [← HT.out]; exact hmem)
                    unfold isD at this; omega
                  have HR := Lib.hid (right_ret _ _ hn)
                  have ha' : 48 ≤ s[k].toNat := by omega
                  clear hmem hn ha
                  go_wp2
                  go_ret
                  exact ⟨HR.out, rfl⟩
                · have ha' : 48 ≤ s[k].toNat := by omega
                  have hb' : s[k].toNat ≤ 57 := by omega
                  have hd' : Hid (∀ c ∈ s.data.toList.take (k + 1), isD c) := by
                    intro c hc
                    rw [take_snoc s k hlt] at hc
                    simp only [List.mem_append, List.mem_singleton] at hc
                    rcases hc with hc | rfl
                    · exact hd c hc
                    · exact ⟨ha', hb'⟩
                  clear hmem ha hb hd
                  go_wp2
                  go_round
                  case rel => exact ⟨k + 1, by omega, by go_num, hd'⟩
                  case measure => simp [intOf]; omega
            · have hk' : k = s.size := by omega
              have q2 : true = true ↔ Canon s.data.toList := by
                simp only [true_iff]
                refine ⟨by rw [HL.out]; exact h0', by rw [HL.out]; exact h1', fun c hc => ?_, HOK.out⟩
                rw [← HT.out] at hc
                exact hd c (by rw [List.take_of_length_le (by rw [← Lib.size_eq]; omega)]; exact hc)
              have HQ := Lib.hid (right_ret _ _ q2)
              clear q2 hd hlt hk
              subst hk'
              go_wp2
              go_ret
              exact ⟨HQ.out, rfl⟩

theorem refRight_nil (w : World) : Calls Tryd.prog 54 #[.string ⟨#[]⟩] w fun e w' => e = .returned (.bool false) ∧ w = w' := by
  go_enter Tryd.func54, Tryd.ntmps54
  go_wp2
  go_ret
  exact ⟨rfl, rfl⟩
theorem refRight_any (s : ByteArray) (w : World) (hs : s.size ≤ 5000) : Calls Tryd.prog 54 #[.string s] w fun e w' => e = .returned (.bool (decide (Canon s.data.toList))) ∧ w = w' := by
  cases hd : s.data.toList with
  | nil =>
    obtain rfl : s = ⟨#[]⟩ := by rw [← Lib.mk_data s, hd]
    exact refRight_nil w
  | cons a m =>
    have h0 : 0 < s.size := by rw [Lib.size_eq, hd]; simp
    have ha : s[0] = a := by
      have : s[0] = s.data.toList[0]'(by rw [hd]; simp) := rfl
      rw [this]; simp only [hd]; rfl
    rw [← hd]
    by_cases h : a = 45
    · have hl : low s.data.toList = true := by rw [hd, h]; simp [low]
      refine refRight_low s (s.extract 1 s.size) ?_ rfl h0 (by rw [ha, h]; rfl) w hs
      rw [strip_low _ hl, Lib.extract_data, List.take_of_length_le (by rw [List.length_drop, ← Lib.size_eq]; exact Nat.le_refl _)]
      simp
    · have hl : low s.data.toList = false := by rw [hd]; simp [low, h]
      refine refRight_high s (strip_high _ hl).symm h0 ?_ w hs
      rw [ha, beq_eq_false_iff_ne]
      intro e
      apply h
      apply UInt8.toNat_inj.1
      have h45 : (45 : UInt8).toNat = 45 := rfl
      omega
end Go.Proofs.YtmcgocbkjdacaaaDoor
