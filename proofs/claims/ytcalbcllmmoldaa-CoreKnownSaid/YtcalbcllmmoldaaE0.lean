/- Terms as trees, and how they lie in memory. -/
import Derived.Test.YtcalbcllmmoldaaProg
import Derived.WalkKit
import Derived.Lib.Hide
import Derived.Below
import Derived.Laws.AppendOwn
import Derived.Lib.Builder
namespace Go.Proofs.Ytcalbcllmmoldaa
open Go.RowKit
set_option linter.unusedVariables false
set_option linter.unusedSimpArgs false

/-- A term: kind, text, names, parts. -/
inductive Et where
  | mk (k : Int) (t : ByteArray) (ns : List ByteArray) (a : List Et) : Et

namespace Et
def kind : Et → Int | mk k _ _ _ => k
def text : Et → ByteArray | mk _ t _ _ => t
def names : Et → List ByteArray | mk _ _ ns _ => ns
def parts : Et → List Et | mk _ _ _ a => a
mutual
/-- How many terms it is, with itself. -/
def size : Et → Nat
  | mk _ _ _ a => 1 + sizes a
def sizes : List Et → Nat
  | [] => 0
  | e :: l => e.size + sizes l
end
end Et

/-- A slice of texts that reads as ns; its block is one of S. -/
def NAt (S : Nat → Prop) (w : World) (nv : Value) (ns : List ByteArray) : Prop :=
  (nv = .slice none 0 0 ∧ ns = []) ∨ ∃ g o cap arr fz, nv = .slice (some ⟨g, o, none⟩) ns.length cap ∧ S g ∧ w.heap[g]? = some (.cells arr 9 fz) ∧ (∀ j (h : j < ns.length), arr[o + j]? = some (.string ns[j])) ∧ ns.length ≤ cap

mutual
/-- The cells cs are this term; all blocks that it leads to are some of S. -/
def Et.At (S : Nat → Prop) (w : World) : Et → Array Value → Prop
  | .mk k t ns a, cs => ∃ nv av, cs = #[.int .i64 k, .string t, nv, av] ∧ NAt S w nv ns ∧
      ((av = .slice none 0 0 ∧ a = []) ∨ ∃ g o cap arr fz, av = .slice (some ⟨g, o, none⟩) a.length cap ∧ S g ∧ w.heap[g]? = some (.cells arr 28 fz) ∧ Ets.At S w a arr o ∧ a.length ≤ cap)
/-- From place o on the cells of a row are these terms, one behind the other. -/
def Ets.At (S : Nat → Prop) (w : World) : List Et → Array Value → Nat → Prop
  | [], _, _ => True
  | e :: l, arr, o => (∃ cs, (∀ i, i < 4 → arr[o + i]? = cs[i]?) ∧ Et.At S w e cs) ∧ Ets.At S w l arr (o + 4)
end
/-- A slice of terms that reads as l. -/
def AAt (S : Nat → Prop) (w : World) (av : Value) (l : List Et) : Prop :=
  (av = .slice none 0 0 ∧ l = []) ∨ ∃ g o cap arr fz, av = .slice (some ⟨g, o, none⟩) l.length cap ∧ S g ∧ w.heap[g]? = some (.cells arr 28 fz) ∧ Ets.At S w l arr o ∧ l.length ≤ cap
theorem EAt_mk (S : Nat → Prop) (w : World) (k : Int) (t : ByteArray) (ns : List ByteArray) (l : List Et) (cs : Array Value) :
    Et.At S w (.mk k t ns l) cs ↔ ∃ nv av, cs = #[.int .i64 k, .string t, nv, av] ∧ NAt S w nv ns ∧ AAt S w av l := by
  unfold Et.At AAt; rfl

/-- Rows of terms and of texts stand. -/
def Keeps (S : Nat → Prop) (w w' : World) : Prop := ∀ g c T fz, S g → w.heap[g]? = some (.cells c T fz) → (T = 28 ∨ T = 9) → ∃ fz', w'.heap[g]? = some (.cells c T fz')
theorem Keeps.refl (S : Nat → Prop) (w : World) : Keeps S w w := fun _ _ _ fz _ h _ => ⟨fz, h⟩
theorem Keeps.trans {S : Nat → Prop} {a b c : World} (h : Keeps S a b) (k : Keeps S b c) : Keeps S a c := by
  intro g cs T fz hs hg hT
  obtain ⟨fz', h1⟩ := h g cs T fz hs hg hT
  exact k g cs T fz' hs h1 hT
theorem Keeps.of_below {S : Nat → Prop} {w w' : World} (h : Below w.heap.size w w') : Keeps S w w' := by
  intro g c T fz _ hg _
  have hlt : g < w.heap.size := (Array.getElem?_eq_some_iff.1 hg).1
  exact ⟨fz, by rw [h.block g hlt]; exact hg⟩
theorem NAt.keeps {S : Nat → Prop} {w w' : World} {nv : Value} {ns : List ByteArray} (h : NAt S w nv ns) (k : Keeps S w w') : NAt S w' nv ns := by
  rcases h with h | ⟨g, o, cap, arr, fz, h1, h2, h3, h4⟩
  · exact .inl h
  · obtain ⟨fz', h5⟩ := k g arr 9 fz h2 h3 (.inr rfl)
    exact .inr ⟨g, o, cap, arr, fz', h1, h2, h5, h4⟩
theorem NAt.mono {S T : Nat → Prop} {w : World} {nv : Value} {ns : List ByteArray} (h : NAt S w nv ns) (k : ∀ g, S g → T g) : NAt T w nv ns := by
  rcases h with h | ⟨g, o, cap, arr, fz, h1, h2, h3, h4⟩
  · exact .inl h
  · exact .inr ⟨g, o, cap, arr, fz, h1, k g h2, h3, h4⟩
mutual
theorem Et.At.keeps {S : Nat → Prop} {w w' : World} (k : Keeps S w w') : ∀ (e : Et) (cs : Array Value), Et.At S w e cs → Et.At S w' e cs
  | .mk _ _ ns l, cs, h => by
    rw [EAt_mk] at h ⊢
    obtain ⟨nv, av, e, hm, hl⟩ := h
    refine ⟨nv, av, e, hm.keeps k, ?_⟩
    rcases hl with hl | ⟨g, o, cap, arr, fz, h1, h2, h3, h4⟩
    · exact .inl hl
    · obtain ⟨fz', h5⟩ := k g arr 28 fz h2 h3 (.inl rfl)
      exact .inr ⟨g, o, cap, arr, fz', h1, h2, h5, Ets.At.keeps k l arr o h4.1, h4.2⟩
theorem Ets.At.keeps {S : Nat → Prop} {w w' : World} (k : Keeps S w w') : ∀ (l : List Et) (arr : Array Value) (o : Nat), Ets.At S w l arr o → Ets.At S w' l arr o
  | [], _, _, _ => by unfold Ets.At; trivial
  | d :: l, arr, o, h => by
    unfold Ets.At at h ⊢
    obtain ⟨⟨cs, hc, hd⟩, hr⟩ := h
    exact ⟨⟨cs, hc, Et.At.keeps k d cs hd⟩, Ets.At.keeps k l arr (o + 4) hr⟩
end
mutual
theorem Et.At.mono {S T : Nat → Prop} {w : World} (k : ∀ g, S g → T g) : ∀ (e : Et) (cs : Array Value), Et.At S w e cs → Et.At T w e cs
  | .mk _ _ ns l, cs, h => by
    rw [EAt_mk] at h ⊢
    obtain ⟨nv, av, e, hm, hl⟩ := h
    refine ⟨nv, av, e, hm.mono k, ?_⟩
    rcases hl with hl | ⟨g, o, cap, arr, fz, h1, h2, h3, h4⟩
    · exact .inl hl
    · exact .inr ⟨g, o, cap, arr, fz, h1, k g h2, h3, Ets.At.mono k l arr o h4.1, h4.2⟩
theorem Ets.At.mono {S T : Nat → Prop} {w : World} (k : ∀ g, S g → T g) : ∀ (l : List Et) (arr : Array Value) (o : Nat), Ets.At S w l arr o → Ets.At T w l arr o
  | [], _, _, _ => by unfold Ets.At; trivial
  | d :: l, arr, o, h => by
    unfold Ets.At at h ⊢
    obtain ⟨⟨cs, hc, hd⟩, hr⟩ := h
    exact ⟨⟨cs, hc, Et.At.mono k d cs hd⟩, Ets.At.mono k l arr (o + 4) hr⟩
end
theorem AAt.keeps {S : Nat → Prop} {w w' : World} {av : Value} {l : List Et} (h : AAt S w av l) (k : Keeps S w w') : AAt S w' av l := by
  rcases h with h | ⟨g, o, cap, arr, fz, h1, h2, h3, h4⟩
  · exact .inl h
  · obtain ⟨fz', h5⟩ := k g arr 28 fz h2 h3 (.inl rfl)
    exact .inr ⟨g, o, cap, arr, fz', h1, h2, h5, Ets.At.keeps k l arr o h4.1, h4.2⟩
theorem AAt.mono {S T : Nat → Prop} {w : World} {av : Value} {l : List Et} (h : AAt S w av l) (k : ∀ g, S g → T g) : AAt T w av l := by
  rcases h with h | ⟨g, o, cap, arr, fz, h1, h2, h3, h4⟩
  · exact .inl h
  · exact .inr ⟨g, o, cap, arr, fz, h1, k g h2, h3, Ets.At.mono k l arr o h4.1, h4.2⟩
/-- The part at a place. -/
theorem Ets.At.get {S : Nat → Prop} {w : World} : ∀ (l : List Et) (arr : Array Value) (o : Nat), Ets.At S w l arr o → ∀ j (h : j < l.length), ∃ cs, (∀ i, i < 4 → arr[o + 4 * j + i]? = cs[i]?) ∧ Et.At S w l[j] cs
  | [], _, _, _, j, h => by simp at h
  | d :: l, arr, o, H, j, h => by
    unfold Ets.At at H
    cases j with
    | zero => simpa using H.1
    | succ j =>
      obtain ⟨cs, h1, h2⟩ := Ets.At.get l arr (o + 4) H.2 j (by simpa using h)
      exact ⟨cs, fun i hi => by rw [← h1 i hi]; congr 1; omega, h2⟩
theorem NAt.caps {S : Nat → Prop} {w : World} {ao : Option Addr} {n cap : Nat} {ns : List ByteArray} (h : NAt S w (.slice ao n cap) ns) : ns.length ≤ cap := by
  rcases h with ⟨_, rfl⟩ | ⟨g, o, cap', arr, fz, e, _, _, _, h⟩
  · simp
  · injection e with e1 e2 e3; omega
theorem NAt.one {S : Nat → Prop} {w : World} {nv : Value} {ns : List ByteArray} (h : NAt S w nv ns) : nv.oneCell' = true := by
  rcases h with ⟨rfl, _⟩ | ⟨g, o, cap, arr, fz, rfl, _⟩ <;> rfl
theorem AAt.one {S : Nat → Prop} {w : World} {av : Value} {l : List Et} (h : AAt S w av l) : av.oneCell' = true := by
  rcases h with ⟨rfl, _⟩ | ⟨g, o, cap, arr, fz, rfl, _⟩ <;> rfl
theorem esize_get : ∀ (l : List Et) (j : Nat) (h : j < l.length), l[j].size ≤ Et.sizes l
  | [], j, h => by simp at h
  | d :: l, 0, _ => by simp [Et.sizes]
  | d :: l, j + 1, h => by
    have := esize_get l j (by simpa using h)
    simp only [Et.sizes, List.getElem_cons_succ]; omega
theorem size_pos (e : Et) : 1 ≤ e.size := by cases e; simp only [Et.size]; omega
theorem length_esizes : ∀ (l : List Et), l.length ≤ Et.sizes l
  | [] => by simp
  | d :: l => by
    have h1 := length_esizes l
    have h2 := size_pos d
    simp only [List.length_cons, Et.sizes]; omega
theorem take_snoc_et (l : List Et) (j : Nat) (h : j < l.length) : l.take (j + 1) = l.take j ++ [l[j]] := by
  rw [List.take_succ_eq_append_getElem h]
theorem NAt.form {S : Nat → Prop} {w : World} {nv : Value} {l : List ByteArray} (h : NAt S w nv l) : ∃ ao cap, nv = .slice ao l.length cap := by
  rcases h with ⟨rfl, rfl⟩ | ⟨g, o, cap, arr, fz, rfl, _⟩
  · exact ⟨none, 0, rfl⟩
  · exact ⟨_, _, rfl⟩
theorem AAt.form {S : Nat → Prop} {w : World} {av : Value} {l : List Et} (h : AAt S w av l) : ∃ ao cap, av = .slice ao l.length cap := by
  rcases h with ⟨rfl, rfl⟩ | ⟨g, o, cap, arr, fz, rfl, _⟩
  · exact ⟨none, 0, rfl⟩
  · exact ⟨_, _, rfl⟩
/-- The cell of the text at a place. -/
theorem NAt.get {S : Nat → Prop} {w : World} {ao : Option Addr} {n cap : Nat} {l : List ByteArray} (h : NAt S w (.slice ao n cap) l) (j : Nat) (hj : j < l.length) :
    ∃ g o, ao = some ⟨g, o, none⟩ ∧ S g ∧ w.cell? ⟨g, o + j, none⟩ = some (.string l[j]) := by
  rcases h with ⟨_, rfl⟩ | ⟨g, o, cap', arr, fz, e, hS, hg, hd, _⟩
  · simp at hj
  · injection e with e1 e2 e3
    subst e1
    exact ⟨g, o, rfl, hS, by rw [Lib.cell_of_heap hg]; exact hd j hj⟩
/-- The cells of the part at a place. -/
theorem AAt.get {S : Nat → Prop} {w : World} {ao : Option Addr} {n cap : Nat} {l : List Et} (h : AAt S w (.slice ao n cap) l) (j : Nat) (hj : j < l.length) :
    ∃ g o k t nv av, ao = some ⟨g, o, none⟩ ∧ S g ∧ (∃ c fz, w.heap[g]? = some (.cells c 28 fz)) ∧ Et.At S w l[j] #[.int .i64 k, .string t, nv, av] ∧
      w.cell? ⟨g, o + j * 4, none⟩ = some (.int .i64 k) ∧ w.cell? ⟨g, o + j * 4 + 1, none⟩ = some (.string t) ∧ w.cell? ⟨g, o + j * 4 + 2, none⟩ = some nv ∧
      w.cell? ⟨g, o + j * 4 + 3, none⟩ = some av ∧ nv.oneCell' = true ∧ av.oneCell' = true := by
  rcases h with ⟨_, rfl⟩ | ⟨g, o, cap', arr, fz, e, hS, hg, hd, _⟩
  · simp at hj
  · injection e with e1 e2 e3
    subst e1
    obtain ⟨cs, hc, hat⟩ := Ets.At.get l arr o hd j hj
    generalize hd' : l[j] = d at hat
    obtain ⟨k, t, ns, lst⟩ := d
    have hat' := hat
    rw [EAt_mk] at hat'
    obtain ⟨nv, av, rfl, hm, hl⟩ := hat'
    refine ⟨g, o, k, t, nv, av, rfl, hS, ⟨arr, fz, hg⟩, hat, ?_, ?_, ?_, ?_, hm.one, hl.one⟩
    · rw [Lib.cell_of_heap hg, Nat.mul_comm]; exact hc 0 (by decide)
    · rw [Lib.cell_of_heap hg, Nat.mul_comm]; exact hc 1 (by decide)
    · rw [Lib.cell_of_heap hg, Nat.mul_comm]; exact hc 2 (by decide)
    · rw [Lib.cell_of_heap hg, Nat.mul_comm]; exact hc 3 (by decide)
theorem AAt.caps {S : Nat → Prop} {w : World} {ao : Option Addr} {n cap : Nat} {l : List Et} (h : AAt S w (.slice ao n cap) l) : l.length ≤ cap := by
  rcases h with ⟨_, rfl⟩ | ⟨g, o, cap', arr, fz, e, _, _, _, h⟩
  · simp
  · injection e with e1 e2 e3; omega
theorem esizes_append : ∀ (a b : List Et), Et.sizes (a ++ b) = Et.sizes a + Et.sizes b
  | [], b => by simp [Et.sizes]
  | d :: a, b => by simp only [List.cons_append, Et.sizes, esizes_append a b]; omega
theorem esizes_take (l : List Et) (j : Nat) (h : j < l.length) : Et.sizes (l.take (j + 1)) = Et.sizes (l.take j) + l[j].size := by
  rw [take_snoc_et l j h, esizes_append]; simp [Et.sizes]
theorem esizes_take_le (l : List Et) (j : Nat) : Et.sizes (l.take j) ≤ Et.sizes l := by
  have h := esizes_append (l.take j) (l.drop j)
  rw [List.take_append_drop] at h; omega
/-- Blocks that a term leads to are there. -/
theorem NAt.bound {S : Nat → Prop} {w : World} {nv : Value} {ns : List ByteArray} (h : NAt S w nv ns) : NAt (fun g => S g ∧ g < w.heap.size) w nv ns := by
  rcases h with h | ⟨g, o, cap, arr, fz, h1, h2, h3, h4⟩
  · exact .inl h
  · exact .inr ⟨g, o, cap, arr, fz, h1, ⟨h2, (Array.getElem?_eq_some_iff.1 h3).1⟩, h3, h4⟩
mutual
theorem Et.At.bound {S : Nat → Prop} {w : World} : ∀ (e : Et) (cs : Array Value), Et.At S w e cs → Et.At (fun g => S g ∧ g < w.heap.size) w e cs
  | .mk _ _ ns l, cs, h => by
    rw [EAt_mk] at h ⊢
    obtain ⟨nv, av, e, hm, hl⟩ := h
    refine ⟨nv, av, e, hm.bound, ?_⟩
    rcases hl with hl | ⟨g, o, cap, arr, fz, h1, h2, h3, h4⟩
    · exact .inl hl
    · exact .inr ⟨g, o, cap, arr, fz, h1, ⟨h2, (Array.getElem?_eq_some_iff.1 h3).1⟩, h3, Ets.At.bound l arr o h4.1, h4.2⟩
theorem Ets.At.bound {S : Nat → Prop} {w : World} : ∀ (l : List Et) (arr : Array Value) (o : Nat), Ets.At S w l arr o → Ets.At (fun g => S g ∧ g < w.heap.size) w l arr o
  | [], _, _, _ => by unfold Ets.At; trivial
  | d :: l, arr, o, h => by
    unfold Ets.At at h ⊢
    obtain ⟨⟨cs, hc, hd⟩, hr⟩ := h
    exact ⟨⟨cs, hc, Et.At.bound d cs hd⟩, Ets.At.bound l arr (o + 4) hr⟩
end
theorem Ets.At.of_get {S : Nat → Prop} {w : World} : ∀ (l : List Et) (arr : Array Value) (o : Nat), (∀ j (h : j < l.length), ∃ cs, (∀ i, i < 4 → arr[o + 4 * j + i]? = cs[i]?) ∧ Et.At S w l[j] cs) → Ets.At S w l arr o
  | [], _, _, _ => by unfold Ets.At; trivial
  | d :: l, arr, o, H => by
    unfold Ets.At
    refine ⟨?_, Ets.At.of_get l arr (o + 4) fun j h => ?_⟩
    · have := H 0 (by simp)
      simpa using this
    · obtain ⟨cs, h1, h2⟩ := H (j + 1) (by simpa using h)
      exact ⟨cs, fun i hi => by rw [← h1 i hi]; congr 1; omega, by simpa using h2⟩
theorem EAt_form {S : Nat → Prop} {w : World} {e : Et} {cs : Array Value} (h : Et.At S w e cs) : ∃ k t nv av, cs = #[.int .i64 k, .string t, nv, av] ∧ nv.oneCell' = true ∧ av.oneCell' = true := by
  obtain ⟨k, t, ns, l⟩ := e
  rw [EAt_mk] at h
  obtain ⟨nv, av, e, hm, hl⟩ := h
  exact ⟨k, t, nv, av, e, hm.one, hl.one⟩
theorem EAt_one {S : Nat → Prop} {w : World} {d : Et} {k : Int} {t : ByteArray} {nv av : Value} (h : Et.At S w d #[.int .i64 k, .string t, nv, av]) : nv.oneCell' = true ∧ av.oneCell' = true := by
  obtain ⟨k', t', nv', av', e, h1, h2⟩ := EAt_form h
  simp at e
  obtain ⟨_, _, rfl, rfl⟩ := e
  exact ⟨h1, h2⟩
/-- It returns this; what was there stands. -/
def RetBool (b : Bool) (w : World) (e : Ending) (w' : World) : Prop := e = .returned (.bool b) ∧ Below w.heap.size w w'
def RetInt (r : Int) (w : World) (e : Ending) (w' : World) : Prop := e = .returned (.int .i64 r) ∧ Below w.heap.size w w'
def RetStr (s : ByteArray) (w : World) (e : Ending) (w' : World) : Prop := e = .returned (.string s) ∧ Below w.heap.size w w'
/-- The zero cells of a term. -/
abbrev Z4 : Array Value := #[.int .i64 0, .string ⟨#[]⟩, .slice none 0 0, .slice none 0 0]
end Go.Proofs.Ytcalbcllmmoldaa
