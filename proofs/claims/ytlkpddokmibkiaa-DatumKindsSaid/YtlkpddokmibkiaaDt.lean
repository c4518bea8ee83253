/- Data as trees, and how they lie in memory. -/
import Derived.Test.YtlkpddokmibkiaaB2
namespace Go.Proofs.Ytlkpddokmibkiaa
open Go.RowKit
set_option linter.unusedVariables false

/-- A datum: kind, text, marks, parts, place. -/
inductive Dt where
  | mk (k : Int) (t : ByteArray) (ms : List Int) (l : List Dt) (p : Int) : Dt

namespace Dt
def kind : Dt → Int | mk k _ _ _ _ => k
def text : Dt → ByteArray | mk _ t _ _ _ => t
def marks : Dt → List Int | mk _ _ ms _ _ => ms
def parts : Dt → List Dt | mk _ _ _ l _ => l
def place : Dt → Int | mk _ _ _ _ p => p
mutual
/-- How many data it is, with itself. -/
def size : Dt → Nat
  | mk _ _ _ l _ => 1 + sizes l
def sizes : List Dt → Nat
  | [] => 0
  | d :: l => d.size + sizes l
end
mutual
/-- How it is written. -/
def txt : Dt → List UInt8
  | mk k t _ l _ => if k = 4 then 40 :: (txts l ++ [41]) else t.data.toList
/-- Parts, parted by blanks. -/
def txts : List Dt → List UInt8
  | [] => []
  | d :: l => d.txt ++ txtr l
/-- The parts behind a first one: a blank ahead of each. -/
def txtr : List Dt → List UInt8
  | [] => []
  | d :: l => 32 :: (d.txt ++ txtr l)
end
end Dt

namespace Dt
mutual
/-- Are two data the same, but for places? -/
def same : Dt → Dt → Bool
  | mk k t ms l _, mk k' t' ms' l' _ => (k == k') && ((t.toList == t'.toList) && ((ms == ms') && sames l l'))
/-- Are these, one by one? -/
def sames : List Dt → List Dt → Bool
  | [], [] => true
  | d :: l, e :: m => d.same e && sames l m
  | [], _ :: _ => false
  | _ :: _, [] => false
end
end Dt
theorem sames_len : ∀ (l m : List Dt), l.length ≠ m.length → Dt.sames l m = false
  | [], [], h => absurd rfl h
  | d :: l, e :: m, h => by
    have := sames_len l m (by simpa using h)
    simp [Dt.sames, this]
  | [], _ :: _, _ => by simp [Dt.sames]
  | _ :: _, [], _ => by simp [Dt.sames]
theorem sames_get : ∀ (l m : List Dt) (j : Nat) (h1 : j < l.length) (h2 : j < m.length), Dt.same l[j] m[j] = false → Dt.sames l m = false
  | [], _, j, h1, _, _ => by simp at h1
  | _ :: _, [], j, _, h2, _ => by simp at h2
  | d :: l, e :: m, 0, _, _, h => by
    have h' : Dt.same d e = false := h
    simp [Dt.sames, h']
  | d :: l, e :: m, j + 1, h1, h2, h => by
    have := sames_get l m j (by simpa using h1) (by simpa using h2) (by simpa using h)
    simp [Dt.sames, this]
theorem sames_all : ∀ (l m : List Dt), l.length = m.length → (∀ j (h1 : j < l.length) (h2 : j < m.length), Dt.same l[j] m[j] = true) → Dt.sames l m = true
  | [], [], _, _ => by simp [Dt.sames]
  | d :: l, e :: m, hl, h => by
    have h0 := h 0 (by simp) (by simp)
    have := sames_all l m (by simpa using hl) (fun j h1 h2 => by have := h (j + 1) (by simpa using h1) (by simpa using h2); simpa using this)
    have h0' : Dt.same d e = true := h0
    simp [Dt.sames, h0', this]
  | [], _ :: _, hl, _ => by simp at hl
  | _ :: _, [], hl, _ => by simp at hl

/-- A slice of ints that reads as ms; its block is one of S. -/
def MAt (S : Nat → Prop) (w : World) (mv : Value) (ms : List Int) : Prop :=
  (mv = .slice none 0 0 ∧ ms = []) ∨ ∃ g o cap arr fz, mv = .slice (some ⟨g, o, none⟩) ms.length cap ∧ S g ∧ w.heap[g]? = some (.cells arr 3 fz) ∧ (∀ j (h : j < ms.length), arr[o + j]? = some (.int .i64 ms[j])) ∧ ms.length ≤ 1000000000

mutual
/-- The cells cs are this datum; all blocks that it leads to are some of S. -/
def Dt.At (S : Nat → Prop) (w : World) : Dt → Array Value → Prop
  | .mk k t ms l p, cs => ∃ mv lv, cs = #[.int .i64 k, .string t, mv, lv, .int .i64 p] ∧ MAt S w mv ms ∧
      ((lv = .slice none 0 0 ∧ l = []) ∨ ∃ g o cap arr fz, lv = .slice (some ⟨g, o, none⟩) l.length cap ∧ S g ∧ w.heap[g]? = some (.cells arr 28 fz) ∧ Dts.At S w l arr o)
/-- From place o on the cells of a row are these data, one behind the other. -/
def Dts.At (S : Nat → Prop) (w : World) : List Dt → Array Value → Nat → Prop
  | [], _, _ => True
  | d :: l, arr, o => (∃ cs, (∀ i, i < 5 → arr[o + i]? = cs[i]?) ∧ Dt.At S w d cs) ∧ Dts.At S w l arr (o + 5)
end
/-- A slice of data that reads as l. -/
def LAt (S : Nat → Prop) (w : World) (lv : Value) (l : List Dt) : Prop :=
  (lv = .slice none 0 0 ∧ l = []) ∨ ∃ g o cap arr fz, lv = .slice (some ⟨g, o, none⟩) l.length cap ∧ S g ∧ w.heap[g]? = some (.cells arr 28 fz) ∧ Dts.At S w l arr o
theorem At_mk (S : Nat → Prop) (w : World) (k : Int) (t : ByteArray) (ms : List Int) (l : List Dt) (p : Int) (cs : Array Value) :
    Dt.At S w (.mk k t ms l p) cs ↔ ∃ mv lv, cs = #[.int .i64 k, .string t, mv, lv, .int .i64 p] ∧ MAt S w mv ms ∧ LAt S w lv l := by
  unfold Dt.At LAt; rfl

/-- Rows of data and of numbers stand. -/
def Keeps (S : Nat → Prop) (w w' : World) : Prop := ∀ g c T fz, S g → w.heap[g]? = some (.cells c T fz) → (T = 28 ∨ T = 3) → ∃ fz', w'.heap[g]? = some (.cells c T fz')
theorem Keeps.refl (S : Nat → Prop) (w : World) : Keeps S w w := fun _ _ _ fz _ h _ => ⟨fz, h⟩
theorem Keeps.trans {S : Nat → Prop} {a b c : World} (h : Keeps S a b) (k : Keeps S b c) : Keeps S a c := by
  intro g cs T fz hs hg hT
  obtain ⟨fz', h1⟩ := h g cs T fz hs hg hT
  exact k g cs T fz' hs h1 hT
theorem Keeps.of_below {S : Nat → Prop} {w w' : World} (h : Below w.heap.size w w') : Keeps S w w' := by
  intro g c T fz _ hg _
  have hlt : g < w.heap.size := (Array.getElem?_eq_some_iff.1 hg).1
  exact ⟨fz, by rw [h.block g hlt]; exact hg⟩
theorem Keeps.of_fr {S : Nat → Prop} {B b : Nat} {w w' : World} {l : List UInt8} (hw : Wr B b l w) (h : Fr B b w w') : Keeps S w w' := by
  intro g c T fz _ hg hT
  refine ⟨fz, h.keep hg (by rcases hT with rfl | rfl <;> decide) ?_⟩
  rintro rfl
  have hb : ∃ p v, w.heap[g]? = some (.cells #[p, v] 54 (0, 0)) := by
    rcases hw with h | h
    · obtain ⟨_, v, hb, _⟩ := h; exact ⟨_, _, hb⟩
    · obtain ⟨_, v, hb, _⟩ := h; exact ⟨_, _, hb⟩
  obtain ⟨p, v, hb⟩ := hb
  rw [hg] at hb
  injection hb with hb
  injection hb with _ e _
  rcases hT with rfl | rfl <;> exact absurd e (by decide)

theorem MAt.keeps {S : Nat → Prop} {w w' : World} {mv : Value} {ms : List Int} (h : MAt S w mv ms) (k : Keeps S w w') : MAt S w' mv ms := by
  rcases h with h | ⟨g, o, cap, arr, fz, h1, h2, h3, h4⟩
  · exact .inl h
  · obtain ⟨fz', h5⟩ := k g arr 3 fz h2 h3 (.inr rfl)
    exact .inr ⟨g, o, cap, arr, fz', h1, h2, h5, h4⟩
theorem MAt.mono {S T : Nat → Prop} {w : World} {mv : Value} {ms : List Int} (h : MAt S w mv ms) (k : ∀ g, S g → T g) : MAt T w mv ms := by
  rcases h with h | ⟨g, o, cap, arr, fz, h1, h2, h3, h4⟩
  · exact .inl h
  · exact .inr ⟨g, o, cap, arr, fz, h1, k g h2, h3, h4⟩
mutual
theorem Dt.At.keeps {S : Nat → Prop} {w w' : World} (k : Keeps S w w') : ∀ (d : Dt) (cs : Array Value), Dt.At S w d cs → Dt.At S w' d cs
  | .mk _ _ ms l _, cs, h => by
    rw [At_mk] at h ⊢
    obtain ⟨mv, lv, e, hm, hl⟩ := h
    refine ⟨mv, lv, e, hm.keeps k, ?_⟩
    rcases hl with hl | ⟨g, o, cap, arr, fz, h1, h2, h3, h4⟩
    · exact .inl hl
    · obtain ⟨fz', h5⟩ := k g arr 28 fz h2 h3 (.inl rfl)
      exact .inr ⟨g, o, cap, arr, fz', h1, h2, h5, Dts.At.keeps k l arr o h4⟩
theorem Dts.At.keeps {S : Nat → Prop} {w w' : World} (k : Keeps S w w') : ∀ (l : List Dt) (arr : Array Value) (o : Nat), Dts.At S w l arr o → Dts.At S w' l arr o
  | [], _, _, _ => by unfold Dts.At; trivial
  | d :: l, arr, o, h => by
    unfold Dts.At at h ⊢
    obtain ⟨⟨cs, hc, hd⟩, hr⟩ := h
    exact ⟨⟨cs, hc, Dt.At.keeps k d cs hd⟩, Dts.At.keeps k l arr (o + 5) hr⟩
end
mutual
theorem Dt.At.mono {S T : Nat → Prop} {w : World} (k : ∀ g, S g → T g) : ∀ (d : Dt) (cs : Array Value), Dt.At S w d cs → Dt.At T w d cs
  | .mk _ _ ms l _, cs, h => by
    rw [At_mk] at h ⊢
    obtain ⟨mv, lv, e, hm, hl⟩ := h
    refine ⟨mv, lv, e, hm.mono k, ?_⟩
    rcases hl with hl | ⟨g, o, cap, arr, fz, h1, h2, h3, h4⟩
    · exact .inl hl
    · exact .inr ⟨g, o, cap, arr, fz, h1, k g h2, h3, Dts.At.mono k l arr o h4⟩
theorem Dts.At.mono {S T : Nat → Prop} {w : World} (k : ∀ g, S g → T g) : ∀ (l : List Dt) (arr : Array Value) (o : Nat), Dts.At S w l arr o → Dts.At T w l arr o
  | [], _, _, _ => by unfold Dts.At; trivial
  | d :: l, arr, o, h => by
    unfold Dts.At at h ⊢
    obtain ⟨⟨cs, hc, hd⟩, hr⟩ := h
    exact ⟨⟨cs, hc, Dt.At.mono k d cs hd⟩, Dts.At.mono k l arr (o + 5) hr⟩
end
theorem LAt.keeps {S : Nat → Prop} {w w' : World} {lv : Value} {l : List Dt} (h : LAt S w lv l) (k : Keeps S w w') : LAt S w' lv l := by
  rcases h with h | ⟨g, o, cap, arr, fz, h1, h2, h3, h4⟩
  · exact .inl h
  · obtain ⟨fz', h5⟩ := k g arr 28 fz h2 h3 (.inl rfl)
    exact .inr ⟨g, o, cap, arr, fz', h1, h2, h5, Dts.At.keeps k l arr o h4⟩
theorem LAt.mono {S T : Nat → Prop} {w : World} {lv : Value} {l : List Dt} (h : LAt S w lv l) (k : ∀ g, S g → T g) : LAt T w lv l := by
  rcases h with h | ⟨g, o, cap, arr, fz, h1, h2, h3, h4⟩
  · exact .inl h
  · exact .inr ⟨g, o, cap, arr, fz, h1, k g h2, h3, Dts.At.mono k l arr o h4⟩
/-- The part at a place. -/
theorem Dts.At.get {S : Nat → Prop} {w : World} : ∀ (l : List Dt) (arr : Array Value) (o : Nat), Dts.At S w l arr o → ∀ j (h : j < l.length), ∃ cs, (∀ i, i < 5 → arr[o + 5 * j + i]? = cs[i]?) ∧ Dt.At S w l[j] cs
  | [], _, _, _, j, h => by simp at h
  | d :: l, arr, o, H, j, h => by
    unfold Dts.At at H
    cases j with
    | zero => simpa using H.1
    | succ j =>
      obtain ⟨cs, h1, h2⟩ := Dts.At.get l arr (o + 5) H.2 j (by simpa using h)
      exact ⟨cs, fun i hi => by rw [← h1 i hi]; congr 1; omega, h2⟩
theorem MAt.short {S : Nat → Prop} {w : World} {mv : Value} {ms : List Int} (h : MAt S w mv ms) : ms.length ≤ 1000000000 := by
  rcases h with ⟨_, rfl⟩ | ⟨g, o, cap, arr, fz, _, _, _, _, h⟩
  · simp
  · exact h
theorem MAt.one {S : Nat → Prop} {w : World} {mv : Value} {ms : List Int} (h : MAt S w mv ms) : mv.oneCell' = true := by
  rcases h with ⟨rfl, _⟩ | ⟨g, o, cap, arr, fz, rfl, _⟩ <;> rfl
theorem LAt.one {S : Nat → Prop} {w : World} {lv : Value} {l : List Dt} (h : LAt S w lv l) : lv.oneCell' = true := by
  rcases h with ⟨rfl, _⟩ | ⟨g, o, cap, arr, fz, rfl, _⟩ <;> rfl
theorem size_get : ∀ (l : List Dt) (j : Nat) (h : j < l.length), l[j].size ≤ Dt.sizes l
  | [], j, h => by simp at h
  | d :: l, 0, _ => by simp [Dt.sizes]
  | d :: l, j + 1, h => by
    have := size_get l j (by simpa using h)
    simp only [Dt.sizes, List.getElem_cons_succ]; omega

/-- The cells of a new datum. -/
def Z5 : Array Value := #[.int .i64 0, .string ⟨#[]⟩, .slice none 0 0, .slice none 0 0, .int .i64 0]
theorem info28 : (Try.prog.info? 28).map (·.size) = some 5 := by kernel_rfl
theorem alloc_at (w : World) (o : Obj) : (w.alloc o).heap[w.heap.size]? = some o := heap_alloc_new w o
/-- A new block that is written over at once. -/
theorem setRow_new (w : World) (z cs : Array Value) (T : TypeId) : (w.alloc (.cells z T)).setRow w.heap.size cs = w.alloc (.cells cs T) := by
  unfold World.setRow World.alloc
  simp only [World.mk.injEq, and_true]
  apply Array.ext
  · simp
  · intro k h1 h2
    simp only [Array.getElem_modify]
    split
    · rename_i hk; subst hk; simp
    · rename_i hk
      simp only [Array.getElem_push]
      split
      · rfl
      · rename_i h3
        simp at h1
        omega
end Go.Proofs.Ytlkpddokmibkiaa
