/- Data as trees, and how they lie in memory; rows of data that a call owns (as for the data by themselves, at this program's types). -/
import Derived.Test.YtkjcbaikebdmmaaDoorL6
import Derived.Laws.AppendOwn
import Derived.Lib.Builder
namespace Go.Proofs.YtkjcbaikebdmmaaDoor
open Go.RowKit
set_option linter.unusedVariables false
set_option linter.unusedSimpArgs false


/-- A datum: kind, text, marks, parts, place. -/
inductive Dt where
  | mk (k : Int) (t : ByteArray) (ms : List Int) (l : List Dt) (p : Int) : Dt

namespace Dt
def kind : Dt → Int | mk k _ _ _ _ => k
def text : Dt → ByteArray | mk _ t _ _ _ => t
def marks : Dt → List Int | mk _ _ ms _ _ => ms
def parts : Dt → List Dt | mk _ _ _ l _ => l
def place : Dt → Int | mk _ _ _ _ p => p
mutual
/-- How many data it is, with itself. -/
def size : Dt → Nat
  | mk _ _ _ l _ => 1 + sizes l
def sizes : List Dt → Nat
  | [] => 0
  | d :: l => d.size + sizes l
end
mutual
/-- How it is written. -/
def txt : Dt → List UInt8
  | mk k t _ l _ => if k = 4 then 40 :: (txts l ++ [41]) else t.data.toList
/-- Parts, parted by blanks. -/
def txts : List Dt → List UInt8
  | [] => []
  | d :: l => d.txt ++ txtr l
/-- The parts behind a first one: a blank ahead of each. -/
def txtr : List Dt → List UInt8
  | [] => []
  | d :: l => 32 :: (d.txt ++ txtr l)
end
end Dt

namespace Dt
mutual
/-- Are two data the same, but for places? -/
def same : Dt → Dt → Bool
  | mk k t ms l _, mk k' t' ms' l' _ => (k == k') && ((t.toList == t'.toList) && ((ms == ms') && sames l l'))
/-- Are these, one by one? -/
def sames : List Dt → List Dt → Bool
  | [], [] => true
  | d :: l, e :: m => d.same e && sames l m
  | [], _ :: _ => false
  | _ :: _, [] => false
end
end Dt
theorem sames_len : ∀ (l m : List Dt), l.length ≠ m.length → Dt.sames l m = false
  | [], [], h => absurd rfl h
  | d :: l, e :: m, h => by
    have := sames_len l m (by simpa using h)
    simp [Dt.sames, this]
  | [], _ :: _, _ => by simp [Dt.sames]
  | _ :: _, [], _ => by simp [Dt.sames]
theorem sames_get : ∀ (l m : List Dt) (j : Nat) (h1 : j < l.length) (h2 : j < m.length), Dt.same l[j] m[j] = false → Dt.sames l m = false
  | [], _, j, h1, _, _ => by simp at h1
  | _ :: _, [], j, _, h2, _ => by simp at h2
  | d :: l, e :: m, 0, _, _, h => by
    have h' : Dt.same d e = false := h
    simp [Dt.sames, h']
  | d :: l, e :: m, j + 1, h1, h2, h => by
    have := sames_get l m j (by simpa using h1) (by simpa using h2) (by simpa using h)
    simp [Dt.sames, this]
theorem sames_all : ∀ (l m : List Dt), l.length = m.length → (∀ j (h1 : j < l.length) (h2 : j < m.length), Dt.same l[j] m[j] = true) → Dt.sames l m = true
  | [], [], _, _ => by simp [Dt.sames]
  | d :: l, e :: m, hl, h => by
    have h0 := h 0 (by simp) (by simp)
    have := sames_all l m (by simpa using hl) (fun j h1 h2 => by have := h (j + 1) (by simpa using h1) (by simpa using h2); simpa using this)
    have h0' : Dt.same d e = true := h0
    simp [Dt.sames, h0', this]
  | [], _ :: _, hl, _ => by simp at hl
  | _ :: _, [], hl, _ => by simp at hl

/-- A slice of ints that reads as ms; its block is one of S. -/
def MAt (S : Nat → Prop) (w : World) (mv : Value) (ms : List Int) : Prop :=
  (mv = .slice none 0 0 ∧ ms = []) ∨ ∃ g o cap arr fz, mv = .slice (some ⟨g, o, none⟩) ms.length cap ∧ S g ∧ w.heap[g]? = some (.cells arr 3 fz) ∧ (∀ j (h : j < ms.length), arr[o + j]? = some (.int .i64 ms[j])) ∧ ms.length ≤ 1000000000

mutual
/-- The cells cs are this datum; all blocks that it leads to are some of S. -/
def Dt.At (S : Nat → Prop) (w : World) : Dt → Array Value → Prop
  | .mk k t ms l p, cs => ∃ mv lv, cs = #[.int .i64 k, .string t, mv, lv, .int .i64 p] ∧ MAt S w mv ms ∧
      ((lv = .slice none 0 0 ∧ l = []) ∨ ∃ g o cap arr fz, lv = .slice (some ⟨g, o, none⟩) l.length cap ∧ S g ∧ w.heap[g]? = some (.cells arr 40 fz) ∧ Dts.At S w l arr o)
/-- From place o on the cells of a row are these data, one behind the other. -/
def Dts.At (S : Nat → Prop) (w : World) : List Dt → Array Value → Nat → Prop
  | [], _, _ => True
  | d :: l, arr, o => (∃ cs, (∀ i, i < 5 → arr[o + i]? = cs[i]?) ∧ Dt.At S w d cs) ∧ Dts.At S w l arr (o + 5)
end
/-- A slice of data that reads as l. -/
def LAt (S : Nat → Prop) (w : World) (lv : Value) (l : List Dt) : Prop :=
  (lv = .slice none 0 0 ∧ l = []) ∨ ∃ g o cap arr fz, lv = .slice (some ⟨g, o, none⟩) l.length cap ∧ S g ∧ w.heap[g]? = some (.cells arr 40 fz) ∧ Dts.At S w l arr o
theorem At_mk (S : Nat → Prop) (w : World) (k : Int) (t : ByteArray) (ms : List Int) (l : List Dt) (p : Int) (cs : Array Value) :
    Dt.At S w (.mk k t ms l p) cs ↔ ∃ mv lv, cs = #[.int .i64 k, .string t, mv, lv, .int .i64 p] ∧ MAt S w mv ms ∧ LAt S w lv l := by
  unfold Dt.At LAt; rfl

/-- Rows of data and of numbers stand. -/
def Keeps (S : Nat → Prop) (w w' : World) : Prop := ∀ g c T fz, S g → w.heap[g]? = some (.cells c T fz) → (T = 40 ∨ T = 3) → ∃ fz', w'.heap[g]? = some (.cells c T fz')
theorem Keeps.refl (S : Nat → Prop) (w : World) : Keeps S w w := fun _ _ _ fz _ h _ => ⟨fz, h⟩
theorem Keeps.trans {S : Nat → Prop} {a b c : World} (h : Keeps S a b) (k : Keeps S b c) : Keeps S a c := by
  intro g cs T fz hs hg hT
  obtain ⟨fz', h1⟩ := h g cs T fz hs hg hT
  exact k g cs T fz' hs h1 hT
theorem Keeps.of_below {S : Nat → Prop} {w w' : World} (h : Below w.heap.size w w') : Keeps S w w' := by
  intro g c T fz _ hg _
  have hlt : g < w.heap.size := (Array.getElem?_eq_some_iff.1 hg).1
  exact ⟨fz, by rw [h.block g hlt]; exact hg⟩
theorem MAt.keeps {S : Nat → Prop} {w w' : World} {mv : Value} {ms : List Int} (h : MAt S w mv ms) (k : Keeps S w w') : MAt S w' mv ms := by
  rcases h with h | ⟨g, o, cap, arr, fz, h1, h2, h3, h4⟩
  · exact .inl h
  · obtain ⟨fz', h5⟩ := k g arr 3 fz h2 h3 (.inr rfl)
    exact .inr ⟨g, o, cap, arr, fz', h1, h2, h5, h4⟩
theorem MAt.mono {S T : Nat → Prop} {w : World} {mv : Value} {ms : List Int} (h : MAt S w mv ms) (k : ∀ g, S g → T g) : MAt T w mv ms := by
  rcases h with h | ⟨g, o, cap, arr, fz, h1, h2, h3, h4⟩
  · exact .inl h
  · exact .inr ⟨g, o, cap, arr, fz, h1, k g h2, h3, h4⟩
mutual
theorem Dt.At.keeps {S : Nat → Prop} {w w' : World} (k : Keeps S w w') : ∀ (d : Dt) (cs : Array Value), Dt.At S w d cs → Dt.At S w' d cs
  | .mk _ _ ms l _, cs, h => by
    rw [At_mk] at h ⊢
    obtain ⟨mv, lv, e, hm, hl⟩ := h
    refine ⟨mv, lv, e, hm.keeps k, ?_⟩
    rcases hl with hl | ⟨g, o, cap, arr, fz, h1, h2, h3, h4⟩
    · exact .inl hl
    · obtain ⟨fz', h5⟩ := k g arr 40 fz h2 h3 (.inl rfl)
      exact .inr ⟨g, o, cap, arr, fz', h1, h2, h5, Dts.At.keeps k l arr o h4⟩
theorem Dts.At.keeps {S : Nat → Prop} {w w' : World} (k : Keeps S w w') : ∀ (l : List Dt) (arr : Array Value) (o : Nat), Dts.At S w l arr o → Dts.At S w' l arr o
  | [], _, _, _ => by unfold Dts.At; trivial
  | d :: l, arr, o, h => by
    unfold Dts.At at h ⊢
    obtain ⟨⟨cs, hc, hd⟩, hr⟩ := h
    exact ⟨⟨cs, hc, Dt.At.keeps k d cs hd⟩, Dts.At.keeps k l arr (o + 5) hr⟩
end
mutual
theorem Dt.At.mono {S T : Nat → Prop} {w : World} (k : ∀ g, S g → T g) : ∀ (d : Dt) (cs : Array Value), Dt.At S w d cs → Dt.At T w d cs
  | .mk _ _ ms l _, cs, h => by
    rw [At_mk] at h ⊢
    obtain ⟨mv, lv, e, hm, hl⟩ := h
    refine ⟨mv, lv, e, hm.mono k, ?_⟩
    rcases hl with hl | ⟨g, o, cap, arr, fz, h1, h2, h3, h4⟩
    · exact .inl hl
    · exact .inr ⟨g, o, cap, arr, fz, h1, k g h2, h3, Dts.At.mono k l arr o h4⟩
theorem Dts.At.mono {S T : Nat → Prop} {w : World} (k : ∀ g, S g → T g) : ∀ (l : List Dt) (arr : Array Value) (o : Nat), Dts.At S w l arr o → Dts.At T w l arr o
  | [], _, _, _ => by unfold Dts.At; trivial
  | d :: l, arr, o, h => by
    unfold Dts.At at h ⊢
    obtain ⟨⟨cs, hc, hd⟩, hr⟩ := h
    exact ⟨⟨cs, hc, Dt.At.mono k d cs hd⟩, Dts.At.mono k l arr (o + 5) hr⟩
end
theorem LAt.keeps {S : Nat → Prop} {w w' : World} {lv : Value} {l : List Dt} (h : LAt S w lv l) (k : Keeps S w w') : LAt S w' lv l := by
  rcases h with h | ⟨g, o, cap, arr, fz, h1, h2, h3, h4⟩
  · exact .inl h
  · obtain ⟨fz', h5⟩ := k g arr 40 fz h2 h3 (.inl rfl)
    exact .inr ⟨g, o, cap, arr, fz', h1, h2, h5, Dts.At.keeps k l arr o h4⟩
theorem LAt.mono {S T : Nat → Prop} {w : World} {lv : Value} {l : List Dt} (h : LAt S w lv l) (k : ∀ g, S g → T g) : LAt T w lv l := by
  rcases h with h | ⟨g, o, cap, arr, fz, h1, h2, h3, h4⟩
  · exact .inl h
  · exact .inr ⟨g, o, cap, arr, fz, h1, k g h2, h3, Dts.At.mono k l arr o h4⟩
/-- The part at a place. -/
theorem Dts.At.get {S : Nat → Prop} {w : World} : ∀ (l : List Dt) (arr : Array Value) (o : Nat), Dts.At S w l arr o → ∀ j (h : j < l.length), ∃ cs, (∀ i, i < 5 → arr[o + 5 * j + i]? = cs[i]?) ∧ Dt.At S w l[j] cs
  | [], _, _, _, j, h => by simp at h
  | d :: l, arr, o, H, j, h => by
    unfold Dts.At at H
    cases j with
    | zero => simpa using H.1
    | succ j =>
      obtain ⟨cs, h1, h2⟩ := Dts.At.get l arr (o + 5) H.2 j (by simpa using h)
      exact ⟨cs, fun i hi => by rw [← h1 i hi]; congr 1; omega, h2⟩
theorem MAt.short {S : Nat → Prop} {w : World} {mv : Value} {ms : List Int} (h : MAt S w mv ms) : ms.length ≤ 1000000000 := by
  rcases h with ⟨_, rfl⟩ | ⟨g, o, cap, arr, fz, _, _, _, _, h⟩
  · simp
  · exact h
theorem MAt.one {S : Nat → Prop} {w : World} {mv : Value} {ms : List Int} (h : MAt S w mv ms) : mv.oneCell' = true := by
  rcases h with ⟨rfl, _⟩ | ⟨g, o, cap, arr, fz, rfl, _⟩ <;> rfl
theorem LAt.one {S : Nat → Prop} {w : World} {lv : Value} {l : List Dt} (h : LAt S w lv l) : lv.oneCell' = true := by
  rcases h with ⟨rfl, _⟩ | ⟨g, o, cap, arr, fz, rfl, _⟩ <;> rfl
theorem size_get : ∀ (l : List Dt) (j : Nat) (h : j < l.length), l[j].size ≤ Dt.sizes l
  | [], j, h => by simp at h
  | d :: l, 0, _ => by simp [Dt.sizes]
  | d :: l, j + 1, h => by
    have := size_get l j (by simpa using h)
    simp only [Dt.sizes, List.getElem_cons_succ]; omega

theorem setRow_new (w : World) (z cs : Array Value) (T : TypeId) : (w.alloc (.cells z T)).setRow w.heap.size cs = w.alloc (.cells cs T) := by
  unfold World.setRow World.alloc
  simp only [World.mk.injEq, and_true]
  apply Array.ext
  · simp
  · intro k h1 h2
    simp only [Array.getElem_modify]
    split
    · rename_i hk; subst hk; simp
    · rename_i hk
      simp only [Array.getElem_push]
      split
      · rfl
      · rename_i h3
        simp at h1
        omega
theorem take_snoc_dt (l : List Dt) (j : Nat) (h : j < l.length) : l.take (j + 1) = l.take j ++ [l[j]] := by
  rw [List.take_succ_eq_append_getElem h]
theorem LAt.form {S : Nat → Prop} {w : World} {lv : Value} {l : List Dt} (h : LAt S w lv l) : ∃ ao cap, lv = .slice ao l.length cap := by
  rcases h with ⟨rfl, rfl⟩ | ⟨g, o, cap, arr, fz, rfl, _⟩
  · exact ⟨none, 0, rfl⟩
  · exact ⟨_, _, rfl⟩
/-- The cells of the part at a place. -/
theorem LAt.get {S : Nat → Prop} {w : World} {ao : Option Addr} {n cap : Nat} {l : List Dt} (h : LAt S w (.slice ao n cap) l) (j : Nat) (hj : j < l.length) :
    ∃ g o k t mv lv p, ao = some ⟨g, o, none⟩ ∧ S g ∧ (∃ c fz, w.heap[g]? = some (.cells c 40 fz)) ∧ Dt.At S w l[j] #[.int .i64 k, .string t, mv, lv, .int .i64 p] ∧
      w.cell? ⟨g, o + j * 5, none⟩ = some (.int .i64 k) ∧ w.cell? ⟨g, o + j * 5 + 1, none⟩ = some (.string t) ∧ w.cell? ⟨g, o + j * 5 + 2, none⟩ = some mv ∧
      w.cell? ⟨g, o + j * 5 + 3, none⟩ = some lv ∧ w.cell? ⟨g, o + j * 5 + 4, none⟩ = some (.int .i64 p) ∧ mv.oneCell' = true ∧ lv.oneCell' = true := by
  rcases h with ⟨_, rfl⟩ | ⟨g, o, cap', arr, fz, e, hS, hg, hd⟩
  · simp at hj
  · injection e with e1 e2 e3
    subst e1
    obtain ⟨cs, hc, hat⟩ := Dts.At.get l arr o hd j hj
    generalize hd' : l[j] = d at hat
    obtain ⟨k, t, ms, lst, p⟩ := d
    have hat' := hat
    rw [At_mk] at hat'
    obtain ⟨mv, lv, rfl, hm, hl⟩ := hat'
    refine ⟨g, o, k, t, mv, lv, p, rfl, hS, ⟨arr, fz, hg⟩, hat, ?_, ?_, ?_, ?_, ?_, hm.one, hl.one⟩
    · rw [Lib.cell_of_heap hg]; rw [Nat.mul_comm]; exact hc 0 (by decide)
    · rw [Lib.cell_of_heap hg, Nat.mul_comm]; exact hc 1 (by decide)
    · rw [Lib.cell_of_heap hg, Nat.mul_comm]; exact hc 2 (by decide)
    · rw [Lib.cell_of_heap hg, Nat.mul_comm]; exact hc 3 (by decide)
    · rw [Lib.cell_of_heap hg, Nat.mul_comm]; exact hc 4 (by decide)

theorem length_sizes : ∀ (l : List Dt), l.length ≤ Dt.sizes l
  | [] => by simp
  | d :: l => by
    have h1 := length_sizes l
    have h2 : 1 ≤ d.size := by cases d; simp only [Dt.size]; omega
    simp only [List.length_cons, Dt.sizes]; omega
/-- Blocks that a datum leads to are there. -/
theorem MAt.bound {S : Nat → Prop} {w : World} {mv : Value} {ms : List Int} (h : MAt S w mv ms) : MAt (fun g => S g ∧ g < w.heap.size) w mv ms := by
  rcases h with h | ⟨g, o, cap, arr, fz, h1, h2, h3, h4⟩
  · exact .inl h
  · exact .inr ⟨g, o, cap, arr, fz, h1, ⟨h2, (Array.getElem?_eq_some_iff.1 h3).1⟩, h3, h4⟩
mutual
theorem Dt.At.bound {S : Nat → Prop} {w : World} : ∀ (d : Dt) (cs : Array Value), Dt.At S w d cs → Dt.At (fun g => S g ∧ g < w.heap.size) w d cs
  | .mk _ _ ms l _, cs, h => by
    rw [At_mk] at h ⊢
    obtain ⟨mv, lv, e, hm, hl⟩ := h
    refine ⟨mv, lv, e, hm.bound, ?_⟩
    rcases hl with hl | ⟨g, o, cap, arr, fz, h1, h2, h3, h4⟩
    · exact .inl hl
    · exact .inr ⟨g, o, cap, arr, fz, h1, ⟨h2, (Array.getElem?_eq_some_iff.1 h3).1⟩, h3, Dts.At.bound l arr o h4⟩
theorem Dts.At.bound {S : Nat → Prop} {w : World} : ∀ (l : List Dt) (arr : Array Value) (o : Nat), Dts.At S w l arr o → Dts.At (fun g => S g ∧ g < w.heap.size) w l arr o
  | [], _, _, _ => by unfold Dts.At; trivial
  | d :: l, arr, o, h => by
    unfold Dts.At at h ⊢
    obtain ⟨⟨cs, hc, hd⟩, hr⟩ := h
    exact ⟨⟨cs, hc, Dt.At.bound d cs hd⟩, Dts.At.bound l arr (o + 5) hr⟩
end
theorem Dts.At.of_get {S : Nat → Prop} {w : World} : ∀ (l : List Dt) (arr : Array Value) (o : Nat), (∀ j (h : j < l.length), ∃ cs, (∀ i, i < 5 → arr[o + 5 * j + i]? = cs[i]?) ∧ Dt.At S w l[j] cs) → Dts.At S w l arr o
  | [], _, _, _ => by unfold Dts.At; trivial
  | d :: l, arr, o, H => by
    unfold Dts.At
    refine ⟨?_, Dts.At.of_get l arr (o + 5) fun j h => ?_⟩
    · have := H 0 (by simp)
      simpa using this
    · obtain ⟨cs, h1, h2⟩ := H (j + 1) (by simpa using h)
      exact ⟨cs, fun i hi => by rw [← h1 i hi]; congr 1; omega, by simpa using h2⟩

/-- A row of data that the call owns (from block B on): v leads to it; the data's own blocks are others. -/
def OwnD (B : Nat) (w : World) (v : Value) (ds : List Dt) : Prop :=
  ∃ xs, w.ownsRow B 40 5 v ds.length xs ∧ ∀ j (h : j < ds.length), ∃ cs : Array Value, cs.size = 5 ∧ (∀ i, i < 5 → xs[5 * j + i]? = cs[i]?) ∧ Dt.At (fun g => B ≤ g ∧ v.ownBlock ≠ some g) w ds[j] cs
theorem OwnD.nil (B : Nat) (w : World) : OwnD B w (.slice none 0 0) [] := ⟨[], World.ownsRow_nil _ _ _ _, fun j h => by simp at h⟩
/-- It reads as a slice of these. -/
theorem OwnD.at {B : Nat} {w : World} {v : Value} {ds : List Dt} (h : OwnD B w v ds) : LAt (fun g => B ≤ g) w v ds := by
  obtain ⟨xs, hown, hd⟩ := h
  rcases hown.2 with ⟨rfl, hz⟩ | ⟨g, cap, cur, rfl, hbg, hg, hnc, hcm, hcs, htake⟩
  · exact .inl ⟨rfl, List.length_eq_zero_iff.1 hz⟩
  · refine .inr ⟨g, 0, cap, cur, (0, 0), rfl, hbg, hg, Dts.At.of_get _ _ _ fun j hj => ?_⟩
    obtain ⟨cs, h5, h1, h2⟩ := hd j hj
    refine ⟨cs, fun i hi => ?_, Dt.At.mono (fun g h => h.1) _ _ h2⟩
    rw [← h1 i hi, ← htake, List.getElem?_take, if_pos (by omega)]
    simp
/-- What a world that grows by one row keeps. -/
theorem Keeps.of_grown {S : Nat → Prop} {w w' : World} {row : Option Nat} (h : w.grownBy w' row) (hS : ∀ g, S g → some g ≠ row) : Keeps S w w' := by
  intro g c T fz hs hg _
  exact ⟨fz, by rw [h.block g (Array.getElem?_eq_some_iff.1 hg).1 (hS g hs)]; exact hg⟩
/-- One datum more at the row's end. -/
theorem OwnD.snoc {B : Nat} {w w' : World} {v v' : Value} {ds : List Dt} {xs : List Value} {d : Dt} {cs : Array Value} (hx : ∀ j (h : j < ds.length), ∃ cs : Array Value, cs.size = 5 ∧ (∀ i, i < 5 → xs[5 * j + i]? = cs[i]?) ∧ Dt.At (fun g => B ≤ g ∧ v.ownBlock ≠ some g) w ds[j] cs)
    (hl : xs.length = ds.length * 5) (h5 : cs.size = 5) (hd : Dt.At (fun g => B ≤ g ∧ v.ownBlock ≠ some g) w d cs)
    (hown : w'.ownsRow B 40 5 v' (ds.length + 1) (xs ++ cs.toList)) (hg : w.grownBy w' v.ownBlock) (hv : v'.ownBlock = v.ownBlock ∨ v'.ownBlock = some w.heap.size) : OwnD B w' v' (ds ++ [d]) := by
  have key : ∀ (d : Dt) (cs : Array Value), Dt.At (fun g => B ≤ g ∧ v.ownBlock ≠ some g) w d cs → Dt.At (fun g => B ≤ g ∧ v'.ownBlock ≠ some g) w' d cs := by
    intro d cs h
    have h1 := Dt.At.bound d cs h
    have h2 := Dt.At.keeps (Keeps.of_grown hg (S := fun g => (B ≤ g ∧ v.ownBlock ≠ some g) ∧ g < w.heap.size) (fun g hs e => hs.1.2 e.symm)) d cs h1
    refine Dt.At.mono (fun g hs => ⟨hs.1.1, ?_⟩) d cs h2
    rcases hv with e | e
    · rw [e]; exact hs.1.2
    · rw [e]; intro e2; injection e2 with e2; omega
  refine ⟨xs ++ cs.toList, by simpa using hown, fun j hj => ?_⟩
  by_cases hlt : j < ds.length
  · obtain ⟨c, c5, c1, c2⟩ := hx j hlt
    refine ⟨c, c5, fun i hi => ?_, ?_⟩
    · rw [List.getElem?_append_left (by omega)]; exact c1 i hi
    · rw [List.getElem_append_left hlt]; exact key _ _ c2
  · have hj' : j = ds.length := by simp at hj; omega
    subst hj'
    refine ⟨cs, h5, fun i hi => ?_, ?_⟩
    · rw [List.getElem?_append_right (by omega), show 5 * ds.length + i - xs.length = i by omega]; simp
    · rw [List.getElem_append_right (by omega)]
      simp
      exact key _ _ hd


theorem infoD : (Tryd.prog.info? 40).map (fun i => (i.zero, i.size, i.bytes)) = some (some (.agg Z5), 5, 80) := by kernel_rfl

theorem run_app (w : World) (B ty : Nat) (v : Value) (n : Nat) (xs : List Value) (hown : w.ownsRow B 40 5 v n xs) (g0 c : Nat) (news : List Value) (hl : news.length = 5)
    (hnews : ∀ j u, news[j]? = some u → w.cell? ⟨g0, j, none⟩ = some u) (h1 : ∀ u ∈ news, u.oneCell' = true) (hn : n + 1 ≤ 1000000000) (hB : B ≤ w.heap.size) :
    ∃ v' w', (Builtin.append_ #[27, 27] ty #[v, .slice (some ⟨g0, 0, none⟩) 1 c]).run Tryd.prog w = .ok v' w' ∧ w'.ownsRow B 40 5 v' (n + 1) (xs ++ news) ∧ w.grownBy w' v.ownBlock ∧ (v'.ownBlock = v.ownBlock ∨ v'.ownBlock = some w.heap.size) := by
  obtain ⟨i, hi, hz, hs, hb⟩ := info_parts infoD
  have hnews' : ∀ j u, news[j]? = some u → w.cell? ((⟨g0, 0, none⟩ : Addr).add j) = some u := by
    intro j u hu
    have e : (⟨g0, 0, none⟩ : Addr).add j = ⟨g0, j, none⟩ := by unfold Addr.add; split <;> simp_all
    rw [e]; exact hnews j u hu
  have hl1 : news.length = 1 * 5 := by omega
  obtain ⟨v', w', hr, h2, h3, _⟩ := run_append_own (P := Tryd.prog) w B 27 ty 40 i (.agg Z5) 5 80 Tryd.underlying27 hi hz hs hb rfl (by decide) v n xs hown ⟨g0, 0, none⟩ 1 c news hl1 hnews' h1 (by unfold maxLen; omega) (by omega) hB
  refine ⟨v', w', hr, h2, h3, ?_⟩
  have hl2 : news.length = 1 * i.size := by rw [hs]; exact hl1
  rcases hown.2 with ⟨rfl, rfl⟩ | ⟨g, cap, cur, rfl, hbg, hg, hnc, hcm, hcs, htake⟩
  · have hr2 := run_append_nil (P := Tryd.prog) w 27 ty 40 i (.agg Z5) Tryd.underlying27 hi hz ⟨g0, 0, none⟩ 1 c news hl2 hnews' (by decide) (by decide) (by rw [hb]; decide)
    rw [hr] at hr2
    injection hr2 with e1 e2
    right; rw [e1]; rfl
  · by_cases hroom : n + 1 ≤ cap
    · have hfit : n * i.size + news.length ≤ cur.size := by rw [hs, hl, hcs]; omega
      have hr2 := run_append_room (P := Tryd.prog) w 27 ty 40 i Tryd.underlying27 hi g n cap cur hg ⟨g0, 0, none⟩ 1 c news hl2 hnews' h1 hroom hfit
      rw [hr] at hr2
      injection hr2 with e1 e2
      left; rw [e1]; rfl
    · have hlo : xs.length = n * i.size := by rw [hs]; exact hown.1
      have hr2 := run_append_grow (P := Tryd.prog) w 27 ty 40 i (.agg Z5) Tryd.underlying27 hi hz ⟨g, 0, none⟩ n cap xs hlo (hown.cells (g := g) rfl) ⟨g0, 0, none⟩ 1 c news hl2 hnews' (by omega) (by omega) (growslice_fits (by omega) (by rw [hb]; omega))
      rw [hr] at hr2
      injection hr2 with e1 e2
      right; rw [e1]; rfl

theorem wp_app {o : Oper} {a : Act} {w : World} {K : Act → World → Prop} {Q : Exit → Act → World → Prop} (s x : Operand)
    (ho : o.op = .call { callee := .builtin .append, args := #[s, x], argTypes := #[27, 27] }) (B : Nat) (v : Value) (n : Nat) (xs : List Value) (hs : a.eval s = v) (hown : w.ownsRow B 40 5 v n xs)
    (g0 c : Nat) (hx : a.eval x = .slice (some ⟨g0, 0, none⟩) 1 c) (news : List Value) (hl : news.length = 5)
    (hnews : ∀ j u, news[j]? = some u → w.cell? ⟨g0, j, none⟩ = some u) (h1 : ∀ u ∈ news, u.oneCell' = true) (hn : n + 1 ≤ 1000000000) (hB : B ≤ w.heap.size)
    (h : ∀ v' w', w'.ownsRow B 40 5 v' (n + 1) (xs ++ news) → w.grownBy w' v.ownBlock → (v'.ownBlock = v.ownBlock ∨ v'.ownBlock = some w.heap.size) → K (a.put o.dst v') w') : o.wp Tryd.prog a w K Q := by
  obtain ⟨v', w', hr, h2, h3, h4⟩ := run_app w B o.type v n xs hown g0 c news hl hnews h1 hn hB
  unfold Oper.wp execOp
  simp only [ho, resolve, invoke, builtin, Sem.run_bind, Sem.run_pure, Result.andThen_ok, List.map_toArray, List.map_cons, List.map_nil, hs, hx, hr]
  exact h v' w' h2 h3 h4
theorem Below.grownRow {w w' : World} (h : Below w.heap.size w w') (row : Option Nat) : w.grownBy w' row := ⟨h.os, h.tape, h.output, h.size, fun k hk _ => h.block k hk⟩
theorem OwnD.below {B : Nat} {w w' : World} {v : Value} {ds : List Dt} (h : OwnD B w v ds) (hb : Below w.heap.size w w') : OwnD B w' v ds := by
  obtain ⟨xs, hown, hd⟩ := h
  refine ⟨xs, hown.kept (Below.grownRow hb none) ?_, fun j hj => ?_⟩
  · cases v.ownBlock <;> simp
  · obtain ⟨cs, h5, h1, h2⟩ := hd j hj
    exact ⟨cs, h5, h1, Dt.At.keeps (Keeps.of_below hb) _ _ h2⟩
theorem OwnD.setCell {B : Nat} {w : World} {v : Value} {ds : List Dt} (h : OwnD B w v ds) {a : Addr} (ha : a.block < B) (u : Value) : OwnD B (w.setCell a u) v ds := by
  obtain ⟨xs, hown, hd⟩ := h
  refine ⟨xs, ownsRow_setCell_below hown ha u, fun j hj => ?_⟩
  obtain ⟨cs, h5, h1, h2⟩ := hd j hj
  refine ⟨cs, h5, h1, Dt.At.keeps ?_ _ _ h2⟩
  intro g c T fz hs hg _
  have : B ≤ g := hs.1
  exact ⟨fz, by rw [heap_setCell_other w a g u (by omega)]; exact hg⟩
theorem At_form {S : Nat → Prop} {w : World} {d : Dt} {cs : Array Value} (h : Dt.At S w d cs) : ∃ k t mv lv p, cs = #[.int .i64 k, .string t, mv, lv, .int .i64 p] ∧ mv.oneCell' = true ∧ lv.oneCell' = true := by
  obtain ⟨k, t, ms, l, p⟩ := d
  rw [At_mk] at h
  obtain ⟨mv, lv, e, hm, hl⟩ := h
  exact ⟨k, t, mv, lv, p, e, hm.one, hl.one⟩
theorem setRow_new_at (A : World) (z cs : Array Value) (T : TypeId) (m : Nat) (h : A.heap.size = m) : (A.alloc (.cells z T)).setRow m cs = A.alloc (.cells cs T) := by
  subst h; exact setRow_new A z cs T
theorem add_block (b : Addr) (n : Nat) : (b.add n).block = b.block := by unfold Addr.add; split <;> rfl
theorem own_form {w : World} {B ty sz n : Nat} {v : Value} {xs : List Value} (h : w.ownsRow B ty sz v n xs) : ∃ ao m c, v = .slice ao m c := by
  rcases h.2 with ⟨rfl, _⟩ | ⟨g, cap, cur, rfl, _⟩
  · exact ⟨_, _, _, rfl⟩
  · exact ⟨_, _, _, rfl⟩
/-- A round of Make's loop. -/
theorem all_more {ds : List Dt} {B : Nat} {wr w7 : World} {v : Value} {d : Dt} (hown : OwnD B wr v ds) (hl : ds.length ≤ 1000000) (hB : B ≤ wr.heap.size)
    {cs : Array Value} (hat : Dt.At (fun g => wr.heap.size ≤ g) w7 d cs) (hb : Below wr.heap.size wr w7) (h5 : cs.size = 5) :
    ∃ xs, (w7.alloc (.cells cs 40)).ownsRow B 40 5 v ds.length xs ∧ B ≤ (w7.alloc (.cells cs 40)).heap.size ∧ ∀ v' w9, w9.ownsRow B 40 5 v' (ds.length + 1) (xs ++ cs.toList) → (w7.alloc (.cells cs 40)).grownBy w9 v.ownBlock →
      (v'.ownBlock = v.ownBlock ∨ v'.ownBlock = some (w7.alloc (.cells cs 40)).heap.size) → Below B wr w9 ∧ OwnD B w9 v' (ds ++ [d]) := by
  have hs7 := hb.size
  have hb8 : Below wr.heap.size wr (w7.alloc (.cells cs 40)) := hb.alloc hb.size _
  obtain ⟨xs, hown8, hx8⟩ := OwnD.below hown hb8
  have hvl : ∀ k, v.ownBlock = some k → B ≤ k ∧ k < wr.heap.size := by
    obtain ⟨ys, ho, _⟩ := hown
    exact ho.lt
  have hz8 : (w7.alloc (.cells cs 40)).heap.size = w7.heap.size + 1 := by simp
  refine ⟨xs, hown8, by rw [hz8]; omega, fun v' w9 hown9 hg9 hv9 => ?_⟩
  refine ⟨(hb8.mono hB).grown hg9 (by rw [hz8]; omega) (fun k hk => (hvl k hk).1), ?_⟩
  have hlx : xs.length = ds.length * 5 := hown8.1
  refine OwnD.snoc hx8 hlx h5 ?_ hown9 hg9 hv9
  have h1 := Dt.At.bound d cs hat
  have h2 := Dt.At.keeps (Keeps.of_below ((Below.refl w7.heap.size w7).alloc (Nat.le_refl _) (.cells cs 40))) d cs h1
  refine Dt.At.mono (fun g hg => ⟨?_, ?_⟩) d cs h2
  · have : wr.heap.size ≤ g := hg.1; omega
  · intro e
    have := (hvl g e).2
    have : wr.heap.size ≤ g := hg.1
    omega
theorem At_one {S : Nat → Prop} {w : World} {d : Dt} {k : Int} {t : ByteArray} {mv lv : Value} {p : Int} (h : Dt.At S w d #[.int .i64 k, .string t, mv, lv, .int .i64 p]) : mv.oneCell' = true ∧ lv.oneCell' = true := by
  obtain ⟨k', t', mv', lv', p', e, h1, h2⟩ := At_form h
  simp at e
  obtain ⟨_, _, rfl, rfl, _⟩ := e
  exact ⟨h1, h2⟩
theorem OwnD.mono {B B' : Nat} {w : World} {v : Value} {ds : List Dt} (h : OwnD B w v ds) (hB : B' ≤ B) : OwnD B' w v ds := by
  obtain ⟨xs, hown, hd⟩ := h
  refine ⟨xs, ⟨hown.1, ?_⟩, fun j hj => ?_⟩
  · rcases hown.2 with h | ⟨g, cap, cur, rfl, hb, r⟩
    · exact .inl h
    · exact .inr ⟨g, cap, cur, rfl, by omega, r⟩
  · obtain ⟨cs, h5, h1, h2⟩ := hd j hj
    exact ⟨cs, h5, h1, Dt.At.mono (fun g hg => ⟨by have := hg.1; omega, hg.2⟩) _ _ h2⟩
theorem OwnD.lt {B : Nat} {w : World} {v : Value} {ds : List Dt} (h : OwnD B w v ds) {k : Nat} (hk : v.ownBlock = some k) : B ≤ k ∧ k < w.heap.size := by
  obtain ⟨xs, hown, _⟩ := h
  exact hown.lt k hk
/-- As OwnD; the parts lie in blocks of S. -/
def OwnS (S : Nat → Prop) (B : Nat) (w : World) (v : Value) (ds : List Dt) : Prop :=
  ∃ xs, w.ownsRow B 40 5 v ds.length xs ∧ ∀ j (h : j < ds.length), ∃ cs : Array Value, cs.size = 5 ∧ (∀ i, i < 5 → xs[5 * j + i]? = cs[i]?) ∧ Dt.At S w ds[j] cs
theorem OwnS.nil (S : Nat → Prop) (B : Nat) (w : World) : OwnS S B w (.slice none 0 0) [] := ⟨[], World.ownsRow_nil _ _ _ _, fun j h => by simp at h⟩
end Go.Proofs.YtkjcbaikebdmmaaDoor
