/- Data as trees, and how they lie in memory; rows of data that a call owns (as for the data by themselves, at this program's types). -/
import Derived.Test.YtahdiknkcgnieaaDoorZA
import Derived.Laws.AppendOwn
import Derived.Lib.Builder
import Derived.ScopeJumps
import Derived.Deep.RegionHeld3
import Derived.Deep.MidRow
import Derived.Deep.Cut
namespace Go.Proofs.YtahdiknkcgnieaaDoor
open Go.RowKit
set_option linter.unusedVariables false
set_option linter.unusedSimpArgs false


/-- A datum: kind, text, marks, parts, place. -/
inductive Dt where
  | mk (k : Int) (t : ByteArray) (ms : List Int) (l : List Dt) (p : Int) : Dt

namespace Dt
def kind : Dt → Int | mk k _ _ _ _ => k
def text : Dt → ByteArray | mk _ t _ _ _ => t
def marks : Dt → List Int | mk _ _ ms _ _ => ms
def parts : Dt → List Dt | mk _ _ _ l _ => l
def place : Dt → Int | mk _ _ _ _ p => p
mutual
/-- How many data it is, with itself. -/
def size : Dt → Nat
  | mk _ _ _ l _ => 1 + sizes l
def sizes : List Dt → Nat
  | [] => 0
  | d :: l => d.size + sizes l
end
mutual
/-- How it is written. -/
def txt : Dt → List UInt8
  | mk k t _ l _ => if k = 4 then 40 :: (txts l ++ [41]) else t.data.toList
/-- Parts, parted by blanks. -/
def txts : List Dt → List UInt8
  | [] => []
  | d :: l => d.txt ++ txtr l
/-- The parts behind a first one: a blank ahead of each. -/
def txtr : List Dt → List UInt8
  | [] => []
  | d :: l => 32 :: (d.txt ++ txtr l)
end
end Dt

namespace Dt
mutual
/-- Are two data the same, but for places? -/
def same : Dt → Dt → Bool
  | mk k t ms l _, mk k' t' ms' l' _ => (k == k') && ((t.toList == t'.toList) && ((ms == ms') && sames l l'))
/-- Are these, one by one? -/
def sames : List Dt → List Dt → Bool
  | [], [] => true
  | d :: l, e :: m => d.same e && sames l m
  | [], _ :: _ => false
  | _ :: _, [] => false
end
end Dt
theorem sames_len : ∀ (l m : List Dt), l.length ≠ m.length → Dt.sames l m = false
  | [], [], h => absurd rfl h
  | d :: l, e :: m, h => by
    have := sames_len l m (by simpa using h)
    simp [Dt.sames, this]
  | [], _ :: _, _ => by simp [Dt.sames]
  | _ :: _, [], _ => by simp [Dt.sames]
theorem sames_get : ∀ (l m : List Dt) (j : Nat) (h1 : j < l.length) (h2 : j < m.length), Dt.same l[j] m[j] = false → Dt.sames l m = false
  | [], _, j, h1, _, _ => by simp at h1
  | _ :: _, [], j, _, h2, _ => by simp at h2
  | d :: l, e :: m, 0, _, _, h => by
    have h' : Dt.same d e = false := h
    simp [Dt.sames, h']
  | d :: l, e :: m, j + 1, h1, h2, h => by
    have := sames_get l m j (by simpa using h1) (by simpa using h2) (by simpa using h)
    simp [Dt.sames, this]
theorem sames_all : ∀ (l m : List Dt), l.length = m.length → (∀ j (h1 : j < l.length) (h2 : j < m.length), Dt.same l[j] m[j] = true) → Dt.sames l m = true
  | [], [], _, _ => by simp [Dt.sames]
  | d :: l, e :: m, hl, h => by
    have h0 := h 0 (by simp) (by simp)
    have := sames_all l m (by simpa using hl) (fun j h1 h2 => by have := h (j + 1) (by simpa using h1) (by simpa using h2); simpa using this)
    have h0' : Dt.same d e = true := h0
    simp [Dt.sames, h0', this]
  | [], _ :: _, hl, _ => by simp at hl
  | _ :: _, [], hl, _ => by simp at hl

/-- A slice of ints that reads as ms; its block is one of S. -/
def MAt (S : Nat → Prop) (w : World) (mv : Value) (ms : List Int) : Prop :=
  (mv = .slice none 0 0 ∧ ms = []) ∨ ∃ g o cap arr fz, mv = .slice (some ⟨g, o, none⟩) ms.length cap ∧ S g ∧ w.heap[g]? = some (.cells arr 3 fz) ∧ (∀ j (h : j < ms.length), arr[o + j]? = some (.int .i64 ms[j])) ∧ ms.length ≤ 1000000000

mutual
/-- The cells cs are this datum; all blocks that it leads to are some of S. -/
def Dt.At (S : Nat → Prop) (w : World) : Dt → Array Value → Prop
  | .mk k t ms l p, cs => ∃ mv lv, cs = #[.int .i64 k, .string t, mv, lv, .int .i64 p] ∧ MAt S w mv ms ∧
      ((lv = .slice none 0 0 ∧ l = []) ∨ ∃ g o cap arr fz, lv = .slice (some ⟨g, o, none⟩) l.length cap ∧ S g ∧ w.heap[g]? = some (.cells arr 40 fz) ∧ Dts.At S w l arr o)
/-- From place o on the cells of a row are these data, one behind the other. -/
def Dts.At (S : Nat → Prop) (w : World) : List Dt → Array Value → Nat → Prop
  | [], _, _ => True
  | d :: l, arr, o => (∃ cs, (∀ i, i < 5 → arr[o + i]? = cs[i]?) ∧ Dt.At S w d cs) ∧ Dts.At S w l arr (o + 5)
end
/-- A slice of data that reads as l. -/
def LAt (S : Nat → Prop) (w : World) (lv : Value) (l : List Dt) : Prop :=
  (lv = .slice none 0 0 ∧ l = []) ∨ ∃ g o cap arr fz, lv = .slice (some ⟨g, o, none⟩) l.length cap ∧ S g ∧ w.heap[g]? = some (.cells arr 40 fz) ∧ Dts.At S w l arr o
theorem At_mk (S : Nat → Prop) (w : World) (k : Int) (t : ByteArray) (ms : List Int) (l : List Dt) (p : Int) (cs : Array Value) :
    Dt.At S w (.mk k t ms l p) cs ↔ ∃ mv lv, cs = #[.int .i64 k, .string t, mv, lv, .int .i64 p] ∧ MAt S w mv ms ∧ LAt S w lv l := by
  unfold Dt.At LAt; rfl

/-- Rows of data and of numbers stand. -/
def Keeps (S : Nat → Prop) (w w' : World) : Prop := ∀ g c T fz, S g → w.heap[g]? = some (.cells c T fz) → (T = 40 ∨ T = 3) → ∃ fz', w'.heap[g]? = some (.cells c T fz')
theorem Keeps.refl (S : Nat → Prop) (w : World) : Keeps S w w := fun _ _ _ fz _ h _ => ⟨fz, h⟩
theorem Keeps.trans {S : Nat → Prop} {a b c : World} (h : Keeps S a b) (k : Keeps S b c) : Keeps S a c := by
  intro g cs T fz hs hg hT
  obtain ⟨fz', h1⟩ := h g cs T fz hs hg hT
  exact k g cs T fz' hs h1 hT
theorem Keeps.of_below {S : Nat → Prop} {w w' : World} (h : Below w.heap.size w w') : Keeps S w w' := by
  intro g c T fz _ hg _
  have hlt : g < w.heap.size := (Array.getElem?_eq_some_iff.1 hg).1
  exact ⟨fz, by rw [h.block g hlt]; exact hg⟩
theorem MAt.keeps {S : Nat → Prop} {w w' : World} {mv : Value} {ms : List Int} (h : MAt S w mv ms) (k : Keeps S w w') : MAt S w' mv ms := by
  rcases h with h | ⟨g, o, cap, arr, fz, h1, h2, h3, h4⟩
  · exact .inl h
  · obtain ⟨fz', h5⟩ := k g arr 3 fz h2 h3 (.inr rfl)
    exact .inr ⟨g, o, cap, arr, fz', h1, h2, h5, h4⟩
theorem MAt.mono {S T : Nat → Prop} {w : World} {mv : Value} {ms : List Int} (h : MAt S w mv ms) (k : ∀ g, S g → T g) : MAt T w mv ms := by
  rcases h with h | ⟨g, o, cap, arr, fz, h1, h2, h3, h4⟩
  · exact .inl h
  · exact .inr ⟨g, o, cap, arr, fz, h1, k g h2, h3, h4⟩
mutual
theorem Dt.At.keeps {S : Nat → Prop} {w w' : World} (k : Keeps S w w') : ∀ (d : Dt) (cs : Array Value), Dt.At S w d cs → Dt.At S w' d cs
  | .mk _ _ ms l _, cs, h => by
    rw [At_mk] at h ⊢
    obtain ⟨mv, lv, e, hm, hl⟩ := h
    refine ⟨mv, lv, e, hm.keeps k, ?_⟩
    rcases hl with hl | ⟨g, o, cap, arr, fz, h1, h2, h3, h4⟩
    · exact .inl hl
    · obtain ⟨fz', h5⟩ := k g arr 40 fz h2 h3 (.inl rfl)
      exact .inr ⟨g, o, cap, arr, fz', h1, h2, h5, Dts.At.keeps k l arr o h4⟩
theorem Dts.At.keeps {S : Nat → Prop} {w w' : World} (k : Keeps S w w') : ∀ (l : List Dt) (arr : Array Value) (o : Nat), Dts.At S w l arr o → Dts.At S w' l arr o
  | [], _, _, _ => by unfold Dts.At; trivial
  | d :: l, arr, o, h => by
    unfold Dts.At at h ⊢
    obtain ⟨⟨cs, hc, hd⟩, hr⟩ := h
    exact ⟨⟨cs, hc, Dt.At.keeps k d cs hd⟩, Dts.At.keeps k l arr (o + 5) hr⟩
end
mutual
theorem Dt.At.mono {S T : Nat → Prop} {w : World} (k : ∀ g, S g → T g) : ∀ (d : Dt) (cs : Array Value), Dt.At S w d cs → Dt.At T w d cs
  | .mk _ _ ms l _, cs, h => by
    rw [At_mk] at h ⊢
    obtain ⟨mv, lv, e, hm, hl⟩ := h
    refine ⟨mv, lv, e, hm.mono k, ?_⟩
    rcases hl with hl | ⟨g, o, cap, arr, fz, h1, h2, h3, h4⟩
    · exact .inl hl
    · exact .inr ⟨g, o, cap, arr, fz, h1, k g h2, h3, Dts.At.mono k l arr o h4⟩
theorem Dts.At.mono {S T : Nat → Prop} {w : World} (k : ∀ g, S g → T g) : ∀ (l : List Dt) (arr : Array Value) (o : Nat), Dts.At S w l arr o → Dts.At T w l arr o
  | [], _, _, _ => by unfold Dts.At; trivial
  | d :: l, arr, o, h => by
    unfold Dts.At at h ⊢
    obtain ⟨⟨cs, hc, hd⟩, hr⟩ := h
    exact ⟨⟨cs, hc, Dt.At.mono k d cs hd⟩, Dts.At.mono k l arr (o + 5) hr⟩
end
theorem LAt.keeps {S : Nat → Prop} {w w' : World} {lv : Value} {l : List Dt} (h : LAt S w lv l) (k : Keeps S w w') : LAt S w' lv l := by
  rcases h with h | ⟨g, o, cap, arr, fz, h1, h2, h3, h4⟩
  · exact .inl h
  · obtain ⟨fz', h5⟩ := k g arr 40 fz h2 h3 (.inl rfl)
    exact .inr ⟨g, o, cap, arr, fz', h1, h2, h5, Dts.At.keeps k l arr o h4⟩
theorem LAt.mono {S T : Nat → Prop} {w : World} {lv : Value} {l : List Dt} (h : LAt S w lv l) (k : ∀ g, S g → T g) : LAt T w lv l := by
  rcases h with h | ⟨g, o, cap, arr, fz, h1, h2, h3, h4⟩
  · exact .inl h
  · exact .inr ⟨g, o, cap, arr, fz, h1, k g h2, h3, Dts.At.mono k l arr o h4⟩
/-- The part at a place. -/
theorem Dts.At.get {S : Nat → Prop} {w : World} : ∀ (l : List Dt) (arr : Array Value) (o : Nat), Dts.At S w l arr o → ∀ j (h : j < l.length), ∃ cs, (∀ i, i < 5 → arr[o + 5 * j + i]? = cs[i]?) ∧ Dt.At S w l[j] cs
  | [], _, _, _, j, h => by simp at h
  | d :: l, arr, o, H, j, h => by
    unfold Dts.At at H
    cases j with
    | zero => simpa using H.1
    | succ j =>
      obtain ⟨cs, h1, h2⟩ := Dts.At.get l arr (o + 5) H.2 j (by simpa using h)
      exact ⟨cs, fun i hi => by rw [← h1 i hi]; congr 1; omega, h2⟩
theorem MAt.short {S : Nat → Prop} {w : World} {mv : Value} {ms : List Int} (h : MAt S w mv ms) : ms.length ≤ 1000000000 := by
  rcases h with ⟨_, rfl⟩ | ⟨g, o, cap, arr, fz, _, _, _, _, h⟩
  · simp
  · exact h
theorem MAt.one {S : Nat → Prop} {w : World} {mv : Value} {ms : List Int} (h : MAt S w mv ms) : mv.oneCell' = true := by
  rcases h with ⟨rfl, _⟩ | ⟨g, o, cap, arr, fz, rfl, _⟩ <;> rfl
theorem LAt.one {S : Nat → Prop} {w : World} {lv : Value} {l : List Dt} (h : LAt S w lv l) : lv.oneCell' = true := by
  rcases h with ⟨rfl, _⟩ | ⟨g, o, cap, arr, fz, rfl, _⟩ <;> rfl
theorem size_get : ∀ (l : List Dt) (j : Nat) (h : j < l.length), l[j].size ≤ Dt.sizes l
  | [], j, h => by simp at h
  | d :: l, 0, _ => by simp [Dt.sizes]
  | d :: l, j + 1, h => by
    have := size_get l j (by simpa using h)
    simp only [Dt.sizes, List.getElem_cons_succ]; omega

theorem setRow_new (w : World) (z cs : Array Value) (T : TypeId) : (w.alloc (.cells z T)).setRow w.heap.size cs = w.alloc (.cells cs T) := by
  unfold World.setRow World.alloc
  simp only [World.mk.injEq, and_true]
  apply Array.ext
  · simp
  · intro k h1 h2
    simp only [Array.getElem_modify]
    split
    · rename_i hk; subst hk; simp
    · rename_i hk
      simp only [Array.getElem_push]
      split
      · rfl
      · rename_i h3
        simp at h1
        omega
theorem take_snoc_dt (l : List Dt) (j : Nat) (h : j < l.length) : l.take (j + 1) = l.take j ++ [l[j]] := by
  rw [List.take_succ_eq_append_getElem h]
theorem LAt.form {S : Nat → Prop} {w : World} {lv : Value} {l : List Dt} (h : LAt S w lv l) : ∃ ao cap, lv = .slice ao l.length cap := by
  rcases h with ⟨rfl, rfl⟩ | ⟨g, o, cap, arr, fz, rfl, _⟩
  · exact ⟨none, 0, rfl⟩
  · exact ⟨_, _, rfl⟩
/-- The cells of the part at a place. -/
theorem LAt.get {S : Nat → Prop} {w : World} {ao : Option Addr} {n cap : Nat} {l : List Dt} (h : LAt S w (.slice ao n cap) l) (j : Nat) (hj : j < l.length) :
    ∃ g o k t mv lv p, ao = some ⟨g, o, none⟩ ∧ S g ∧ (∃ c fz, w.heap[g]? = some (.cells c 40 fz)) ∧ Dt.At S w l[j] #[.int .i64 k, .string t, mv, lv, .int .i64 p] ∧
      w.cell? ⟨g, o + j * 5, none⟩ = some (.int .i64 k) ∧ w.cell? ⟨g, o + j * 5 + 1, none⟩ = some (.string t) ∧ w.cell? ⟨g, o + j * 5 + 2, none⟩ = some mv ∧
      w.cell? ⟨g, o + j * 5 + 3, none⟩ = some lv ∧ w.cell? ⟨g, o + j * 5 + 4, none⟩ = some (.int .i64 p) ∧ mv.oneCell' = true ∧ lv.oneCell' = true := by
  rcases h with ⟨_, rfl⟩ | ⟨g, o, cap', arr, fz, e, hS, hg, hd⟩
  · simp at hj
  · injection e with e1 e2 e3
    subst e1
    obtain ⟨cs, hc, hat⟩ := Dts.At.get l arr o hd j hj
    generalize hd' : l[j] = d at hat
    obtain ⟨k, t, ms, lst, p⟩ := d
    have hat' := hat
    rw [At_mk] at hat'
    obtain ⟨mv, lv, rfl, hm, hl⟩ := hat'
    refine ⟨g, o, k, t, mv, lv, p, rfl, hS, ⟨arr, fz, hg⟩, hat, ?_, ?_, ?_, ?_, ?_, hm.one, hl.one⟩
    · rw [Lib.cell_of_heap hg]; rw [Nat.mul_comm]; exact hc 0 (by decide)
    · rw [Lib.cell_of_heap hg, Nat.mul_comm]; exact hc 1 (by decide)
    · rw [Lib.cell_of_heap hg, Nat.mul_comm]; exact hc 2 (by decide)
    · rw [Lib.cell_of_heap hg, Nat.mul_comm]; exact hc 3 (by decide)
    · rw [Lib.cell_of_heap hg, Nat.mul_comm]; exact hc 4 (by decide)

theorem length_sizes : ∀ (l : List Dt), l.length ≤ Dt.sizes l
  | [] => by simp
  | d :: l => by
    have h1 := length_sizes l
    have h2 : 1 ≤ d.size := by cases d; simp only [Dt.size]; omega
    simp only [List.length_cons, Dt.sizes]; omega
/-- Blocks that a datum leads to are there. -/
theorem MAt.bound {S : Nat → Prop} {w : World} {mv : Value} {ms : List Int} (h : MAt S w mv ms) : MAt (fun g => S g ∧ g < w.heap.size) w mv ms := by
  rcases h with h | ⟨g, o, cap, arr, fz, h1, h2, h3, h4⟩
  · exact .inl h
  · exact .inr ⟨g, o, cap, arr, fz, h1, ⟨h2, (Array.getElem?_eq_some_iff.1 h3).1⟩, h3, h4⟩
mutual
theorem Dt.At.bound {S : Nat → Prop} {w : World} : ∀ (d : Dt) (cs : Array Value), Dt.At S w d cs → Dt.At (fun g => S g ∧ g < w.heap.size) w d cs
  | .mk _ _ ms l _, cs, h => by
    rw [At_mk] at h ⊢
    obtain ⟨mv, lv, e, hm, hl⟩ := h
    refine ⟨mv, lv, e, hm.bound, ?_⟩
    rcases hl with hl | ⟨g, o, cap, arr, fz, h1, h2, h3, h4⟩
    · exact .inl hl
    · exact .inr ⟨g, o, cap, arr, fz, h1, ⟨h2, (Array.getElem?_eq_some_iff.1 h3).1⟩, h3, Dts.At.bound l arr o h4⟩
theorem Dts.At.bound {S : Nat → Prop} {w : World} : ∀ (l : List Dt) (arr : Array Value) (o : Nat), Dts.At S w l arr o → Dts.At (fun g => S g ∧ g < w.heap.size) w l arr o
  | [], _, _, _ => by unfold Dts.At; trivial
  | d :: l, arr, o, h => by
    unfold Dts.At at h ⊢
    obtain ⟨⟨cs, hc, hd⟩, hr⟩ := h
    exact ⟨⟨cs, hc, Dt.At.bound d cs hd⟩, Dts.At.bound l arr (o + 5) hr⟩
end
theorem Dts.At.of_get {S : Nat → Prop} {w : World} : ∀ (l : List Dt) (arr : Array Value) (o : Nat), (∀ j (h : j < l.length), ∃ cs, (∀ i, i < 5 → arr[o + 5 * j + i]? = cs[i]?) ∧ Dt.At S w l[j] cs) → Dts.At S w l arr o
  | [], _, _, _ => by unfold Dts.At; trivial
  | d :: l, arr, o, H => by
    unfold Dts.At
    refine ⟨?_, Dts.At.of_get l arr (o + 5) fun j h => ?_⟩
    · have := H 0 (by simp)
      simpa using this
    · obtain ⟨cs, h1, h2⟩ := H (j + 1) (by simpa using h)
      exact ⟨cs, fun i hi => by rw [← h1 i hi]; congr 1; omega, by simpa using h2⟩

/-- A row of data that the call owns (from block B on): v leads to it; the data's own blocks are others. -/
def OwnD (B : Nat) (w : World) (v : Value) (ds : List Dt) : Prop :=
  ∃ xs, w.ownsRow B 40 5 v ds.length xs ∧ ∀ j (h : j < ds.length), ∃ cs : Array Value, cs.size = 5 ∧ (∀ i, i < 5 → xs[5 * j + i]? = cs[i]?) ∧ Dt.At (fun g => B ≤ g ∧ v.ownBlock ≠ some g) w ds[j] cs
theorem OwnD.nil (B : Nat) (w : World) : OwnD B w (.slice none 0 0) [] := ⟨[], World.ownsRow_nil _ _ _ _, fun j h => by simp at h⟩
/-- It reads as a slice of these. -/
theorem OwnD.at {B : Nat} {w : World} {v : Value} {ds : List Dt} (h : OwnD B w v ds) : LAt (fun g => B ≤ g) w v ds := by
  obtain ⟨xs, hown, hd⟩ := h
  rcases hown.2 with ⟨rfl, hz⟩ | ⟨g, cap, cur, rfl, hbg, hg, hnc, hcm, hcs, htake⟩
  · exact .inl ⟨rfl, List.length_eq_zero_iff.1 hz⟩
  · refine .inr ⟨g, 0, cap, cur, (0, 0), rfl, hbg, hg, Dts.At.of_get _ _ _ fun j hj => ?_⟩
    obtain ⟨cs, h5, h1, h2⟩ := hd j hj
    refine ⟨cs, fun i hi => ?_, Dt.At.mono (fun g h => h.1) _ _ h2⟩
    rw [← h1 i hi, ← htake, List.getElem?_take, if_pos (by omega)]
    simp
/-- What a world that grows by one row keeps. -/
theorem Keeps.of_grown {S : Nat → Prop} {w w' : World} {row : Option Nat} (h : w.grownBy w' row) (hS : ∀ g, S g → some g ≠ row) : Keeps S w w' := by
  intro g c T fz hs hg _
  exact ⟨fz, by rw [h.block g (Array.getElem?_eq_some_iff.1 hg).1 (hS g hs)]; exact hg⟩
/-- One datum more at the row's end. -/
theorem OwnD.snoc {B : Nat} {w w' : World} {v v' : Value} {ds : List Dt} {xs : List Value} {d : Dt} {cs : Array Value} (hx : ∀ j (h : j < ds.length), ∃ cs : Array Value, cs.size = 5 ∧ (∀ i, i < 5 → xs[5 * j + i]? = cs[i]?) ∧ Dt.At (fun g => B ≤ g ∧ v.ownBlock ≠ some g) w ds[j] cs)
    (hl : xs.length = ds.length * 5) (h5 : cs.size = 5) (hd : Dt.At (fun g => B ≤ g ∧ v.ownBlock ≠ some g) w d cs)
    (hown : w'.ownsRow B 40 5 v' (ds.length + 1) (xs ++ cs.toList)) (hg : w.grownBy w' v.ownBlock) (hv : v'.ownBlock = v.ownBlock ∨ v'.ownBlock = some w.heap.size) : OwnD B w' v' (ds ++ [d]) := by
  have key : ∀ (d : Dt) (cs : Array Value), Dt.At (fun g => B ≤ g ∧ v.ownBlock ≠ some g) w d cs → Dt.At (fun g => B ≤ g ∧ v'.ownBlock ≠ some g) w' d cs := by
    intro d cs h
    have h1 := Dt.At.bound d cs h
    have h2 := Dt.At.keeps (Keeps.of_grown hg (S := fun g => (B ≤ g ∧ v.ownBlock ≠ some g) ∧ g < w.heap.size) (fun g hs e => hs.1.2 e.symm)) d cs h1
    refine Dt.At.mono (fun g hs => ⟨hs.1.1, ?_⟩) d cs h2
    rcases hv with e | e
    · rw [e]; exact hs.1.2
    · rw [e]; intro e2; injection e2 with e2; omega
  refine ⟨xs ++ cs.toList, by simpa using hown, fun j hj => ?_⟩
  by_cases hlt : j < ds.length
  · obtain ⟨c, c5, c1, c2⟩ := hx j hlt
    refine ⟨c, c5, fun i hi => ?_, ?_⟩
    · rw [List.getElem?_append_left (by omega)]; exact c1 i hi
    · rw [List.getElem_append_left hlt]; exact key _ _ c2
  · have hj' : j = ds.length := by simp at hj; omega
    subst hj'
    refine ⟨cs, h5, fun i hi => ?_, ?_⟩
    · rw [List.getElem?_append_right (by omega), show 5 * ds.length + i - xs.length = i by omega]; simp
    · rw [List.getElem_append_right (by omega)]
      simp
      exact key _ _ hd


theorem infoD : (Tryd.prog.info? 40).map (fun i => (i.zero, i.size, i.bytes)) = some (some (.agg Z5), 5, 80) := by kernel_rfl

theorem run_app (w : World) (B ty : Nat) (v : Value) (n : Nat) (xs : List Value) (hown : w.ownsRow B 40 5 v n xs) (g0 c : Nat) (news : List Value) (hl : news.length = 5)
    (hnews : ∀ j u, news[j]? = some u → w.cell? ⟨g0, j, none⟩ = some u) (h1 : ∀ u ∈ news, u.oneCell' = true) (hn : n + 1 ≤ 1000000000) (hB : B ≤ w.heap.size) :
    ∃ v' w', (Builtin.append_ #[27, 27] ty #[v, .slice (some ⟨g0, 0, none⟩) 1 c]).run Tryd.prog w = .ok v' w' ∧ w'.ownsRow B 40 5 v' (n + 1) (xs ++ news) ∧ w.grownBy w' v.ownBlock ∧ (v'.ownBlock = v.ownBlock ∨ v'.ownBlock = some w.heap.size) := by
  obtain ⟨i, hi, hz, hs, hb⟩ := info_parts infoD
  have hnews' : ∀ j u, news[j]? = some u → w.cell? ((⟨g0, 0, none⟩ : Addr).add j) = some u := by
    intro j u hu
    have e : (⟨g0, 0, none⟩ : Addr).add j = ⟨g0, j, none⟩ := by unfold Addr.add; split <;> simp_all
    rw [e]; exact hnews j u hu
  have hl1 : news.length = 1 * 5 := by omega
  obtain ⟨v', w', hr, h2, h3, _⟩ := run_append_own (P := Tryd.prog) w B 27 ty 40 i (.agg Z5) 5 80 Tryd.underlying27 hi hz hs hb rfl (by decide) v n xs hown ⟨g0, 0, none⟩ 1 c news hl1 hnews' h1 (by unfold maxLen; omega) (by omega) hB
  refine ⟨v', w', hr, h2, h3, ?_⟩
  have hl2 : news.length = 1 * i.size := by rw [hs]; exact hl1
  rcases hown.2 with ⟨rfl, rfl⟩ | ⟨g, cap, cur, rfl, hbg, hg, hnc, hcm, hcs, htake⟩
  · have hr2 := run_append_nil (P := Tryd.prog) w 27 ty 40 i (.agg Z5) Tryd.underlying27 hi hz ⟨g0, 0, none⟩ 1 c news hl2 hnews' (by decide) (by decide) (by rw [hb]; decide)
    rw [hr] at hr2
    injection hr2 with e1 e2
    right; rw [e1]; rfl
  · by_cases hroom : n + 1 ≤ cap
    · have hfit : n * i.size + news.length ≤ cur.size := by rw [hs, hl, hcs]; omega
      have hr2 := run_append_room (P := Tryd.prog) w 27 ty 40 i Tryd.underlying27 hi g n cap cur hg ⟨g0, 0, none⟩ 1 c news hl2 hnews' h1 hroom hfit
      rw [hr] at hr2
      injection hr2 with e1 e2
      left; rw [e1]; rfl
    · have hlo : xs.length = n * i.size := by rw [hs]; exact hown.1
      have hr2 := run_append_grow (P := Tryd.prog) w 27 ty 40 i (.agg Z5) Tryd.underlying27 hi hz ⟨g, 0, none⟩ n cap xs hlo (hown.cells (g := g) rfl) ⟨g0, 0, none⟩ 1 c news hl2 hnews' (by omega) (by omega) (growslice_fits (by omega) (by rw [hb]; omega))
      rw [hr] at hr2
      injection hr2 with e1 e2
      right; rw [e1]; rfl

theorem wp_app {o : Oper} {a : Act} {w : World} {K : Act → World → Prop} {Q : Exit → Act → World → Prop} (s x : Operand)
    (ho : o.op = .call { callee := .builtin .append, args := #[s, x], argTypes := #[27, 27] }) (B : Nat) (v : Value) (n : Nat) (xs : List Value) (hs : a.eval s = v) (hown : w.ownsRow B 40 5 v n xs)
    (g0 c : Nat) (hx : a.eval x = .slice (some ⟨g0, 0, none⟩) 1 c) (news : List Value) (hl : news.length = 5)
    (hnews : ∀ j u, news[j]? = some u → w.cell? ⟨g0, j, none⟩ = some u) (h1 : ∀ u ∈ news, u.oneCell' = true) (hn : n + 1 ≤ 1000000000) (hB : B ≤ w.heap.size)
    (h : ∀ v' w', w'.ownsRow B 40 5 v' (n + 1) (xs ++ news) → w.grownBy w' v.ownBlock → (v'.ownBlock = v.ownBlock ∨ v'.ownBlock = some w.heap.size) → K (a.put o.dst v') w') : o.wp Tryd.prog a w K Q := by
  obtain ⟨v', w', hr, h2, h3, h4⟩ := run_app w B o.type v n xs hown g0 c news hl hnews h1 hn hB
  unfold Oper.wp execOp
  simp only [ho, resolve, invoke, builtin, Sem.run_bind, Sem.run_pure, Result.andThen_ok, List.map_toArray, List.map_cons, List.map_nil, hs, hx, hr]
  exact h v' w' h2 h3 h4
theorem Below.grownRow {w w' : World} (h : Below w.heap.size w w') (row : Option Nat) : w.grownBy w' row := ⟨h.os, h.tape, h.output, h.size, fun k hk _ => h.block k hk⟩
theorem OwnD.below {B : Nat} {w w' : World} {v : Value} {ds : List Dt} (h : OwnD B w v ds) (hb : Below w.heap.size w w') : OwnD B w' v ds := by
  obtain ⟨xs, hown, hd⟩ := h
  refine ⟨xs, hown.kept (Below.grownRow hb none) ?_, fun j hj => ?_⟩
  · cases v.ownBlock <;> simp
  · obtain ⟨cs, h5, h1, h2⟩ := hd j hj
    exact ⟨cs, h5, h1, Dt.At.keeps (Keeps.of_below hb) _ _ h2⟩
theorem OwnD.setCell {B : Nat} {w : World} {v : Value} {ds : List Dt} (h : OwnD B w v ds) {a : Addr} (ha : a.block < B) (u : Value) : OwnD B (w.setCell a u) v ds := by
  obtain ⟨xs, hown, hd⟩ := h
  refine ⟨xs, ownsRow_setCell_below hown ha u, fun j hj => ?_⟩
  obtain ⟨cs, h5, h1, h2⟩ := hd j hj
  refine ⟨cs, h5, h1, Dt.At.keeps ?_ _ _ h2⟩
  intro g c T fz hs hg _
  have : B ≤ g := hs.1
  exact ⟨fz, by rw [heap_setCell_other w a g u (by omega)]; exact hg⟩
theorem At_form {S : Nat → Prop} {w : World} {d : Dt} {cs : Array Value} (h : Dt.At S w d cs) : ∃ k t mv lv p, cs = #[.int .i64 k, .string t, mv, lv, .int .i64 p] ∧ mv.oneCell' = true ∧ lv.oneCell' = true := by
  obtain ⟨k, t, ms, l, p⟩ := d
  rw [At_mk] at h
  obtain ⟨mv, lv, e, hm, hl⟩ := h
  exact ⟨k, t, mv, lv, p, e, hm.one, hl.one⟩
theorem setRow_new_at (A : World) (z cs : Array Value) (T : TypeId) (m : Nat) (h : A.heap.size = m) : (A.alloc (.cells z T)).setRow m cs = A.alloc (.cells cs T) := by
  subst h; exact setRow_new A z cs T
theorem add_block (b : Addr) (n : Nat) : (b.add n).block = b.block := by unfold Addr.add; split <;> rfl
theorem own_form {w : World} {B ty sz n : Nat} {v : Value} {xs : List Value} (h : w.ownsRow B ty sz v n xs) : ∃ ao m c, v = .slice ao m c := by
  rcases h.2 with ⟨rfl, _⟩ | ⟨g, cap, cur, rfl, _⟩
  · exact ⟨_, _, _, rfl⟩
  · exact ⟨_, _, _, rfl⟩
/-- A round of Make's loop. -/
theorem all_more {ds : List Dt} {B : Nat} {wr w7 : World} {v : Value} {d : Dt} (hown : OwnD B wr v ds) (hl : ds.length ≤ 1000000) (hB : B ≤ wr.heap.size)
    {cs : Array Value} (hat : Dt.At (fun g => wr.heap.size ≤ g) w7 d cs) (hb : Below wr.heap.size wr w7) (h5 : cs.size = 5) :
    ∃ xs, (w7.alloc (.cells cs 40)).ownsRow B 40 5 v ds.length xs ∧ B ≤ (w7.alloc (.cells cs 40)).heap.size ∧ ∀ v' w9, w9.ownsRow B 40 5 v' (ds.length + 1) (xs ++ cs.toList) → (w7.alloc (.cells cs 40)).grownBy w9 v.ownBlock →
      (v'.ownBlock = v.ownBlock ∨ v'.ownBlock = some (w7.alloc (.cells cs 40)).heap.size) → Below B wr w9 ∧ OwnD B w9 v' (ds ++ [d]) := by
  have hs7 := hb.size
  have hb8 : Below wr.heap.size wr (w7.alloc (.cells cs 40)) := hb.alloc hb.size _
  obtain ⟨xs, hown8, hx8⟩ := OwnD.below hown hb8
  have hvl : ∀ k, v.ownBlock = some k → B ≤ k ∧ k < wr.heap.size := by
    obtain ⟨ys, ho, _⟩ := hown
    exact ho.lt
  have hz8 : (w7.alloc (.cells cs 40)).heap.size = w7.heap.size + 1 := by simp
  refine ⟨xs, hown8, by rw [hz8]; omega, fun v' w9 hown9 hg9 hv9 => ?_⟩
  refine ⟨(hb8.mono hB).grown hg9 (by rw [hz8]; omega) (fun k hk => (hvl k hk).1), ?_⟩
  have hlx : xs.length = ds.length * 5 := hown8.1
  refine OwnD.snoc hx8 hlx h5 ?_ hown9 hg9 hv9
  have h1 := Dt.At.bound d cs hat
  have h2 := Dt.At.keeps (Keeps.of_below ((Below.refl w7.heap.size w7).alloc (Nat.le_refl _) (.cells cs 40))) d cs h1
  refine Dt.At.mono (fun g hg => ⟨?_, ?_⟩) d cs h2
  · have : wr.heap.size ≤ g := hg.1; omega
  · intro e
    have := (hvl g e).2
    have : wr.heap.size ≤ g := hg.1
    omega
theorem At_one {S : Nat → Prop} {w : World} {d : Dt} {k : Int} {t : ByteArray} {mv lv : Value} {p : Int} (h : Dt.At S w d #[.int .i64 k, .string t, mv, lv, .int .i64 p]) : mv.oneCell' = true ∧ lv.oneCell' = true := by
  obtain ⟨k', t', mv', lv', p', e, h1, h2⟩ := At_form h
  simp at e
  obtain ⟨_, _, rfl, rfl, _⟩ := e
  exact ⟨h1, h2⟩
theorem OwnD.mono {B B' : Nat} {w : World} {v : Value} {ds : List Dt} (h : OwnD B w v ds) (hB : B' ≤ B) : OwnD B' w v ds := by
  obtain ⟨xs, hown, hd⟩ := h
  refine ⟨xs, ⟨hown.1, ?_⟩, fun j hj => ?_⟩
  · rcases hown.2 with h | ⟨g, cap, cur, rfl, hb, r⟩
    · exact .inl h
    · exact .inr ⟨g, cap, cur, rfl, by omega, r⟩
  · obtain ⟨cs, h5, h1, h2⟩ := hd j hj
    exact ⟨cs, h5, h1, Dt.At.mono (fun g hg => ⟨by have := hg.1; omega, hg.2⟩) _ _ h2⟩
theorem OwnD.lt {B : Nat} {w : World} {v : Value} {ds : List Dt} (h : OwnD B w v ds) {k : Nat} (hk : v.ownBlock = some k) : B ≤ k ∧ k < w.heap.size := by
  obtain ⟨xs, hown, _⟩ := h
  exact hown.lt k hk
/-- As OwnD; the parts lie in blocks of S. -/
def OwnS (S : Nat → Prop) (B : Nat) (w : World) (v : Value) (ds : List Dt) : Prop :=
  ∃ xs, w.ownsRow B 40 5 v ds.length xs ∧ ∀ j (h : j < ds.length), ∃ cs : Array Value, cs.size = 5 ∧ (∀ i, i < 5 → xs[5 * j + i]? = cs[i]?) ∧ Dt.At S w ds[j] cs
theorem OwnS.nil (S : Nat → Prop) (B : Nat) (w : World) : OwnS S B w (.slice none 0 0) [] := ⟨[], World.ownsRow_nil _ _ _ _, fun j h => by simp at h⟩
end Go.Proofs.YtahdiknkcgnieaaDoor
namespace Go

/-- As Q; by a goto to a label: what holds there. -/
def Exit.jumps (J : Nat → Act → World → Prop) (Q : Exit → Act → World → Prop) : Exit → Act → World → Prop
  | .goto l, a, w => J l a w
  | e, a, w => Q e a w

section
variable {P : Program} {a : Act} {w : World} {Q : Exit → Act → World → Prop}

theorem wp_scope_labels {c : Code} (J : Nat → Act → World → Prop) (μ : Nat → Act → World → Nat)
    (first : c.wp P (Exit.jumps J Q) a w)
    (pass : ∀ l a w, J l a w → ∃ rest, findLabel c l = some rest ∧ rest.wp P (Exit.jumps (fun l' a' w' => J l' a' w' ∧ μ l' a' w' < μ l a w) Q) a w) : (Code.scope c).wp P Q a w := by
  intro b k cs
  have key : ∀ n l a w, μ l a w = n → J l a w → ∃ rest, findLabel c l = some rest ∧ ∃ e a' w', Q e a' w' ∧ Arrives P (lone (b.at a (.code rest :: .inScope c :: k)) cs w) b k cs e a' w' := by
    intro n
    induction n using Nat.strongRecOn with
    | _ n ih =>
      intro l a w hn hJ
      obtain ⟨rest, hf, hw⟩ := pass l a w hJ
      refine ⟨rest, hf, ?_⟩
      obtain ⟨e, a₁, w₁, hq, harr⟩ := hw b (.inScope c :: k) cs
      cases e with
      | normal => exact ⟨.normal, a₁, w₁, hq, Steps.trans harr (.one step_inScope)⟩
      | exit id => exact ⟨.exit id, a₁, w₁, hq, fun k' hk => harr k' (by simp [exitTo, hk])⟩
      | goto l' =>
        obtain ⟨hJ', hlt⟩ := hq
        obtain ⟨rest', hf', e₂, a₂, w₂, hq₂, harr₂⟩ := ih _ (by omega) l' a₁ w₁ rfl hJ'
        have hg : gotoIn l' (.inScope c :: k) = some (.code rest' :: .inScope c :: k) := by simp [gotoIn, hf']
        exact ⟨e₂, a₂, w₂, hq₂, .of_steps (harr _ hg) harr₂⟩
      | ret => exact ⟨_, a₁, w₁, hq, harr⟩
      | panic ch => exact ⟨_, a₁, w₁, hq, harr⟩
      | outgrown => exact ⟨_, a₁, w₁, hq, harr⟩
  obtain ⟨e, a₁, w₁, hq, harr⟩ := first b (.inScope c :: k) cs
  cases e with
  | normal => exact ⟨.normal, a₁, w₁, hq, .head step_scope (Steps.trans harr (.one step_inScope))⟩
  | exit id => exact ⟨.exit id, a₁, w₁, hq, fun k' hk => .head step_scope (harr k' (by simp [exitTo, hk]))⟩
  | goto l' =>
    obtain ⟨rest', hf', e₂, a₂, w₂, hq₂, harr₂⟩ := key _ l' a₁ w₁ rfl hq
    have hg : gotoIn l' (.inScope c :: k) = some (.code rest' :: .inScope c :: k) := by simp [gotoIn, hf']
    exact ⟨e₂, a₂, w₂, hq₂, .of_steps (.head step_scope (harr _ hg)) harr₂⟩
  | ret => exact ⟨_, a₁, w₁, hq, .of_steps (.one step_scope) harr⟩
  | panic ch => exact ⟨_, a₁, w₁, hq, .of_steps (.one step_scope) harr⟩
  | outgrown => exact ⟨_, a₁, w₁, hq, .of_steps (.one step_scope) harr⟩
end
end Go
namespace Go.Proofs.YtahdiknkcgnieaaDoor
open Go.RowKit
set_option linter.unusedVariables false
set_option linter.unusedSimpArgs false

theorem info55 : (Tryd.prog.info? 55).map (·.size) = some 6 := by kernel_rfl
def Z6 : Array Value := #[.int .i64 0, .string ⟨#[]⟩, .slice none 0 0, .slice none 0 0, .int .i64 0, .bool false]
theorem deep_any (ao : Option Addr) (n c : Nat) (w : World) (h1 : 1 ≤ n) (hn : n ≤ 100000) : Calls Tryd.prog 29 #[.slice ao n c] w fun e w' => e = .returned (.int .i64 ((n : Int) - 1)) ∧ w = w' := by
  go_enter Tryd.func29, Tryd.ntmps29
  go_wp2
  go_ret
  exact ⟨rfl, rfl⟩
theorem inner_any (g n c : Nat) (w : World) (h1 : 1 ≤ n) (hn : n ≤ 100000) : Calls Tryd.prog 31 #[.slice (some ⟨g, 0, none⟩) n c] w fun e w' => e = .returned (.pointer (some ⟨g, (n - 1) * 6, none⟩)) ∧ w = w' := by
  obtain ⟨k, rfl⟩ : ∃ k, n = k + 1 := ⟨n - 1, by omega⟩
  have e1 : (((k + 1 : Nat) : Int) - 1) = (k : Int) := by omega
  have FD := Lib.hid (fun w => e1 ▸ deep_any (some ⟨g, 0, none⟩) (k + 1) c w h1 hn)
  obtain ⟨n, hnk⟩ : ∃ n, n = k + 1 := ⟨_, rfl⟩
  have hkn : k < n := by omega
  rw [← hnk] at FD ⊢
  have e2 : n - 1 = k := by omega
  rw [e2]
  clear e1 e2 hnk h1 hn
  go_enter Tryd.func31, Tryd.ntmps31
  go_wp2_with fail
  refine (FD.out _).mono ?_
  rintro e w' ⟨rfl, rfl⟩
  go_wp2_with fail
  go_ret
  exact ⟨rfl, rfl⟩
def qT : ByteArray := ⟨#[113, 117, 111, 116, 101]⟩
def RetOp (q : Bool) (at_ : Int) (w : World) (e : Ending) (w' : World) : Prop :=
  ∃ v, e = .returned (.agg #[.int .i64 4, .string ⟨#[]⟩, .slice none 0 0, v, .int .i64 at_, .bool q]) ∧ OwnS (fun _ => False) w.heap.size w' v (if q then [.mk 3 qT [] [] at_] else []) ∧ Below w.heap.size w w'
set_option maxHeartbeats 1000000 in
theorem opened_any (by_ : UInt8) (at_ : Int) (w : World) (q : Bool) (hq : (by_ == 39) = q) : Calls Tryd.prog 30 #[.int .u8 by_.toNat, .int .i64 at_] w (RetOp q at_ w) := by
  have b1 : ((by_.toNat : Int) == 39) = q := (byte_eq by_ 39).trans hq
  clear hq
  cases q with
  | false =>
    have HX := Lib.hid ((Lib.alloc_old (w.alloc (.cells #[.int .i64 4, .string ⟨#[]⟩, .slice none 0 0, .slice none 0 0, .int .i64 at_, .bool false] 55)) (.cells #[.int .i64 4, .string ⟨#[]⟩, .slice none 0 0, .slice none 0 0, .int .i64 at_, .bool false] 55) w.heap.size (by simp)).trans (alloc_at w (.cells #[.int .i64 4, .string ⟨#[]⟩, .slice none 0 0, .slice none 0 0, .int .i64 at_, .bool false] 55)))
    have HB := Lib.hid (((Below.refl w.heap.size w).alloc (Nat.le_refl _) (.cells #[.int .i64 4, .string ⟨#[]⟩, .slice none 0 0, .slice none 0 0, .int .i64 at_, .bool false] 55)).alloc (by simp) (.cells #[.int .i64 4, .string ⟨#[]⟩, .slice none 0 0, .slice none 0 0, .int .i64 at_, .bool false] 55))
    go_enter Tryd.func30, Tryd.ntmps30
    go_wp2_with fail
    refine bodyPost_ret (results_cell_row rfl _ _ w.heap.size 55 #[.int .i64 4, .string ⟨#[]⟩, .slice none 0 0, .slice none 0 0, .int .i64 at_, .bool false] (0, 0) _ rfl HX.out Tryd.underlying55 rfl info55) rfl ?_
    exact ⟨_, rfl, OwnS.nil _ _ _, HB.out⟩
  | true =>
    have hs2 : ((w.alloc (.cells #[.int .i64 4, .string ⟨#[]⟩, .slice none 0 0, .slice (some ⟨w.heap.size + 1 + 1, 0, none⟩) 1 1, .int .i64 at_, .bool true] 55)).alloc (.cells #[.int .i64 4, .string ⟨#[]⟩, .slice none 0 0, .slice (some ⟨w.heap.size + 1 + 1, 0, none⟩) 1 1, .int .i64 at_, .bool true] 55)).heap.size = w.heap.size + 1 + 1 := by simp
    have HX := Lib.hid ((Lib.alloc_old ((w.alloc (.cells #[.int .i64 4, .string ⟨#[]⟩, .slice none 0 0, .slice (some ⟨w.heap.size + 1 + 1, 0, none⟩) 1 1, .int .i64 at_, .bool true] 55)).alloc (.cells #[.int .i64 4, .string ⟨#[]⟩, .slice none 0 0, .slice (some ⟨w.heap.size + 1 + 1, 0, none⟩) 1 1, .int .i64 at_, .bool true] 55)) (.cells #[.int .i64 3, .string ⟨#[113, 117, 111, 116, 101]⟩, .slice none 0 0, .slice none 0 0, .int .i64 at_] 40) w.heap.size (by simp; omega)).trans ((Lib.alloc_old (w.alloc (.cells #[.int .i64 4, .string ⟨#[]⟩, .slice none 0 0, .slice (some ⟨w.heap.size + 1 + 1, 0, none⟩) 1 1, .int .i64 at_, .bool true] 55)) (.cells #[.int .i64 4, .string ⟨#[]⟩, .slice none 0 0, .slice (some ⟨w.heap.size + 1 + 1, 0, none⟩) 1 1, .int .i64 at_, .bool true] 55) w.heap.size (by simp)).trans (alloc_at w (.cells #[.int .i64 4, .string ⟨#[]⟩, .slice none 0 0, .slice (some ⟨w.heap.size + 1 + 1, 0, none⟩) 1 1, .int .i64 at_, .bool true] 55))))
    have hq2 := alloc_at ((w.alloc (.cells #[.int .i64 4, .string ⟨#[]⟩, .slice none 0 0, .slice (some ⟨w.heap.size + 1 + 1, 0, none⟩) 1 1, .int .i64 at_, .bool true] 55)).alloc (.cells #[.int .i64 4, .string ⟨#[]⟩, .slice none 0 0, .slice (some ⟨w.heap.size + 1 + 1, 0, none⟩) 1 1, .int .i64 at_, .bool true] 55)) (.cells #[.int .i64 3, .string ⟨#[113, 117, 111, 116, 101]⟩, .slice none 0 0, .slice none 0 0, .int .i64 at_] 40)
    rw [hs2] at hq2
    have HB := Lib.hid ((((Below.refl w.heap.size w).alloc (Nat.le_refl _) (.cells #[.int .i64 4, .string ⟨#[]⟩, .slice none 0 0, .slice (some ⟨w.heap.size + 1 + 1, 0, none⟩) 1 1, .int .i64 at_, .bool true] 55)).alloc (by simp) (.cells #[.int .i64 4, .string ⟨#[]⟩, .slice none 0 0, .slice (some ⟨w.heap.size + 1 + 1, 0, none⟩) 1 1, .int .i64 at_, .bool true] 55)).alloc (by simp; omega) (.cells #[.int .i64 3, .string ⟨#[113, 117, 111, 116, 101]⟩, .slice none 0 0, .slice none 0 0, .int .i64 at_] 40))
    have HO : Hid (OwnS (fun _ => False) w.heap.size (((w.alloc (.cells #[.int .i64 4, .string ⟨#[]⟩, .slice none 0 0, .slice (some ⟨w.heap.size + 1 + 1, 0, none⟩) 1 1, .int .i64 at_, .bool true] 55)).alloc (.cells #[.int .i64 4, .string ⟨#[]⟩, .slice none 0 0, .slice (some ⟨w.heap.size + 1 + 1, 0, none⟩) 1 1, .int .i64 at_, .bool true] 55)).alloc (.cells #[.int .i64 3, .string ⟨#[113, 117, 111, 116, 101]⟩, .slice none 0 0, .slice none 0 0, .int .i64 at_] 40)) (.slice (some ⟨w.heap.size + 1 + 1, 0, none⟩) 1 1) [.mk 3 qT [] [] at_]) := by
      refine ⟨[.int .i64 3, .string ⟨#[113, 117, 111, 116, 101]⟩, .slice none 0 0, .slice none 0 0, .int .i64 at_], ⟨rfl, .inr ⟨w.heap.size + 1 + 1, 1, _, rfl, by omega, hq2, Nat.le_refl _, by decide, rfl, rfl⟩⟩, fun j hj => ?_⟩
      have hj0 : j = 0 := by simpa using hj
      subst hj0
      refine ⟨#[.int .i64 3, .string ⟨#[113, 117, 111, 116, 101]⟩, .slice none 0 0, .slice none 0 0, .int .i64 at_], rfl, fun i hi => by simp, ?_⟩
      show Dt.At _ _ (.mk 3 qT [] [] at_) _
      rw [At_mk]
      exact ⟨_, _, rfl, .inl ⟨rfl, rfl⟩, .inl ⟨rfl, rfl⟩⟩
    clear hq2 hs2
    go_enter Tryd.func30, Tryd.ntmps30
    go_wp2_with fail
    refine bodyPost_ret (results_cell_row rfl _ _ w.heap.size 55 #[.int .i64 4, .string ⟨#[]⟩, .slice none 0 0, .slice (some ⟨w.heap.size + 1 + 1, 0, none⟩) 1 1, .int .i64 at_, .bool true] (0, 0) _ rfl HX.out Tryd.underlying55 rfl info55) rfl ?_
    exact ⟨_, rfl, HO.out, HB.out⟩
end Go.Proofs.YtahdiknkcgnieaaDoor
namespace Go.Proofs.YtahdiknkcgnieaaDoor
open Go.RowKit
set_option linter.unusedVariables false
set_option linter.unusedSimpArgs false

theorem results_row3 {P : Program} {fn : Func} {p u : Tmp} {ty : TypeId} (h : fn.results = #[.tmp u, .cell p ty]) (tmps : Array Value) (w : World) (g : Nat) (t : TypeId) (cs : Array Value) (fr : Nat × Nat) (d : TypeDesc) (r : Value)
    (hp : tmps.getD p undef = .pointer (some ⟨g, 0, none⟩)) (hg : w.heap[g]? = some (.cells cs t fr))
    (hu : P.underlying ty = some d) (hd : (match d with | .struct _ | .array _ _ => true | _ => false) = true) (hi : (P.info? ty).map (·.size) = some cs.size) (hr : tmps.getD u undef = r) :
    (results fn tmps).run P w = .ok (.tuple #[r, .agg cs]) w := by
  have hp' : tmps[p]?.getD undef = .pointer (some ⟨g, 0, none⟩) := by simpa using hp
  have hr' : tmps[u]?.getD undef = r := by simpa using hr
  simp [results, h, hp', hr', asAddr, run_loadVar_row w g t ty cs fr d hg hu hd hi, Sem.run_bind, Result.andThen]
theorem range5 {w w' : World} {b o : Nat} {x0 x1 x2 x3 x4 : Value} (h : ∀ a : Addr, a.block = b → a.block < w.heap.size → w'.cell? a = w.cell? a) (hb : b < w.heap.size)
    (e0 : w.cell? ⟨b, o, none⟩ = some x0) (e1 : w.cell? ⟨b, o + 1, none⟩ = some x1) (e2 : w.cell? ⟨b, o + 2, none⟩ = some x2) (e3 : w.cell? ⟨b, o + 3, none⟩ = some x3) (e4 : w.cell? ⟨b, o + 4, none⟩ = some x4) : w'.rangeAt b o [x0, x1, x2, x3, x4] := by
  intro j v hv
  rw [h ⟨b, o + j, none⟩ rfl hb]
  rcases j with _ | _ | _ | _ | _ | j
  · simp at hv; subst hv; exact e0
  · simp at hv; subst hv; exact e1
  · simp at hv; subst hv; exact e2
  · simp at hv; subst hv; exact e3
  · simp at hv; subst hv; exact e4
  · simp at hv

set_option maxHeartbeats 2000000 in
set_option maxRecDepth 100000 in
theorem finished_any (g n m c : Nat) (w : World) (hm : n = m + 1) (hn : n ≤ 100000) (hc : n ≤ c) (hcm : c ≤ maxLen) {k : Int} {t : ByteArray} {mv lv : Value} {p : Int} (e0 : w.cell? ⟨g, m * 6, none⟩ = some (.int .i64 k)) (e1 : w.cell? ⟨g, m * 6 + 1, none⟩ = some (.string t)) (e2 : w.cell? ⟨g, m * 6 + 2, none⟩ = some mv)
    (e3 : w.cell? ⟨g, m * 6 + 3, none⟩ = some lv) (e4 : w.cell? ⟨g, m * 6 + 4, none⟩ = some (.int .i64 p)) (o1 : mv.oneCell' = true) (o2 : lv.oneCell' = true) :
    Calls Tryd.prog 32 #[.slice (some ⟨g, 0, none⟩) n c] w fun e w' => e = .returned (.tuple #[.slice (some ⟨g, 0, none⟩) m c, .agg #[.int .i64 k, .string t, mv, lv, .int .i64 p]]) ∧ Below w.heap.size w w' := by
  have hgl : g < w.heap.size := World.block_lt_of_cell? w _ e0
  have z1 : (#[.int .i64 k, .string t, mv, lv, .int .i64 p] : Array Value).all (·.oneCell') = true := by simp [Value.oneCell'] at o1 o2 ⊢; exact ⟨o1, o2⟩
  have FD : Hid (∀ w, Calls Tryd.prog 29 #[.slice (some ⟨g, 0, none⟩) n c] w fun e w' => e = .returned (.int .i64 (m : Int)) ∧ w = w') := fun w => by
    have h := deep_any (some ⟨g, 0, none⟩) n c w (by omega) hn
    rw [show ((n : Int) - 1) = (m : Int) by omega] at h
    exact h
  have FI : Hid (∀ w, Calls Tryd.prog 31 #[.slice (some ⟨g, 0, none⟩) n c] w fun e w' => e = .returned (.pointer (some ⟨g, m * 6, none⟩)) ∧ w = w') := fun w => by
    have h := inner_any g n c w (by omega) hn
    rw [show n - 1 = m by omega] at h
    exact h
  have E0 := Lib.hid e0
  have E1 := Lib.hid e1
  have E2 := Lib.hid e2
  have E3 := Lib.hid e3
  have E4 := Lib.hid e4
  have hmc : m ≤ c := by omega
  have hmn : m ≤ n := by omega
  have hW := alloc_at w (.cells Z5 40)
  have hB : Below w.heap.size w (w.alloc (.cells Z5 40)) := (Below.refl _ _).alloc (Nat.le_refl _) _
  clear e0 e1 e2 e3 e4 hm
  unfold maxLen at hcm
  go_enter Tryd.func32, Tryd.ntmps32
  go_upto_region 1 with fail
  change Code.wp Tryd.prog _ _ _ (w.alloc (.cells Z5 40))
  generalize w.alloc (.cells Z5 40) = W at hW hB ⊢
  have HW := Lib.hid hW
  have HB := Lib.hid hB
  have hws := hB.size
  clear hW hB
  refine wp_region_noPanic ?_
  refine wp_region_held_drew (S := Below w.heap.size W) (by kernel_rfl) ((Below.refl _ _).drew) (fun hHeld => ?_)
  obtain ⟨WD, hWD⟩ : ∃ x, x = W.drew := ⟨_, rfl⟩
  rw [← hWD] at hHeld ⊢
  have H1 : WD.heap[w.heap.size]? = some (.cells Z5 40 (0, 0)) := by rw [hWD]; exact HW.out
  replace H1 := Lib.hid H1
  clear hWD
  refine wpAnyH_take (i := 0) (v := Value.slice (some ⟨g, 0, none⟩) n c) rfl (by kernel_rfl) (by kernel_rfl) (by kernel_rfl) (fun _ _ _ h => h) (Or.inl ⟨rfl, fun w' hw' => ?_⟩) hHeld ?_
  · go_simp
  simp only [List.getElem_toArray, List.getElem_cons_succ, List.getElem_cons_zero, Act.put, List.setIfInBounds_toArray, List.set_cons_zero, List.set_cons_succ]
  refine wpAnyH_take (i := 1) (v := Value.slice (some ⟨g, 0, none⟩) n c) rfl (by kernel_rfl) (by kernel_rfl) (by kernel_rfl) (fun _ _ _ h => h) (Or.inl ⟨rfl, fun w' hw' => ?_⟩) hHeld ?_
  · go_simp
  simp only [List.getElem_toArray, List.getElem_cons_succ, List.getElem_cons_zero, Act.put, List.setIfInBounds_toArray, List.set_cons_zero, List.set_cons_succ]
  refine wpAnyH_take (i := 4) (v := Value.slice (some ⟨g, 0, none⟩) n c) rfl (by kernel_rfl) (by kernel_rfl) (by kernel_rfl) (fun _ _ _ h => h) (Or.inl ⟨rfl, fun w' hw' => ?_⟩) hHeld ?_
  · go_simp
  simp only [List.getElem_toArray, List.getElem_cons_succ, List.getElem_cons_zero, Act.put, List.setIfInBounds_toArray, List.set_cons_zero, List.set_cons_succ]
  refine wpAnyH_ready (rs := [2]) (by kernel_rfl) (by simp) ?_
  refine (AllReadyH.cons rfl (fun K hK => ?_) AllReadyH.nil)
  go_simp
  refine (FD.out _).mono ?_
  rintro e w' ⟨rfl, rfl⟩
  refine hK.out _ _ hHeld (fun hHeld => ?_)
  clear hK K
  try simp only [List.getElem_toArray, List.getElem_cons_succ, List.getElem_cons_zero, Act.put, List.setIfInBounds_toArray, List.set_cons_zero, List.set_cons_succ]
  refine wpAnyH_take (i := 3) (v := Value.slice (some ⟨g, 0, none⟩) m c) rfl (by kernel_rfl) (by kernel_rfl) (by kernel_rfl) (fun _ _ _ h => h) (Or.inl ⟨rfl, fun w' hw' => ?_⟩) hHeld ?_
  · go_simp
  simp only [List.getElem_toArray, List.getElem_cons_succ, List.getElem_cons_zero, Act.put, List.setIfInBounds_toArray, List.set_cons_zero, List.set_cons_succ]
  refine wpAnyH_ready (rs := [5]) (by kernel_rfl) (by simp) ?_
  refine (AllReadyH.cons rfl (fun K hK => ?_) AllReadyH.nil)
  go_simp
  refine (FI.out _).mono ?_
  rintro e w' ⟨rfl, rfl⟩
  refine hK.out _ _ hHeld (fun hHeld => ?_)
  clear hK K
  try simp only [List.getElem_toArray, List.getElem_cons_succ, List.getElem_cons_zero, Act.put, List.setIfInBounds_toArray, List.set_cons_zero, List.set_cons_succ]
  refine wpAnyH_take (i := 6) (v := Value.pointer (some ⟨g, m * 6, none⟩)) rfl (by kernel_rfl) (by kernel_rfl) (by kernel_rfl) (fun _ _ _ h => h) (Or.inl ⟨rfl, fun w' hw' => ?_⟩) hHeld ?_
  · go_simp
  simp only [List.getElem_toArray, List.getElem_cons_succ, List.getElem_cons_zero, Act.put, List.setIfInBounds_toArray, List.set_cons_zero, List.set_cons_succ]
  refine wpAnyH_take (i := 7) (v := Value.pointer (some ⟨g, m * 6, none⟩)) rfl (by kernel_rfl) (by kernel_rfl) (by kernel_rfl) (fun _ _ _ h => h) (Or.inl ⟨rfl, fun w' hw' => ?_⟩) hHeld ?_
  · go_simp
  simp only [List.getElem_toArray, List.getElem_cons_succ, List.getElem_cons_zero, Act.put, List.setIfInBounds_toArray, List.set_cons_zero, List.set_cons_succ]
  refine wpAnyH_take (i := 8) rfl (by kernel_rfl) (by kernel_rfl) (by kernel_rfl) (fun _ _ _ h => h) (yieldsIf_load_mid (by rfl) _ _ rfl g (m * 6) rfl [.int .i64 k, .string t, mv, lv, .int .i64 p] _ (fun w' hw' => range5 (fun a ha hb => (hw'.cell (by omega)).trans (HB.out.cell (by omega))) hgl E0.out E1.out E2.out E3.out E4.out) Tryd.underlying40 rfl info40) hHeld ?_
  simp only [List.getElem_toArray, List.getElem_cons_succ, List.getElem_cons_zero, Act.put, List.setIfInBounds_toArray, List.set_cons_zero, List.set_cons_succ]
  refine wpAnyH_take (i := 9) (v := Value.slice (some ⟨g, 0, none⟩) m c) rfl (by kernel_rfl) (by kernel_rfl) (by kernel_rfl) (fun _ _ _ h => h) (Or.inl ⟨rfl, fun w' hw' => ?_⟩) hHeld ?_
  · go_simp
  simp only [List.getElem_toArray, List.getElem_cons_succ, List.getElem_cons_zero, Act.put, List.setIfInBounds_toArray, List.set_cons_zero, List.set_cons_succ]
  refine wpAnyH_ready (rs := [10]) (by kernel_rfl) (by simp) ?_
  refine (AllReadyH.cons rfl (fun K hK => ?_) AllReadyH.nil)
  rw [if_pos (by rfl)]
  refine wp_store_row 40 _ _ rfl w.heap.size #[.int .i64 k, .string t, mv, lv, .int .i64 p] rfl rfl 40 Z5 H1.out info40 rfl z1 ?_
  have HX := Lib.hid (setRow_heap WD w.heap.size _ #[.int .i64 k, .string t, mv, lv, .int .i64 p] 40 _ H1.out)
  have HS := Lib.hid (below_setRowB hHeld w.heap.size #[.int .i64 k, .string t, mv, lv, .int .i64 p] (Nat.le_refl _))
  refine hK.out _ _ HS.out (fun hHeld2 => ?_)
  clear hK K hHeld2
  try simp only [List.getElem_toArray, List.getElem_cons_succ, List.getElem_cons_zero, Act.put, List.setIfInBounds_toArray, List.set_cons_zero, List.set_cons_succ]
  refine wpAnyH_done (by kernel_rfl) ?_ _
  refine NoPanic.normal ?_
  go_wp2_with fail
  refine bodyPost_ret (results_row3 rfl _ _ w.heap.size 40 #[.int .i64 k, .string t, mv, lv, .int .i64 p] (0, 0) _ (.slice (some ⟨g, 0, none⟩) m c) rfl HX.out Tryd.underlying40 rfl info40 rfl) rfl ?_
  exact ⟨rfl, HB.out.trans HS.out⟩
end Go.Proofs.YtahdiknkcgnieaaDoor
namespace Go.Proofs.YtahdiknkcgnieaaDoor
open Go.RowKit
set_option linter.unusedVariables false
set_option linter.unusedSimpArgs false
/-- A row with five cells written over. -/
def put5 (arr : Array Value) (o : Nat) (a b c d e : Value) : Array Value := ((((arr.setIfInBounds o a).setIfInBounds (o + 1) b).setIfInBounds (o + 1 + 1) c).setIfInBounds (o + 1 + 1 + 1) d).setIfInBounds (o + 1 + 1 + 1 + 1) e
theorem setCells5 (w : World) (g o : Nat) (arr : Array Value) (T : TypeId) (a b c d e : Value) (hg : w.heap[g]? = some (.cells arr T (0, 0))) :
    (w.setCells g o [a, b, c, d, e]).heap[g]? = some (.cells (put5 arr o a b c d e) T (0, 0)) := by
  simp only [World.setCells]
  exact heap_setCell_same _ g _ _ T e (heap_setCell_same _ g _ _ T d (heap_setCell_same _ g _ _ T c (heap_setCell_same _ g _ _ T b (heap_setCell_same _ g _ _ T a hg))))
theorem setCells5_other (w : World) (g o k : Nat) (a b c d e : Value) (hk : k ≠ g) : (w.setCells g o [a, b, c, d, e]).heap[k]? = w.heap[k]? := by
  simp only [World.setCells]
  rw [heap_setCell_other _ _ _ _ hk, heap_setCell_other _ _ _ _ hk, heap_setCell_other _ _ _ _ hk, heap_setCell_other _ _ _ _ hk, heap_setCell_other _ _ _ _ hk]
theorem below_setCells5 {B : Nat} {v w : World} (h : Below B v w) (g o : Nat) (a b c d e : Value) (hg : B ≤ g) : Below B v (w.setCells g o [a, b, c, d, e]) := by
  simp only [World.setCells]
  exact ((((h.setCell (p := ⟨g, o, none⟩) hg a).setCell (p := ⟨g, o + 1, none⟩) hg b).setCell (p := ⟨g, o + 1 + 1, none⟩) hg c).setCell (p := ⟨g, o + 1 + 1 + 1, none⟩) hg d).setCell (p := ⟨g, o + 1 + 1 + 1 + 1, none⟩) hg e
theorem put5_size (arr : Array Value) (o : Nat) (a b c d e : Value) : (put5 arr o a b c d e).size = arr.size := by simp [put5]
theorem put5_other (arr : Array Value) (o k : Nat) (a b c d e : Value) (h : k < o ∨ o + 5 ≤ k) : (put5 arr o a b c d e)[k]? = arr[k]? := by
  unfold put5
  rw [Array.getElem?_setIfInBounds_ne (by omega), Array.getElem?_setIfInBounds_ne (by omega), Array.getElem?_setIfInBounds_ne (by omega), Array.getElem?_setIfInBounds_ne (by omega), Array.getElem?_setIfInBounds_ne (by omega)]
theorem put5_at (arr : Array Value) (o : Nat) (a b c d e : Value) (h : o + 5 ≤ arr.size) : ∀ i, i < 5 → (put5 arr o a b c d e)[o + i]? = (#[a, b, c, d, e] : Array Value)[i]? := by
  intro i hi
  have h5 : i = 0 ∨ i = 1 ∨ i = 2 ∨ i = 3 ∨ i = 4 := by omega
  unfold put5
  rcases h5 with rfl | rfl | rfl | rfl | rfl
  · show _[o]? = _
    rw [Array.getElem?_setIfInBounds_ne (by omega), Array.getElem?_setIfInBounds_ne (by omega), Array.getElem?_setIfInBounds_ne (by omega), Array.getElem?_setIfInBounds_ne (by omega), Array.getElem?_setIfInBounds_self_of_lt (by first | omega | (simp; omega))]; rfl
  · show _[o + 1]? = _
    rw [Array.getElem?_setIfInBounds_ne (by omega), Array.getElem?_setIfInBounds_ne (by omega), Array.getElem?_setIfInBounds_ne (by omega), Array.getElem?_setIfInBounds_self_of_lt (by first | omega | (simp; omega))]; rfl
  · show _[o + 1 + 1]? = _
    rw [Array.getElem?_setIfInBounds_ne (by omega), Array.getElem?_setIfInBounds_ne (by omega), Array.getElem?_setIfInBounds_self_of_lt (by first | omega | (simp; omega))]; rfl
  · show _[o + 1 + 1 + 1]? = _
    rw [Array.getElem?_setIfInBounds_ne (by omega), Array.getElem?_setIfInBounds_self_of_lt (by first | omega | (simp; omega))]; rfl
  · show _[o + 1 + 1 + 1 + 1]? = _
    rw [Array.getElem?_setIfInBounds_self_of_lt (by first | omega | (simp; omega))]; rfl


theorem put5_take {cur : Array Value} {n : Nat} {xs zs : List Value} (hx : xs.length = n * 5) (hz : zs.length = 5) (ht : cur.toList.take ((n + 1) * 5) = xs ++ zs) (hs : (n + 1) * 5 ≤ cur.size) (a b c d e : Value) :
    (put5 cur (n * 5) a b c d e).toList.take ((n + 1) * 5) = xs ++ [a, b, c, d, e] := by
  apply List.ext_getElem?
  intro i
  by_cases hi : i < (n + 1) * 5
  · rw [List.getElem?_take, if_pos hi]
    have h0 : cur.toList[i]? = (xs ++ zs)[i]? := by rw [← ht, List.getElem?_take, if_pos hi]
    by_cases hlt : i < n * 5
    · have h1 := put5_other cur (n * 5) i a b c d e (.inl hlt)
      rw [Array.getElem?_toList, h1, ← Array.getElem?_toList, h0, List.getElem?_append_left (by omega), List.getElem?_append_left (by omega)]
    · obtain ⟨j, rfl⟩ : ∃ j, i = n * 5 + j := ⟨i - n * 5, by omega⟩
      have h1 := put5_at cur (n * 5) a b c d e (by omega) j (by omega)
      rw [Array.getElem?_toList, h1, List.getElem?_append_right (by omega), show n * 5 + j - xs.length = j by omega]
      simp
  · rw [List.getElem?_eq_none (by rw [List.length_take]; omega), List.getElem?_eq_none (by simp; omega)]
theorem OwnS.own {S : Nat → Prop} {B : Nat} {w : World} {v : Value} {ds : List Dt} (h : OwnS S B w v ds) (hS : ∀ x, S x → B ≤ x ∧ v.ownBlock ≠ some x) : OwnD B w v ds := by
  obtain ⟨xs, hown, hd⟩ := h
  refine ⟨xs, hown, fun j hj => ?_⟩
  obtain ⟨cs, h5, h1, h2⟩ := hd j hj
  exact ⟨cs, h5, h1, Dt.At.mono (fun g hg => hS g hg) _ _ h2⟩
theorem OwnS.mono {S T : Nat → Prop} {B : Nat} {w : World} {v : Value} {ds : List Dt} (h : OwnS S B w v ds) (hS : ∀ x, S x → T x) : OwnS T B w v ds := by
  obtain ⟨xs, hown, hd⟩ := h
  refine ⟨xs, hown, fun j hj => ?_⟩
  obtain ⟨cs, h5, h1, h2⟩ := hd j hj
  exact ⟨cs, h5, h1, Dt.At.mono hS _ _ h2⟩
theorem OwnS.lt {S : Nat → Prop} {B : Nat} {w : World} {v : Value} {ds : List Dt} (h : OwnS S B w v ds) {k : Nat} (hk : v.ownBlock = some k) : B ≤ k ∧ k < w.heap.size := by
  obtain ⟨xs, hown, _⟩ := h
  exact hown.lt k hk
theorem OwnS.keep {S : Nat → Prop} {B : Nat} {w w' : World} {v : Value} {ds : List Dt} (h : OwnS S B w v ds) (ho : ∀ x c, v.ownBlock = some x → w.heap[x]? = some (.cells c 40 (0, 0)) → w'.heap[x]? = some (.cells c 40 (0, 0))) (hk : Keeps S w w') : OwnS S B w' v ds := by
  obtain ⟨xs, hown, hd⟩ := h
  refine ⟨xs, ⟨hown.1, ?_⟩, fun j hj => ?_⟩
  · rcases hown.2 with h | ⟨g, cap, cur, rfl, hb, hg, r⟩
    · exact .inl h
    · exact .inr ⟨g, cap, cur, rfl, hb, ho g cur rfl hg, r⟩
  · obtain ⟨cs, h5, h1, h2⟩ := hd j hj
    exact ⟨cs, h5, h1, Dt.At.keeps hk _ _ h2⟩
theorem OwnS.below {S : Nat → Prop} {B : Nat} {w w' : World} {v : Value} {ds : List Dt} (h : OwnS S B w v ds) (hb : Below w.heap.size w w') : OwnS S B w' v ds :=
  h.keep (fun x c _ hx => by rw [hb.block x (Array.getElem?_eq_some_iff.1 hx).1]; exact hx) (Keeps.of_below hb)
/-- What put leaves. -/
def PutDone (S : Nat → Prop) (B g o : Nat) (arr : Array Value) (v : Value) (ds : List Dt) (w w' : World) : Prop :=
  ∃ v', w'.heap[g]? = some (.cells (arr.setIfInBounds o v') 55 (0, 0)) ∧ OwnS S B w' v' ds ∧ (v'.ownBlock = v.ownBlock ∨ ∃ b, v'.ownBlock = some b ∧ w.heap.size ≤ b) ∧
    w'.os = w.os ∧ w'.tape = w.tape ∧ w'.output = w.output ∧ w.heap.size ≤ w'.heap.size ∧ ∀ x, x < w.heap.size → x ≠ g → v.ownBlock ≠ some x → w'.heap[x]? = w.heap[x]?
theorem put_done {S : Nat → Prop} {B g o n : Nat} {arr : Array Value} {v : Value} {ds : List Dt} {d : Dt} {w W1 w9 W : World} {k : Int} {t : ByteArray} {mv lv : Value} {p : Int} (hB : B ≤ w.heap.size)
    (hg : w.heap[g]? = some (.cells arr 55 (0, 0))) (hS : ∀ x, S x → B ≤ x ∧ v.ownBlock ≠ some x) (hown : OwnS S B w v ds) (hn : ds.length = n) (hd : Dt.At S w d #[.int .i64 k, .string t, mv, lv, .int .i64 p]) (hb1 : Below w.heap.size w W1) (hs1 : w.heap.size + 1 ≤ W1.heap.size)
    {xs : List Value} (hxs : W1.ownsRow B 40 5 v n xs) {g' c' : Nat} (h9 : w9.ownsRow B 40 5 (.slice (some ⟨g', 0, none⟩) (n + 1) c') (n + 1) (xs ++ [.int .i64 0, .string ⟨#[]⟩, .slice none 0 0, .slice none 0 0, .int .i64 0])) (hg9 : W1.grownBy w9 v.ownBlock)
    (hv9 : (Value.slice (some ⟨g', 0, none⟩) (n + 1) c').ownBlock = v.ownBlock ∨ (Value.slice (some ⟨g', 0, none⟩) (n + 1) c').ownBlock = some W1.heap.size)
    {cur : Array Value} (hcur : w9.heap[g']? = some (.cells cur 40 (0, 0))) (i1 : W.heap[g']? = some (.cells (put5 cur (n * 5) (.int .i64 k) (.string t) mv lv (.int .i64 p)) 40 (0, 0)))
    (i2 : W.heap[g]? = some (.cells (arr.setIfInBounds o (.slice (some ⟨g', 0, none⟩) (n + 1) c')) 55 (0, 0))) (i3 : ∀ x, x ≠ g → x ≠ g' → W.heap[x]? = w9.heap[x]?) (i4 : W.os = w9.os ∧ W.tape = w9.tape ∧ W.output = w9.output ∧ W.heap.size = w9.heap.size) :
    PutDone S B g o arr v (ds ++ [d]) w W := by
  have hgl : g < w.heap.size := (Array.getElem?_eq_some_iff.1 hg).1
  have hv' : (Value.slice (some ⟨g', 0, none⟩) (n + 1) c').ownBlock = some g' := rfl
  rw [hv'] at hv9
  have hs9 := hg9.size
  have hlt : ∀ x, v.ownBlock = some x → B ≤ x ∧ x < w.heap.size := fun x hx => hown.lt hx
  -- blocks of data that were there stand
  have keep : ∀ x c T fz, x < w.heap.size → v.ownBlock ≠ some x → (T = 40 ∨ T = 3) → w.heap[x]? = some (.cells c T fz) → W.heap[x]? = some (.cells c T fz) := by
    intro x c T fz hx hxo hT hh
    have hxg : x ≠ g := by
      rintro rfl
      rw [hg] at hh
      injection hh with hh
      injection hh with _ e _
      rcases hT with rfl | rfl <;> exact absurd e (by decide)
    have hxg' : x ≠ g' := by
      rintro rfl
      rcases hv9 with e | e
      · exact hxo e.symm
      · injection e with e; omega
    rw [i3 x hxg hxg', hg9.block x (by omega) (fun e => hxo e.symm), hb1.block x hx]; exact hh
  refine ⟨.slice (some ⟨g', 0, none⟩) (n + 1) c', i2, ?_, ?_, by rw [i4.1, hg9.os, hb1.os], by rw [i4.2.1, hg9.tape, hb1.tape], by rw [i4.2.2.1, hg9.output, hb1.output], by rw [i4.2.2.2]; have := hb1.size; omega, fun x hx hxg hxo => ?_⟩
  · obtain ⟨ys, hys, hdy⟩ := hown
    rw [hn] at hys
    -- the row's cells
    have exy : xs = ys := by
      rcases hxs.2 with ⟨e, hz⟩ | ⟨g1, cap, cu, e, _, hgg, _, _, _, ht⟩
      · have h1 := hxs.1; have h2 := hys.1; rw [hz] at h1 h2; simp at h1 h2; rw [h1, h2]
      · rcases hys.2 with ⟨e2, hz⟩ | ⟨g2, cap', cu', e2, _, hgg', _, _, _, ht'⟩
        · rw [e2] at e; cases e
        · rw [e2] at e
          injection e with e1 _ _
          injection e1 with e1
          injection e1 with e1 _ _
          subst e1
          rw [hb1.block _ (Array.getElem?_eq_some_iff.1 hgg').1, hgg'] at hgg
          injection hgg with hgg
          injection hgg with hgg _ _
          rw [← ht, ← ht', hgg]
    have hlx : xs.length = n * 5 := hxs.1
    have hrow : W.ownsRow B 40 5 (.slice (some ⟨g', 0, none⟩) (n + 1) c') (n + 1) (xs ++ [.int .i64 k, .string t, mv, lv, .int .i64 p]) := by
      refine ⟨by simp [hlx]; omega, ?_⟩
      rcases h9.2 with ⟨e, _⟩ | ⟨g2, cap, cu, e, hbg, hgg, hnc, hcm, hcs, ht⟩
      · cases e
      · injection e with e1 _ e3
        injection e1 with e1
        injection e1 with e1 _ _
        subst e1 e3
        rw [hcur] at hgg
        injection hgg with hgg
        injection hgg with hgg _ _
        subst hgg
        exact .inr ⟨g', c', _, rfl, hbg, i1, hnc, hcm, by rw [put5_size]; exact hcs, put5_take hlx rfl ht (by omega) _ _ _ _ _⟩
    have up : ∀ (d : Dt) (cs : Array Value), Dt.At S w d cs → Dt.At S W d cs := by
      intro d cs h
      have h1 := Dt.At.bound _ _ h
      have h2 := Dt.At.keeps (w' := W) (fun x c T fz hx hh hT => ⟨fz, keep x c T fz hx.2 (hS x hx.1).2 hT hh⟩) _ _ h1
      exact Dt.At.mono (fun x hx => hx.1) _ _ h2
    refine ⟨xs ++ [.int .i64 k, .string t, mv, lv, .int .i64 p], by simpa [hn] using hrow, fun j hj => ?_⟩
    by_cases hjl : j < ds.length
    · obtain ⟨c, c5, c1, c2⟩ := hdy j hjl
      refine ⟨c, c5, fun i hi => by rw [List.getElem?_append_left (by omega), exy]; exact c1 i hi, ?_⟩
      rw [List.getElem_append_left hjl]; exact up _ _ c2
    · have hj' : j = ds.length := by simp at hj; omega
      subst hj'
      refine ⟨#[.int .i64 k, .string t, mv, lv, .int .i64 p], rfl, fun i hi => by rw [List.getElem?_append_right (by omega), show 5 * ds.length + i - xs.length = i by omega]; simp, ?_⟩
      rw [List.getElem_append_right (by omega)]
      simp
      exact up _ _ hd
  · rcases hv9 with e | e
    · exact .inl (hv'.trans e)
    · injection e with e; exact .inr ⟨g', hv', by omega⟩
  · rw [i3 x hxg ?_, hg9.block x (by omega) (fun e => hxo e.symm), hb1.block x hx]
    rintro rfl
    rcases hv9 with e | e
    · exact hxo e.symm
    · injection e with e; omega
end Go.Proofs.YtahdiknkcgnieaaDoor
namespace Go.Proofs.YtahdiknkcgnieaaDoor
open Go.RowKit
set_option linter.unusedVariables false
set_option linter.unusedSimpArgs false
theorem nblk5 (w : World) (a : Addr) (v : Value) : (w.setCell a v).heap.size = w.heap.size := by simp [World.setCell]
/-- The box of the part that is put stands. -/
def Boxed (b : Nat) (C : Array Value) (w : World) : Prop := w.heap[b]? = some (.cells C 40 (0, 0))
theorem there_of_row {w : World} {g o n : Nat} {arr : Array Value} {T : TypeId} (h : w.heap[g]? = some (.cells arr T (0, 0))) (hs : o + n ≤ arr.size) : w.there g o n := fun j hj => by
  refine ⟨?_, frozen_of_row w g (o + j) arr T h⟩
  rw [Lib.cell_of_heap h]
  have : o + j < arr.size := by omega
  simp [this]
theorem put_step {S : Nat → Prop} {B g m n : Nat} {arr : Array Value} {v : Value} {ds : List Dt} {d : Dt} {w WD : World} {k : Int} {t : ByteArray} {mv lv : Value} {p : Int} (hB : B ≤ w.heap.size)
    (hg : w.heap[g]? = some (.cells arr 55 (0, 0))) (hv : arr[m * 6 + 3]? = some v) (hS : ∀ x, S x → B ≤ x ∧ v.ownBlock ≠ some x) (hown : OwnS S B w v ds) (hn : ds.length = n) (hgB : v.ownBlock ≠ some g) (hd : Dt.At S w d #[.int .i64 k, .string t, mv, lv, .int .i64 p])
    (hb : Below w.heap.size w WD) (hs : WD.heap.size = w.heap.size + 1) (hx : Boxed w.heap.size #[.int .i64 k, .string t, mv, lv, .int .i64 p] WD) :
    ∃ xs, WD.cell? ⟨g, m * 6 + 3, none⟩ = some v ∧ (WD.alloc (.cells #[.int .i64 0, .string ⟨#[]⟩, .slice none 0 0, .slice none 0 0, .int .i64 0] 40)).cell? ⟨g, m * 6 + 3, none⟩ = some v ∧ Boxed w.heap.size #[.int .i64 k, .string t, mv, lv, .int .i64 p] (WD.alloc (.cells #[.int .i64 0, .string ⟨#[]⟩, .slice none 0 0, .slice none 0 0, .int .i64 0] 40)) ∧
      (WD.alloc (.cells #[.int .i64 0, .string ⟨#[]⟩, .slice none 0 0, .slice none 0 0, .int .i64 0] 40)).ownsRow B 40 5 v n xs ∧ B ≤ (WD.alloc (.cells #[.int .i64 0, .string ⟨#[]⟩, .slice none 0 0, .slice none 0 0, .int .i64 0] 40)).heap.size ∧
      ∀ v' w9, w9.ownsRow B 40 5 v' (n + 1) (xs ++ [.int .i64 0, .string ⟨#[]⟩, .slice none 0 0, .slice none 0 0, .int .i64 0]) → (WD.alloc (.cells #[.int .i64 0, .string ⟨#[]⟩, .slice none 0 0, .slice none 0 0, .int .i64 0] 40)).grownBy w9 v.ownBlock → (v'.ownBlock = v.ownBlock ∨ v'.ownBlock = some (WD.alloc (.cells #[.int .i64 0, .string ⟨#[]⟩, .slice none 0 0, .slice none 0 0, .int .i64 0] 40)).heap.size) →
      ∃ g' c', v' = .slice (some ⟨g', 0, none⟩) (n + 1) c' ∧ n + 1 ≤ c' ∧ Boxed w.heap.size #[.int .i64 k, .string t, mv, lv, .int .i64 p] w9 ∧
        (w9.there g' (n * 5) 5 ∧ Boxed w.heap.size #[.int .i64 k, .string t, mv, lv, .int .i64 p] (w9.setCells g' (n * 5) [.int .i64 k, .string t, mv, lv, .int .i64 p]) ∧
          (w9.setCells g' (n * 5) [.int .i64 k, .string t, mv, lv, .int .i64 p]).cell? ⟨g, m * 6 + 3, none⟩ = some v ∧ (w9.setCells g' (n * 5) [.int .i64 k, .string t, mv, lv, .int .i64 p]).frozen? ⟨g, m * 6 + 3, none⟩ = false ∧
          Boxed w.heap.size #[.int .i64 k, .string t, mv, lv, .int .i64 p] ((w9.setCells g' (n * 5) [.int .i64 k, .string t, mv, lv, .int .i64 p]).setCell ⟨g, m * 6 + 3, none⟩ v') ∧
          PutDone S B g (m * 6 + 3) arr v (ds ++ [d]) w ((w9.setCells g' (n * 5) [.int .i64 k, .string t, mv, lv, .int .i64 p]).setCell ⟨g, m * 6 + 3, none⟩ v')) ∧
        (w9.cell? ⟨g, m * 6 + 3, none⟩ = some v ∧ w9.frozen? ⟨g, m * 6 + 3, none⟩ = false ∧ Boxed w.heap.size #[.int .i64 k, .string t, mv, lv, .int .i64 p] (w9.setCell ⟨g, m * 6 + 3, none⟩ v') ∧
          (w9.setCell ⟨g, m * 6 + 3, none⟩ v').there g' (n * 5) 5 ∧ Boxed w.heap.size #[.int .i64 k, .string t, mv, lv, .int .i64 p] ((w9.setCell ⟨g, m * 6 + 3, none⟩ v').setCells g' (n * 5) [.int .i64 k, .string t, mv, lv, .int .i64 p]) ∧
          PutDone S B g (m * 6 + 3) arr v (ds ++ [d]) w ((w9.setCell ⟨g, m * 6 + 3, none⟩ v').setCells g' (n * 5) [.int .i64 k, .string t, mv, lv, .int .i64 p])) := by
  have hgl : g < w.heap.size := (Array.getElem?_eq_some_iff.1 hg).1
  have hba : Below w.heap.size w (WD.alloc (.cells #[.int .i64 0, .string ⟨#[]⟩, .slice none 0 0, .slice none 0 0, .int .i64 0] 40)) := hb.alloc (by omega) _
  have hz : (WD.alloc (.cells #[.int .i64 0, .string ⟨#[]⟩, .slice none 0 0, .slice none 0 0, .int .i64 0] 40)).heap.size = w.heap.size + 1 + 1 := by simp [hs]
  have gD : WD.heap[g]? = some (.cells arr 55 (0, 0)) := by rw [hb.block _ hgl]; exact hg
  have gA : (WD.alloc (.cells #[.int .i64 0, .string ⟨#[]⟩, .slice none 0 0, .slice none 0 0, .int .i64 0] 40)).heap[g]? = some (.cells arr 55 (0, 0)) := by rw [hba.block _ hgl]; exact hg
  have xA : Boxed w.heap.size #[.int .i64 k, .string t, mv, lv, .int .i64 p] (WD.alloc (.cells #[.int .i64 0, .string ⟨#[]⟩, .slice none 0 0, .slice none 0 0, .int .i64 0] 40)) := (Lib.alloc_old WD (.cells #[.int .i64 0, .string ⟨#[]⟩, .slice none 0 0, .slice none 0 0, .int .i64 0] 40) w.heap.size (by omega)).trans hx
  obtain ⟨xs, hown8, hx8⟩ := OwnS.below hown hba
  rw [hn] at hown8
  have hvl : ∀ x, v.ownBlock = some x → B ≤ x ∧ x < w.heap.size := fun x hx => hown.lt hx
  refine ⟨xs, by rw [Lib.cell_of_heap gD]; exact hv, by rw [Lib.cell_of_heap gA]; exact hv, xA, hown8, by rw [hz]; omega, fun v' w9 h9 hg9 hv9 => ?_⟩
  have h9' := h9
  rcases h9.2 with ⟨e, hz0⟩ | ⟨g', c', cur, rfl, hbg, hgg, hnc, hcm, hcs, ht⟩
  · exact absurd hz0 (by omega)
  have e' : (Value.slice (some ⟨g', 0, none⟩) (n + 1) c').ownBlock = some g' := rfl
  have hg'g : g' ≠ g := by
    rintro rfl
    rw [e'] at hv9
    rcases hv9 with e | e
    · exact hgB e.symm
    · injection e with e; omega
  have hg'b : g' ≠ w.heap.size := by
    rintro rfl
    rw [e'] at hv9
    rcases hv9 with e | e
    · have := (hvl _ e.symm).2; omega
    · injection e with e; omega
  have g9 : w9.heap[g]? = some (.cells arr 55 (0, 0)) := by rw [hg9.block g (by omega) (fun e => hgB e.symm)]; exact gA
  have x9 : Boxed w.heap.size #[.int .i64 k, .string t, mv, lv, .int .i64 p] w9 := (hg9.block w.heap.size (by omega) (fun e => by have := (hvl _ e.symm).2; omega)).trans xA
  have hsz : n * 5 + 5 ≤ cur.size := by rw [hcs]; omega
  have th9 : w9.there g' (n * 5) 5 := there_of_row hgg hsz
  have gS : (w9.setCells g' (n * 5) [.int .i64 k, .string t, mv, lv, .int .i64 p]).heap[g]? = some (.cells arr 55 (0, 0)) := (setCells5_other w9 g' (n * 5) g _ _ _ _ _ hg'g.symm).trans g9
  have xS : Boxed w.heap.size #[.int .i64 k, .string t, mv, lv, .int .i64 p] (w9.setCells g' (n * 5) [.int .i64 k, .string t, mv, lv, .int .i64 p]) := (setCells5_other w9 g' (n * 5) _ _ _ _ _ _ hg'b.symm).trans x9
  have oT : ∀ (W : World) (x : Nat), x ≠ g → (W.setCell ⟨g, m * 6 + 3, none⟩ (.slice (some ⟨g', 0, none⟩) (n + 1) c')).heap[x]? = W.heap[x]? := fun W x hx => heap_setCell_other W ⟨g, m * 6 + 3, none⟩ x _ hx
  have gT : (w9.setCell ⟨g, m * 6 + 3, none⟩ (.slice (some ⟨g', 0, none⟩) (n + 1) c')).heap[g']? = some (.cells cur 40 (0, 0)) := (oT w9 g' hg'g).trans hgg
  have done := fun W => put_done (W := W) hB hg hS hown hn hd hba (by omega) hown8 h9' hg9 hv9 hgg (o := m * 6 + 3)
  refine ⟨g', c', rfl, hnc, x9, ⟨th9, xS, by rw [Lib.cell_of_heap gS]; exact hv, frozen_of_row _ _ _ _ _ gS, (oT _ _ (by omega)).trans xS, ?_⟩, ⟨by rw [Lib.cell_of_heap g9]; exact hv, frozen_of_row _ _ _ _ _ g9, (oT _ _ (by omega)).trans x9, there_of_row gT hsz, (setCells5_other _ g' (n * 5) _ _ _ _ _ _ hg'b.symm).trans ((oT _ _ (by omega)).trans x9), ?_⟩⟩
  · refine done _ ((oT _ _ hg'g).trans (setCells5 w9 g' (n * 5) cur 40 _ _ _ _ _ hgg)) (heap_setCell_same _ g (m * 6 + 3) _ 55 _ gS) (fun x h1 h2 => (oT _ _ h1).trans (setCells5_other w9 g' (n * 5) x _ _ _ _ _ h2)) ?_
    have hq := (below_setCells5 (Below.refl 0 w9) g' (n * 5) (.int .i64 k) (.string t) mv lv (.int .i64 p) (Nat.zero_le _)).setCell (p := ⟨g, m * 6 + 3, none⟩) (Nat.zero_le _) (.slice (some ⟨g', 0, none⟩) (n + 1) c')
    exact ⟨hq.os, hq.tape, hq.output, by simp only [World.setCells, nblk5]⟩
  · refine done _ (setCells5 _ g' (n * 5) cur 40 _ _ _ _ _ gT) ((setCells5_other _ g' (n * 5) g _ _ _ _ _ hg'g.symm).trans (heap_setCell_same _ g (m * 6 + 3) _ 55 _ g9)) (fun x h1 h2 => (setCells5_other _ g' (n * 5) x _ _ _ _ _ h2).trans (oT _ _ h1)) ?_
    have hq := below_setCells5 ((Below.refl 0 w9).setCell (p := ⟨g, m * 6 + 3, none⟩) (Nat.zero_le _) (.slice (some ⟨g', 0, none⟩) (n + 1) c')) g' (n * 5) (.int .i64 k) (.string t) mv lv (.int .i64 p) (Nat.zero_le _)
    exact ⟨hq.os, hq.tape, hq.output, by simp only [World.setCells, nblk5]⟩
end Go.Proofs.YtahdiknkcgnieaaDoor
namespace Go.Proofs.YtahdiknkcgnieaaDoor
open Go.RowKit
set_option linter.unusedVariables false
set_option linter.unusedSimpArgs false
theorem box_range {b : Nat} {k : Int} {t : ByteArray} {mv lv : Value} {p : Int} {w : World} (h : Boxed b #[.int .i64 k, .string t, mv, lv, .int .i64 p] w) : w.rangeAt b 0 [.int .i64 k, .string t, mv, lv, .int .i64 p] := by
  intro j v hv
  rw [Lib.cell_of_heap h]
  simpa using hv
set_option maxHeartbeats 4000000 in
set_option maxRecDepth 100000 in
theorem put_any {S : Nat → Prop} {B g m c n N : Nat} {arr : Array Value} {v : Value} {ds : List Dt} {d : Dt} {w : World} {k : Int} {t : ByteArray} {mv lv : Value} {p : Int} (hN : N = m + 1) (hNb : N ≤ 100000) (hB : B ≤ w.heap.size)
    (hg : w.heap[g]? = some (.cells arr 55 (0, 0))) (hv : arr[m * 6 + 3]? = some v) (hS : ∀ x, S x → B ≤ x ∧ v.ownBlock ≠ some x) (hown : OwnS S B w v ds) (hn : ds.length = n) (hnb : n ≤ 100000) (hgB : v.ownBlock ≠ some g) (hd : Dt.At S w d #[.int .i64 k, .string t, mv, lv, .int .i64 p]) :
    Calls Tryd.prog 34 #[.slice (some ⟨g, 0, none⟩) N c, .agg #[.int .i64 k, .string t, mv, lv, .int .i64 p]] w fun e w' => e = .returned (.tuple #[]) ∧ PutDone S B g (m * 6 + 3) arr v (ds ++ [d]) w w' := by
  have hgl : g < w.heap.size := (Array.getElem?_eq_some_iff.1 hg).1
  obtain ⟨o1, o2⟩ := At_one hd
  have z1 : (#[.int .i64 k, .string t, mv, lv, .int .i64 p] : Array Value).all (·.oneCell') = true := by simp [Value.oneCell'] at o1 o2 ⊢; exact ⟨o1, o2⟩
  have FI : Hid (∀ w, Calls Tryd.prog 31 #[.slice (some ⟨g, 0, none⟩) N c] w fun e w' => e = .returned (.pointer (some ⟨g, m * 6, none⟩)) ∧ w = w') := fun w => by
    have h := inner_any g N c w (by omega) hNb
    rw [show N - 1 = m by omega] at h
    exact h
  have hW := alloc_at w (.cells #[.int .i64 k, .string t, mv, lv, .int .i64 p] 40)
  have hW2 := Lib.hid ((Below.refl w.heap.size w).alloc (Nat.le_refl _) (.cells #[.int .i64 k, .string t, mv, lv, .int .i64 p] 40))
  have hWs : Hid ((w.alloc (.cells #[.int .i64 k, .string t, mv, lv, .int .i64 p] 40)).heap.size = w.heap.size + 1) := by show _ = _; simp
  have HW := Lib.hid hW
  obtain ⟨so, sn, sc, hvf⟩ : ∃ ao l c, v = .slice ao l c := by obtain ⟨xs, ho, _⟩ := hown; exact own_form ho
  have hsn : Hid (sn = n) := by
    show _ = _
    obtain ⟨xs, ho, _⟩ := hown
    rcases ho.2 with ⟨e, hz⟩ | ⟨g1, cap, cu, e, _⟩
    · rw [hvf] at e; injection e with _ e _; omega
    · rw [hvf] at e; injection e with _ e _; omega
  have HST := Lib.hid (fun WD hb hs hx => put_step (WD := WD) (m := m) hB hg hv hS hown hn hgB hd hb hs hx)
  clear hg hv hS hown hn hgB hd hW hB hN hNb
  go_enter Tryd.func34, Tryd.ntmps34
  go_upto_region 1 with fail
  change Code.wp Tryd.prog _ _ _ (w.alloc (.cells #[.int .i64 k, .string t, mv, lv, .int .i64 p] 40))
  have hsz := hWs.out
  generalize w.alloc (.cells #[.int .i64 k, .string t, mv, lv, .int .i64 p] 40) = W at HW hW2 hWs hsz ⊢
  go_wp2_with fail
  refine (FI.out _).mono ?_
  rintro e w' ⟨rfl, rfl⟩
  go_upto_region 2 with fail
  refine wp_region_noPanic ?_
  obtain ⟨WD, hWD⟩ : ∃ x, x = W.drew := ⟨_, rfl⟩
  have hx : Boxed w.heap.size #[.int .i64 k, .string t, mv, lv, .int .i64 p] WD := by rw [hWD]; exact HW.out
  have hb : Below w.heap.size w WD := by rw [hWD]; exact hW2.out.drew
  have hs : WD.heap.size = w.heap.size + 1 := by rw [hWD]; exact hsz
  obtain ⟨xs, c1, c2, x2, hown8, hB8, HNX⟩ := HST.out WD hb hs hx
  refine wp_region_held_drew (S := Boxed w.heap.size #[.int .i64 k, .string t, mv, lv, .int .i64 p]) (by kernel_rfl) (by rw [← hWD]; exact hx) (fun hHeld => ?_)
  rw [← hWD] at hHeld ⊢
  subst hvf
  have hsn' := hsn.out
  subst hsn'
  have HC1 := Lib.hid c1
  have HC2 := Lib.hid c2
  have HX2 := Lib.hid x2
  have HO := Lib.hid hown8
  have HN := Lib.hid HNX
  clear c1 c2 x2 hown8 HNX HST hWD hx hb hs hsn
  refine wpAnyH_take (i := 0) (v := Value.pointer (some ⟨g, m * 6, none⟩)) rfl (by kernel_rfl) (by kernel_rfl) (by kernel_rfl) (fun _ _ _ h => h) (Or.inl ⟨rfl, fun w' hw' => ?_⟩) hHeld ?_
  · go_simp
  simp only [List.getElem_toArray, List.getElem_cons_succ, List.getElem_cons_zero, Act.put, List.setIfInBounds_toArray, List.set_cons_zero, List.set_cons_succ]
  refine wpAnyH_take (i := 1) (v := Value.pointer (some ⟨g, m * 6, none⟩)) rfl (by kernel_rfl) (by kernel_rfl) (by kernel_rfl) (fun _ _ _ h => h) (Or.inl ⟨rfl, fun w' hw' => ?_⟩) hHeld ?_
  · go_simp
  simp only [List.getElem_toArray, List.getElem_cons_succ, List.getElem_cons_zero, Act.put, List.setIfInBounds_toArray, List.set_cons_zero, List.set_cons_succ]
  refine wpAnyH_take (i := 2) (v := Value.pointer (some ⟨g, m * 6, none⟩)) rfl (by kernel_rfl) (by kernel_rfl) (by kernel_rfl) (fun _ _ _ h => h) (Or.inl ⟨rfl, fun w' hw' => ?_⟩) hHeld ?_
  · go_simp
  simp only [List.getElem_toArray, List.getElem_cons_succ, List.getElem_cons_zero, Act.put, List.setIfInBounds_toArray, List.set_cons_zero, List.set_cons_succ]
  refine wpAnyH_take (i := 3) (v := Value.pointer (some ⟨g, m * 6 + 3, none⟩)) rfl (by kernel_rfl) (by kernel_rfl) (by kernel_rfl) (fun _ _ _ h => h) (Or.inl ⟨rfl, fun w' hw' => ?_⟩) hHeld ?_
  · go_simp
  simp only [List.getElem_toArray, List.getElem_cons_succ, List.getElem_cons_zero, Act.put, List.setIfInBounds_toArray, List.set_cons_zero, List.set_cons_succ]
  refine wpAnyH_take (i := 5) rfl (by kernel_rfl) (by kernel_rfl) (by kernel_rfl) (fun _ _ _ h => h) (yieldsIf_load_mid (by rfl) _ _ rfl w.heap.size 0 rfl [.int .i64 k, .string t, mv, lv, .int .i64 p] _ (fun w' hw' => box_range hw') Tryd.underlying40 rfl info40) hHeld ?_
  simp only [List.getElem_toArray, List.getElem_cons_succ, List.getElem_cons_zero, Act.put, List.setIfInBounds_toArray, List.set_cons_zero, List.set_cons_succ]
  refine wpAnyH_ready (rs := [4, 7]) (by kernel_rfl) (by simp) ?_
  refine (AllReadyH.cons rfl (fun K hK => ?_) (AllReadyH.cons rfl (fun K hK => ?_) AllReadyH.nil))
  · skip
    have cl := HC1.out
    go_simp
    refine hK.out _ _ hHeld (fun hHeld => ?_)
    clear hK K cl
    try simp only [List.getElem_toArray, List.getElem_cons_succ, List.getElem_cons_zero, Act.put, List.setIfInBounds_toArray, List.set_cons_zero, List.set_cons_succ]
    refine wpAnyH_take (i := 6) (v := Value.int .i64 sn) rfl (by kernel_rfl) (by kernel_rfl) (by kernel_rfl) (fun _ _ _ h => h) (Or.inl ⟨rfl, fun w' hw' => ?_⟩) hHeld ?_
    · go_simp
    simp only [List.getElem_toArray, List.getElem_cons_succ, List.getElem_cons_zero, Act.put, List.setIfInBounds_toArray, List.set_cons_zero, List.set_cons_succ]
    refine wpAnyH_ready (rs := [7]) (by kernel_rfl) (by simp) ?_
    refine (AllReadyH.cons rfl (fun K hK => ?_) AllReadyH.nil)
    go_simp
    refine hK.out _ _ HX2.out (fun hHeld => ?_)
    clear hK K
    try simp only [List.getElem_toArray, List.getElem_cons_succ, List.getElem_cons_zero, Act.put, List.setIfInBounds_toArray, List.set_cons_zero, List.set_cons_succ]
    refine wpAnyH_ready (rs := [8]) (by kernel_rfl) (by simp) ?_
    refine (AllReadyH.cons rfl (fun K hK => ?_) AllReadyH.nil)
    rw [if_pos (by rfl)]
    refine wp_app (Operand.tmp 11) (Operand.tmp 14) rfl B (.slice so sn sc) sn xs rfl HO.out WD.heap.size 1 rfl [.int .i64 0, .string ⟨#[]⟩, .slice none 0 0, .slice none 0 0, .int .i64 0] rfl (fun i u hu => ?_) (by simp [Value.oneCell']) (by omega) hB8 ?_
    · rw [Lib.cell_of_heap (alloc_at WD (.cells #[.int .i64 0, .string ⟨#[]⟩, .slice none 0 0, .slice none 0 0, .int .i64 0] 40))]; simpa using hu
    intro v' w9 hown9 hg9 hv9
    obtain ⟨g', c', rfl, hc', x9, HA, HB⟩ := HN.out v' w9 hown9 hg9 hv9
    clear hown9 hg9 hv9
    refine hK.out _ _ x9 (fun hHeld => ?_)
    clear hK K x9
    try simp only [List.getElem_toArray, List.getElem_cons_succ, List.getElem_cons_zero, Act.put, List.setIfInBounds_toArray, List.set_cons_zero, List.set_cons_succ]
    refine wpAnyH_take (i := 9) (v := Value.pointer (some ⟨g', sn * 5, none⟩)) rfl (by kernel_rfl) (by kernel_rfl) (by kernel_rfl) (fun _ _ _ h => h) (Or.inl ⟨rfl, fun w' hw' => ?_⟩) hHeld ?_
    · go_simp; intro hq; omega
    simp only [List.getElem_toArray, List.getElem_cons_succ, List.getElem_cons_zero, Act.put, List.setIfInBounds_toArray, List.set_cons_zero, List.set_cons_succ]
    refine wpAnyH_take (i := 11) (v := Value.pointer (some ⟨g, m * 6, none⟩)) rfl (by kernel_rfl) (by kernel_rfl) (by kernel_rfl) (fun _ _ _ h => h) (Or.inl ⟨rfl, fun w' hw' => ?_⟩) hHeld ?_
    · go_simp
    simp only [List.getElem_toArray, List.getElem_cons_succ, List.getElem_cons_zero, Act.put, List.setIfInBounds_toArray, List.set_cons_zero, List.set_cons_succ]
    refine wpAnyH_take (i := 12) (v := Value.pointer (some ⟨g, m * 6, none⟩)) rfl (by kernel_rfl) (by kernel_rfl) (by kernel_rfl) (fun _ _ _ h => h) (Or.inl ⟨rfl, fun w' hw' => ?_⟩) hHeld ?_
    · go_simp
    simp only [List.getElem_toArray, List.getElem_cons_succ, List.getElem_cons_zero, Act.put, List.setIfInBounds_toArray, List.set_cons_zero, List.set_cons_succ]
    refine wpAnyH_take (i := 13) (v := Value.pointer (some ⟨g, m * 6 + 3, none⟩)) rfl (by kernel_rfl) (by kernel_rfl) (by kernel_rfl) (fun _ _ _ h => h) (Or.inl ⟨rfl, fun w' hw' => ?_⟩) hHeld ?_
    · go_simp
    simp only [List.getElem_toArray, List.getElem_cons_succ, List.getElem_cons_zero, Act.put, List.setIfInBounds_toArray, List.set_cons_zero, List.set_cons_succ]
    refine wpAnyH_ready (rs := [10, 14]) (by kernel_rfl) (by simp) ?_
    refine (AllReadyH.cons rfl (fun K hK => ?_) (AllReadyH.cons rfl (fun K hK => ?_) AllReadyH.nil))
    · skip
      obtain ⟨th, xS, cc, cf, xT, hd⟩ := HA
      have HXT := Lib.hid xT
      have HD := Lib.hid hd
      rw [if_pos (by rfl)]
      refine wp_store_mid 40 _ _ rfl g' (sn * 5) #[.int .i64 k, .string t, mv, lv, .int .i64 p] rfl rfl th info40 z1 ?_
      refine hK.out _ _ xS (fun hHeld => ?_)
      clear hK K xS th xT hd HB
      try simp only [List.getElem_toArray, List.getElem_cons_succ, List.getElem_cons_zero, Act.put, List.setIfInBounds_toArray, List.set_cons_zero, List.set_cons_succ]
      refine wpAnyH_ready (rs := [14]) (by kernel_rfl) (by simp) ?_
      refine (AllReadyH.cons rfl (fun K hK => ?_) AllReadyH.nil)
      go_simp
      refine hK.out _ _ HXT.out (fun hHeld => ?_)
      clear hK K cc cf
      try simp only [List.getElem_toArray, List.getElem_cons_succ, List.getElem_cons_zero, Act.put, List.setIfInBounds_toArray, List.set_cons_zero, List.set_cons_succ]
      refine wpAnyH_done (by kernel_rfl) ?_ _
      refine NoPanic.normal ?_
      go_wp2_with fail
      go_end0
      exact ⟨rfl, HD.out⟩
    · skip
      obtain ⟨cc, cf, xS, th, xT, hd⟩ := HB
      have HXT := Lib.hid xT
      have HD := Lib.hid hd
      have HTH := Lib.hid th
      go_simp
      refine hK.out _ _ xS (fun hHeld => ?_)
      clear hK K xS th xT hd HA cc cf
      try simp only [List.getElem_toArray, List.getElem_cons_succ, List.getElem_cons_zero, Act.put, List.setIfInBounds_toArray, List.set_cons_zero, List.set_cons_succ]
      refine wpAnyH_ready (rs := [10]) (by kernel_rfl) (by simp) ?_
      refine (AllReadyH.cons rfl (fun K hK => ?_) AllReadyH.nil)
      rw [if_pos (by rfl)]
      refine wp_store_mid 40 _ _ rfl g' (sn * 5) #[.int .i64 k, .string t, mv, lv, .int .i64 p] rfl rfl HTH.out info40 z1 ?_
      refine hK.out _ _ HXT.out (fun hHeld => ?_)
      clear hK K
      try simp only [List.getElem_toArray, List.getElem_cons_succ, List.getElem_cons_zero, Act.put, List.setIfInBounds_toArray, List.set_cons_zero, List.set_cons_succ]
      refine wpAnyH_done (by kernel_rfl) ?_ _
      refine NoPanic.normal ?_
      go_wp2_with fail
      go_end0
      exact ⟨rfl, HD.out⟩
  · skip
    go_simp
    refine hK.out _ _ HX2.out (fun hHeld => ?_)
    clear hK K
    try simp only [List.getElem_toArray, List.getElem_cons_succ, List.getElem_cons_zero, Act.put, List.setIfInBounds_toArray, List.set_cons_zero, List.set_cons_succ]
    refine wpAnyH_ready (rs := [4]) (by kernel_rfl) (by simp) ?_
    refine (AllReadyH.cons rfl (fun K hK => ?_) AllReadyH.nil)
    have cl := HC2.out
    go_simp
    refine hK.out _ _ hHeld (fun hHeld => ?_)
    clear hK K cl
    try simp only [List.getElem_toArray, List.getElem_cons_succ, List.getElem_cons_zero, Act.put, List.setIfInBounds_toArray, List.set_cons_zero, List.set_cons_succ]
    refine wpAnyH_take (i := 6) (v := Value.int .i64 sn) rfl (by kernel_rfl) (by kernel_rfl) (by kernel_rfl) (fun _ _ _ h => h) (Or.inl ⟨rfl, fun w' hw' => ?_⟩) hHeld ?_
    · go_simp
    simp only [List.getElem_toArray, List.getElem_cons_succ, List.getElem_cons_zero, Act.put, List.setIfInBounds_toArray, List.set_cons_zero, List.set_cons_succ]
    refine wpAnyH_ready (rs := [8]) (by kernel_rfl) (by simp) ?_
    refine (AllReadyH.cons rfl (fun K hK => ?_) AllReadyH.nil)
    rw [if_pos (by rfl)]
    refine wp_app (Operand.tmp 11) (Operand.tmp 14) rfl B (.slice so sn sc) sn xs rfl HO.out WD.heap.size 1 rfl [.int .i64 0, .string ⟨#[]⟩, .slice none 0 0, .slice none 0 0, .int .i64 0] rfl (fun i u hu => ?_) (by simp [Value.oneCell']) (by omega) hB8 ?_
    · rw [Lib.cell_of_heap (alloc_at WD (.cells #[.int .i64 0, .string ⟨#[]⟩, .slice none 0 0, .slice none 0 0, .int .i64 0] 40))]; simpa using hu
    intro v' w9 hown9 hg9 hv9
    obtain ⟨g', c', rfl, hc', x9, HA, HB⟩ := HN.out v' w9 hown9 hg9 hv9
    clear hown9 hg9 hv9
    refine hK.out _ _ x9 (fun hHeld => ?_)
    clear hK K x9
    try simp only [List.getElem_toArray, List.getElem_cons_succ, List.getElem_cons_zero, Act.put, List.setIfInBounds_toArray, List.set_cons_zero, List.set_cons_succ]
    refine wpAnyH_take (i := 9) (v := Value.pointer (some ⟨g', sn * 5, none⟩)) rfl (by kernel_rfl) (by kernel_rfl) (by kernel_rfl) (fun _ _ _ h => h) (Or.inl ⟨rfl, fun w' hw' => ?_⟩) hHeld ?_
    · go_simp; intro hq; omega
    simp only [List.getElem_toArray, List.getElem_cons_succ, List.getElem_cons_zero, Act.put, List.setIfInBounds_toArray, List.set_cons_zero, List.set_cons_succ]
    refine wpAnyH_take (i := 11) (v := Value.pointer (some ⟨g, m * 6, none⟩)) rfl (by kernel_rfl) (by kernel_rfl) (by kernel_rfl) (fun _ _ _ h => h) (Or.inl ⟨rfl, fun w' hw' => ?_⟩) hHeld ?_
    · go_simp
    simp only [List.getElem_toArray, List.getElem_cons_succ, List.getElem_cons_zero, Act.put, List.setIfInBounds_toArray, List.set_cons_zero, List.set_cons_succ]
    refine wpAnyH_take (i := 12) (v := Value.pointer (some ⟨g, m * 6, none⟩)) rfl (by kernel_rfl) (by kernel_rfl) (by kernel_rfl) (fun _ _ _ h => h) (Or.inl ⟨rfl, fun w' hw' => ?_⟩) hHeld ?_
    · go_simp
    simp only [List.getElem_toArray, List.getElem_cons_succ, List.getElem_cons_zero, Act.put, List.setIfInBounds_toArray, List.set_cons_zero, List.set_cons_succ]
    refine wpAnyH_take (i := 13) (v := Value.pointer (some ⟨g, m * 6 + 3, none⟩)) rfl (by kernel_rfl) (by kernel_rfl) (by kernel_rfl) (fun _ _ _ h => h) (Or.inl ⟨rfl, fun w' hw' => ?_⟩) hHeld ?_
    · go_simp
    simp only [List.getElem_toArray, List.getElem_cons_succ, List.getElem_cons_zero, Act.put, List.setIfInBounds_toArray, List.set_cons_zero, List.set_cons_succ]
    refine wpAnyH_ready (rs := [10, 14]) (by kernel_rfl) (by simp) ?_
    refine (AllReadyH.cons rfl (fun K hK => ?_) (AllReadyH.cons rfl (fun K hK => ?_) AllReadyH.nil))
    · skip
      obtain ⟨th, xS, cc, cf, xT, hd⟩ := HA
      have HXT := Lib.hid xT
      have HD := Lib.hid hd
      rw [if_pos (by rfl)]
      refine wp_store_mid 40 _ _ rfl g' (sn * 5) #[.int .i64 k, .string t, mv, lv, .int .i64 p] rfl rfl th info40 z1 ?_
      refine hK.out _ _ xS (fun hHeld => ?_)
      clear hK K xS th xT hd HB
      try simp only [List.getElem_toArray, List.getElem_cons_succ, List.getElem_cons_zero, Act.put, List.setIfInBounds_toArray, List.set_cons_zero, List.set_cons_succ]
      refine wpAnyH_ready (rs := [14]) (by kernel_rfl) (by simp) ?_
      refine (AllReadyH.cons rfl (fun K hK => ?_) AllReadyH.nil)
      go_simp
      refine hK.out _ _ HXT.out (fun hHeld => ?_)
      clear hK K cc cf
      try simp only [List.getElem_toArray, List.getElem_cons_succ, List.getElem_cons_zero, Act.put, List.setIfInBounds_toArray, List.set_cons_zero, List.set_cons_succ]
      refine wpAnyH_done (by kernel_rfl) ?_ _
      refine NoPanic.normal ?_
      go_wp2_with fail
      go_end0
      exact ⟨rfl, HD.out⟩
    · skip
      obtain ⟨cc, cf, xS, th, xT, hd⟩ := HB
      have HXT := Lib.hid xT
      have HD := Lib.hid hd
      have HTH := Lib.hid th
      go_simp
      refine hK.out _ _ xS (fun hHeld => ?_)
      clear hK K xS th xT hd HA cc cf
      try simp only [List.getElem_toArray, List.getElem_cons_succ, List.getElem_cons_zero, Act.put, List.setIfInBounds_toArray, List.set_cons_zero, List.set_cons_succ]
      refine wpAnyH_ready (rs := [10]) (by kernel_rfl) (by simp) ?_
      refine (AllReadyH.cons rfl (fun K hK => ?_) AllReadyH.nil)
      rw [if_pos (by rfl)]
      refine wp_store_mid 40 _ _ rfl g' (sn * 5) #[.int .i64 k, .string t, mv, lv, .int .i64 p] rfl rfl HTH.out info40 z1 ?_
      refine hK.out _ _ HXT.out (fun hHeld => ?_)
      clear hK K
      try simp only [List.getElem_toArray, List.getElem_cons_succ, List.getElem_cons_zero, Act.put, List.setIfInBounds_toArray, List.set_cons_zero, List.set_cons_succ]
      refine wpAnyH_done (by kernel_rfl) ?_ _
      refine NoPanic.normal ?_
      go_wp2_with fail
      go_end0
      exact ⟨rfl, HD.out⟩
end Go.Proofs.YtahdiknkcgnieaaDoor
namespace Go.Proofs.YtahdiknkcgnieaaDoor
open Go.RowKit
set_option linter.unusedVariables false
set_option linter.unusedSimpArgs false
/-- A list that is begun: where, whether by a quote, its parts till now. -/
structure En where
  pl : Int
  q : Bool
  ds : List Dt
def En.dt (e : En) : Dt := .mk 4 ⟨#[]⟩ [] e.ds e.pl
def En.add (e : En) (d : Dt) : En := ⟨e.pl, e.q, e.ds ++ [d]⟩
/-- What may come next. -/
inductive Pc
  | next | begin | finish | token | put (d : Dt) | stop
/-- What Read answers. -/
inductive Rs
  | ok (ds : List Dt) | err (e : Int) (at_ : Nat)
/-- Read: from a label on, at a place, with the lists that are begun, the innermost first; n bounds the steps. -/
def rd (s : List UInt8) : Nat → Pc → Nat → En → List En → Option Rs
  | 0, _, _, _, _ => none
  | n + 1, .next, p, e, r =>
    match s[p + gapOf false (s.drop p)]? with
    | none => rd s n .stop (p + gapOf false (s.drop p)) e r
    | some b => if b = 40 ∨ b = 39 then rd s n .begin (p + gapOf false (s.drop p)) e r else if b = 41 then rd s n .finish (p + gapOf false (s.drop p)) e r else rd s n .token (p + gapOf false (s.drop p)) e r
  | n + 1, .begin, p, e, r =>
    match s[p]? with
    | none => none
    | some b => if r.length = 60 then some (.err 6 p) else rd s n .next (p + 1) ⟨p, b == 39, if (b == 39) = true then [.mk 3 qT [] [] p] else []⟩ (e :: r)
  | n + 1, .finish, p, e, r =>
    match r with
    | [] => some (.err 4 p)
    | f :: r' => if e.q = true then some (.err 4 p) else rd s n (.put e.dt) (p + 1) f r'
  | n + 1, .token, p, e, r =>
    match tokOf (s.drop p) with
    | none => some (.err 3 p)
    | some (k, t, m) => rd s n (.put (.mk k t [] [] p)) (p + m) e r
  | n + 1, .put d, p, e, r =>
    if e.q = true then
      match r with
      | [] => none
      | f :: r' => rd s n (.put (e.add d).dt) p f r'
    else rd s n .next p (e.add d) r
  | n + 1, .stop, p, e, r => if 0 < r.length then some (.err 5 p) else some (.ok e.ds)
/-- The lists that are begun, the innermost first, as the cells xs of the stack; their rows lie in blocks apart from each other and from U, their parts in blocks of D. -/
def Ents (D : Nat → Prop) (B : Nat) (w : World) (xs : List Value) : List En → (Nat → Prop) → Prop
  | [], _ => True
  | e :: r, U => ∃ lv k, (xs[r.length * 6]? = some (.int .i64 k) ∧ xs[r.length * 6 + 1]? = some (.string ⟨#[]⟩) ∧ xs[r.length * 6 + 2]? = some (.slice none 0 0) ∧ xs[r.length * 6 + 3]? = some lv ∧ xs[r.length * 6 + 4]? = some (.int .i64 e.pl) ∧ xs[r.length * 6 + 5]? = some (.bool e.q)) ∧
      (r ≠ [] → k = 4) ∧ OwnS D B w lv e.ds ∧ (∀ x, lv.ownBlock = some x → ¬ U x) ∧ Ents D B w xs r (fun x => U x ∨ lv.ownBlock = some x)
theorem Ents.move {D : Nat → Prop} {B : Nat} {w w' : World} {xs xs' : List Value} : ∀ (es : List En) (U : Nat → Prop), Ents D B w xs es U → (∀ i, i < es.length * 6 → xs'[i]? = xs[i]?) → (∀ x, x < w.heap.size → (D x ∨ ¬ U x) → w'.heap[x]? = w.heap[x]?) → Ents D B w' xs' es U
  | [], _, _, _, _ => trivial
  | e :: r, U, h, hx, hw => by
    obtain ⟨lv, k, ⟨c0, c1, c2, c3, c4, c5⟩, hk, ho, hu, hr⟩ := h
    have hl : (e :: r).length * 6 = r.length * 6 + 6 := by simp; omega
    rw [hl] at hx
    refine ⟨lv, k, ⟨by rw [hx _ (by omega)]; exact c0, by rw [hx _ (by omega)]; exact c1, by rw [hx _ (by omega)]; exact c2, by rw [hx _ (by omega)]; exact c3, by rw [hx _ (by omega)]; exact c4, by rw [hx _ (by omega)]; exact c5⟩, hk, ?_, hu, ?_⟩
    · refine ho.keep (fun x c hxo hh => ?_) (fun x c T fz hD hh _ => ⟨fz, ?_⟩)
      · rw [hw x (Array.getElem?_eq_some_iff.1 hh).1 (.inr (hu x hxo))]; exact hh
      · rw [hw x (Array.getElem?_eq_some_iff.1 hh).1 (.inl hD)]; exact hh
    · exact Ents.move r _ hr (fun i hi => hx i (by omega)) (fun x hxs hxd => hw x hxs (hxd.imp id (fun hn hU => hn (.inl hU))))
theorem Ents.fresh {D D' : Nat → Prop} {B : Nat} {w : World} {xs : List Value} (hD : ∀ x, D x → D' x) : ∀ (es : List En) (U U' : Nat → Prop), Ents D B w xs es U → (∀ x, x < w.heap.size → U' x → U x) → Ents D' B w xs es U'
  | [], _, _, _, _ => trivial
  | e :: r, U, U', h, hU => by
    obtain ⟨lv, k, hc, hk, ho, hu, hr⟩ := h
    exact ⟨lv, k, hc, hk, ho.mono hD, fun x hx hx' => hu x hx (hU x (ho.lt hx).2 hx'), Ents.fresh hD r _ _ hr (fun x hx hxu => hxu.imp (hU x hx) id)⟩
/-- The stack is v. -/
def StackAt (D : Nat → Prop) (B : Nat) (w : World) (v : Value) (e : En) (r : List En) : Prop :=
  ∃ g c xs, v = .slice (some ⟨g, 0, none⟩) (r.length + 1) c ∧ w.ownsRow B 55 6 v (r.length + 1) xs ∧ ¬ D g ∧ (∀ x, D x → B ≤ x ∧ x < w.heap.size) ∧ Ents D B w xs (e :: r) (fun x => D x ∨ x = g)
theorem StackAt.below {D : Nat → Prop} {B : Nat} {w w' : World} {v : Value} {e : En} {r : List En} (h : StackAt D B w v e r) (hb : Below w.heap.size w w') : StackAt D B w' v e r := by
  obtain ⟨g, c, xs, rfl, ho, hg, hD, hE⟩ := h
  have hs := hb.size
  refine ⟨g, c, xs, rfl, ⟨ho.1, ?_⟩, hg, fun x hx => ⟨(hD x hx).1, by have := (hD x hx).2; omega⟩, Ents.move _ _ hE (fun _ _ => rfl) (fun x hx _ => hb.block x hx)⟩
  rcases ho.2 with h | ⟨g1, cap, cur, e1, hB, hh, r⟩
  · exact .inl h
  · exact .inr ⟨g1, cap, cur, e1, hB, by rw [hb.block _ (Array.getElem?_eq_some_iff.1 hh).1]; exact hh, r⟩
/-- One part more in the innermost list: its cell of the stack. -/
theorem StackAt.top {D : Nat → Prop} {B : Nat} {w : World} {v : Value} {e : En} {r : List En} (h : StackAt D B w v e r) :
    ∃ g c arr lv, v = .slice (some ⟨g, 0, none⟩) (r.length + 1) c ∧ r.length + 1 ≤ c ∧ c ≤ maxLen ∧ B ≤ g ∧ w.heap[g]? = some (.cells arr 55 (0, 0)) ∧ arr[r.length * 6 + 3]? = some lv ∧ arr[r.length * 6 + 5]? = some (.bool e.q) ∧ OwnS D B w lv e.ds ∧ lv.ownBlock ≠ some g ∧ (∀ x, D x → B ≤ x ∧ lv.ownBlock ≠ some x) ∧
      ∀ d w', PutDone D B g (r.length * 6 + 3) arr lv (e.ds ++ [d]) w w' → StackAt D B w' v (e.add d) r := by
  obtain ⟨g, c, xs, rfl, ho, hgD, hD, hE⟩ := h
  rcases ho.2 with ⟨e1, _⟩ | ⟨g1, cap, cur, e1, hB, hh, hnc, hcm, hcs, ht⟩
  · cases e1
  injection e1 with e1 _ e3
  injection e1 with e1
  injection e1 with e1 _ _
  subst e1 e3
  have hxl : xs.length = (r.length + 1) * 6 := ho.1
  have hx : ∀ i, i < (r.length + 1) * 6 → cur[i]? = xs[i]? := fun i hi => by
    rw [← ht, List.getElem?_take, if_pos hi]; simp
  obtain ⟨lv, k, ⟨c0, c1, c2, c3, c4, c5⟩, hk, hl, hu, hr⟩ := hE
  refine ⟨g, c, cur, lv, rfl, hnc, hcm, hB, hh, by rw [hx _ (by omega)]; exact c3, by rw [hx _ (by omega)]; exact c5, hl, fun e => hu g e (.inr rfl), fun x hx => ⟨(hD x hx).1, fun e => hu x e (.inl hx)⟩, ?_⟩
  rintro d w' ⟨v', p1, p2, p3, p4, p5, p6, p7, p8⟩
  have hgl : g < w.heap.size := (Array.getElem?_eq_some_iff.1 hh).1
  have x3 : ∀ i, i ≠ r.length * 6 + 3 → (xs.set (r.length * 6 + 3) v')[i]? = xs[i]? := fun i hi => by rw [List.getElem?_set_ne (fun e => hi e.symm)]
  refine ⟨g, c, xs.set (r.length * 6 + 3) v', rfl, ⟨by simp [hxl], .inr ⟨g, c, _, rfl, hB, p1, hnc, hcm, by simp [hcs], ?_⟩⟩, hgD, fun x hx => ⟨(hD x hx).1, by have := (hD x hx).2; omega⟩, ?_⟩
  · rw [← ht]
    apply List.ext_getElem?
    intro i
    simp only [Array.toList_setIfInBounds, List.getElem?_take, List.getElem?_set, List.length_take]
    by_cases h1 : i < (r.length + 1) * 6
    · have h4 : r.length * 6 + 3 < cur.toList.length := by simp [hcs]; omega
      simp only [h1, if_true]
      by_cases h2 : r.length * 6 + 3 = i
      · have h3 : r.length * 6 + 3 < min ((r.length + 1) * 6) cur.toList.length := by omega
        simp only [h2, if_true]
        rw [if_pos (by omega), if_pos (by omega)]
      · simp [h2]
    · simp only [h1, if_false]
      rw [if_neg (by omega)]
  · refine ⟨v', k, ⟨by rw [x3 _ (by omega)]; exact c0, by rw [x3 _ (by omega)]; exact c1, by rw [x3 _ (by omega)]; exact c2, by rw [List.getElem?_set_self (by omega)], by rw [x3 _ (by omega)]; exact c4, by rw [x3 _ (by omega)]; exact c5⟩, hk, p2, ?_, ?_⟩
    · rintro x hx
      rcases p3 with e | ⟨b, e, hb⟩
      · exact hu x (e.symm.trans hx)
      · rw [e] at hx
        injection hx with hx
        subst hx
        rintro (h | h)
        · have := (hD _ h).2; omega
        · omega
    · have h1 : Ents D B w xs r (fun x => ((D x ∨ x = g) ∨ v'.ownBlock = some x) ∨ lv.ownBlock = some x) := Ents.fresh (fun _ h => h) r _ _ hr (fun x hx hu' => ?_)
      · have h2 : Ents D B w' (xs.set (r.length * 6 + 3) v') r (fun x => ((D x ∨ x = g) ∨ v'.ownBlock = some x) ∨ lv.ownBlock = some x) := Ents.move r _ h1 (fun i hi => x3 i (by omega)) (fun x hx hd => ?_)
        · exact Ents.fresh (fun _ h => h) r _ _ h2 (fun x _ h => .inl h)
        · refine p8 x hx ?_ ?_
          · rintro rfl
            rcases hd with h | h
            · exact hgD h
            · exact h (.inl (.inl (.inr rfl)))
          · intro e
            rcases hd with h | h
            · exact hu x e (.inl h)
            · exact h (.inr e)
      · rcases hu' with (h | h) | h
        · exact .inl h
        · rcases p3 with e | ⟨b, e, hb⟩
          · exact .inr (e.symm.trans h)
          · rw [e] at h; injection h with h; omega
        · exact .inr h
end Go.Proofs.YtahdiknkcgnieaaDoor
namespace Go.Proofs.YtahdiknkcgnieaaDoor
open Go.RowKit
set_option linter.unusedVariables false
set_option linter.unusedSimpArgs false
theorem OwnS.lat {S : Nat → Prop} {B : Nat} {w : World} {v : Value} {ds : List Dt} (h : OwnS S B w v ds) : LAt (fun g => S g ∨ v.ownBlock = some g) w v ds := by
  obtain ⟨xs, hown, hd⟩ := h
  rcases hown.2 with ⟨rfl, hz⟩ | ⟨g, cap, cur, rfl, hbg, hg, hnc, hcm, hcs, htake⟩
  · exact .inl ⟨rfl, List.length_eq_zero_iff.1 hz⟩
  · refine .inr ⟨g, 0, cap, cur, (0, 0), rfl, .inr rfl, hg, Dts.At.of_get _ _ _ fun j hj => ?_⟩
    obtain ⟨cs, h5, h1, h2⟩ := hd j hj
    refine ⟨cs, fun i hi => ?_, Dt.At.mono (fun g h => .inl h) _ _ h2⟩
    rw [← h1 i hi, ← htake, List.getElem?_take, if_pos (by omega)]
    simp
theorem StackAt.finish {D : Nat → Prop} {B : Nat} {w : World} {v : Value} {e f : En} {r : List En} (h : StackAt D B w v e (f :: r)) :
    ∃ g c lv, v = .slice (some ⟨g, 0, none⟩) (r.length + 1 + 1) c ∧ r.length + 1 + 1 ≤ c ∧ c ≤ maxLen ∧ B ≤ g ∧ lv.oneCell' = true ∧
      (w.cell? ⟨g, (r.length + 1) * 6, none⟩ = some (.int .i64 4) ∧ w.cell? ⟨g, (r.length + 1) * 6 + 1, none⟩ = some (.string ⟨#[]⟩) ∧ w.cell? ⟨g, (r.length + 1) * 6 + 2, none⟩ = some (.slice none 0 0) ∧ w.cell? ⟨g, (r.length + 1) * 6 + 3, none⟩ = some lv ∧ w.cell? ⟨g, (r.length + 1) * 6 + 4, none⟩ = some (.int .i64 e.pl) ∧ w.cell? ⟨g, (r.length + 1) * 6 + 5, none⟩ = some (.bool e.q)) ∧
      ∃ D', (∀ x, D x → D' x) ∧ StackAt D' B w (.slice (some ⟨g, 0, none⟩) (r.length + 1) c) f r ∧ Dt.At D' w e.dt #[.int .i64 4, .string ⟨#[]⟩, .slice none 0 0, lv, .int .i64 e.pl] := by
  obtain ⟨g, c, xs, rfl, ho, hgD, hD, hE⟩ := h
  simp only [List.length_cons] at ho
  rcases ho.2 with ⟨e1, _⟩ | ⟨g1, cap, cur, e1, hB, hh, hnc, hcm, hcs, ht⟩
  · cases e1
  injection e1 with e1 _ e3
  injection e1 with e1
  injection e1 with e1 _ _
  subst e1 e3
  have hxl : xs.length = (r.length + 1 + 1) * 6 := ho.1
  have hx : ∀ i, i < (r.length + 1 + 1) * 6 → cur[i]? = xs[i]? := fun i hi => by
    rw [← ht, List.getElem?_take, if_pos hi]; simp
  obtain ⟨lv, k, ⟨c0, c1, c2, c3, c4, c5⟩, hk, hl, hu, hr⟩ := hE
  have hk4 := hk (by simp)
  subst hk4
  simp only [List.length_cons] at c0 c1 c2 c3 c4 c5
  have cell : ∀ i, i < 6 → w.cell? ⟨g, (r.length + 1) * 6 + i, none⟩ = xs[(r.length + 1) * 6 + i]? := fun i hi => by rw [Lib.cell_of_heap hh, hx _ (by omega)]
  refine ⟨g, c, lv, rfl, hnc, hcm, hB, ?_, ⟨(cell 0 (by omega)).trans c0, (cell 1 (by omega)).trans c1, (cell 2 (by omega)).trans c2, (cell 3 (by omega)).trans c3, (cell 4 (by omega)).trans c4, (cell 5 (by omega)).trans c5⟩, fun x => D x ∨ lv.ownBlock = some x, fun x h => .inl h, ?_, ?_⟩
  · exact hl.lat.one
  · refine ⟨g, c, xs.take ((r.length + 1) * 6), rfl, ⟨by simp [hxl], .inr ⟨g, c, cur, rfl, hB, hh, by omega, hcm, hcs, by rw [← ht, List.take_take]; congr 1; omega⟩⟩, ?_, ?_, ?_⟩
    · rintro (h | h)
      · exact hgD h
      · exact hu g h (.inr rfl)
    · rintro x (h | h)
      · exact hD x h
      · exact hl.lt h
    · have h1 : Ents D B w (xs.take ((r.length + 1) * 6)) (f :: r) _ := Ents.move (f :: r) _ hr (fun i hi => by rw [List.getElem?_take, if_pos (by simpa using hi)]) (fun x _ _ => rfl)
      refine Ents.fresh (fun x h => .inl h) (f :: r) _ _ h1 (fun x _ h => ?_)
      rcases h with (h | h) | h
      · exact .inl (.inl h)
      · exact .inr h
      · exact .inl (.inr h)
  · show Dt.At _ w (.mk 4 ⟨#[]⟩ [] e.ds e.pl) _
    rw [At_mk]
    exact ⟨_, _, rfl, .inl ⟨rfl, rfl⟩, hl.lat⟩
end Go.Proofs.YtahdiknkcgnieaaDoor
namespace Go
section
variable {P : Program} {a : Act} {w : World} {Q : Exit → Act → World → Prop}
/-- As wp_scope_labels; the measure is no function of the state: what holds at a label bounds the jumps that are left. -/
theorem wp_scope_fuel {c : Code} (J : Nat → Nat → Act → World → Prop)
    (first : c.wp P (Exit.jumps (fun l a w => ∃ n, J n l a w) Q) a w)
    (pass : ∀ n l a w, J n l a w → ∃ rest, findLabel c l = some rest ∧ rest.wp P (Exit.jumps (fun l' a' w' => ∃ n', n' < n ∧ J n' l' a' w') Q) a w) : (Code.scope c).wp P Q a w := by
  intro b k cs
  have key : ∀ n l a w, J n l a w → ∃ rest, findLabel c l = some rest ∧ ∃ e a' w', Q e a' w' ∧ Arrives P (lone (b.at a (.code rest :: .inScope c :: k)) cs w) b k cs e a' w' := by
    intro n
    induction n using Nat.strongRecOn with
    | _ n ih =>
      intro l a w hJ
      obtain ⟨rest, hf, hw⟩ := pass n l a w hJ
      refine ⟨rest, hf, ?_⟩
      obtain ⟨e, a₁, w₁, hq, harr⟩ := hw b (.inScope c :: k) cs
      cases e with
      | normal => exact ⟨.normal, a₁, w₁, hq, Steps.trans harr (.one step_inScope)⟩
      | exit id => exact ⟨.exit id, a₁, w₁, hq, fun k' hk => harr k' (by simp [exitTo, hk])⟩
      | goto l' =>
        obtain ⟨n', hlt, hJ'⟩ := hq
        obtain ⟨rest', hf', e₂, a₂, w₂, hq₂, harr₂⟩ := ih n' hlt l' a₁ w₁ hJ'
        have hg : gotoIn l' (.inScope c :: k) = some (.code rest' :: .inScope c :: k) := by simp [gotoIn, hf']
        exact ⟨e₂, a₂, w₂, hq₂, .of_steps (harr _ hg) harr₂⟩
      | ret => exact ⟨_, a₁, w₁, hq, harr⟩
      | panic ch => exact ⟨_, a₁, w₁, hq, harr⟩
      | outgrown => exact ⟨_, a₁, w₁, hq, harr⟩
  obtain ⟨e, a₁, w₁, hq, harr⟩ := first b (.inScope c :: k) cs
  cases e with
  | normal => exact ⟨.normal, a₁, w₁, hq, .head step_scope (Steps.trans harr (.one step_inScope))⟩
  | exit id => exact ⟨.exit id, a₁, w₁, hq, fun k' hk => .head step_scope (harr k' (by simp [exitTo, hk]))⟩
  | goto l' =>
    obtain ⟨n, hJ⟩ := hq
    obtain ⟨rest', hf', e₂, a₂, w₂, hq₂, harr₂⟩ := key n l' a₁ w₁ hJ
    have hg : gotoIn l' (.inScope c :: k) = some (.code rest' :: .inScope c :: k) := by simp [gotoIn, hf']
    exact ⟨e₂, a₂, w₂, hq₂, .of_steps (.head step_scope (harr _ hg)) harr₂⟩
  | ret => exact ⟨_, a₁, w₁, hq, .of_steps (.one step_scope) harr⟩
  | panic ch => exact ⟨_, a₁, w₁, hq, .of_steps (.one step_scope) harr⟩
  | outgrown => exact ⟨_, a₁, w₁, hq, .of_steps (.one step_scope) harr⟩
end
end Go
namespace Go.Proofs.YtahdiknkcgnieaaDoor
open Go.RowKit
set_option linter.unusedVariables false
set_option linter.unusedSimpArgs false
theorem infoO : (Tryd.prog.info? 55).map (fun i => (i.zero, i.size, i.bytes)) = some (some (.agg Z6), 6, 88) := by kernel_rfl

theorem run_appO (w : World) (B ty : Nat) (v : Value) (n : Nat) (xs : List Value) (hown : w.ownsRow B 55 6 v n xs) (g0 c : Nat) (news : List Value) (hl : news.length = 6)
    (hnews : ∀ j u, news[j]? = some u → w.cell? ⟨g0, j, none⟩ = some u) (h1 : ∀ u ∈ news, u.oneCell' = true) (hn : n + 1 ≤ 1000000000) (hB : B ≤ w.heap.size) :
    ∃ v' w', (Builtin.append_ #[57, 57] ty #[v, .slice (some ⟨g0, 0, none⟩) 1 c]).run Tryd.prog w = .ok v' w' ∧ w'.ownsRow B 55 6 v' (n + 1) (xs ++ news) ∧ w.grownBy w' v.ownBlock ∧ (v'.ownBlock = v.ownBlock ∨ v'.ownBlock = some w.heap.size) := by
  obtain ⟨i, hi, hz, hs, hb⟩ := info_parts infoO
  have hnews' : ∀ j u, news[j]? = some u → w.cell? ((⟨g0, 0, none⟩ : Addr).add j) = some u := by
    intro j u hu
    have e : (⟨g0, 0, none⟩ : Addr).add j = ⟨g0, j, none⟩ := by unfold Addr.add; split <;> simp_all
    rw [e]; exact hnews j u hu
  have hl1 : news.length = 1 * 6 := by omega
  obtain ⟨v', w', hr, h2, h3, _⟩ := run_append_own (P := Tryd.prog) w B 57 ty 55 i (.agg Z6) 6 88 Tryd.underlying57 hi hz hs hb rfl (by decide) v n xs hown ⟨g0, 0, none⟩ 1 c news hl1 hnews' h1 (by unfold maxLen; omega) (by omega) hB
  refine ⟨v', w', hr, h2, h3, ?_⟩
  have hl2 : news.length = 1 * i.size := by rw [hs]; exact hl1
  rcases hown.2 with ⟨rfl, rfl⟩ | ⟨g, cap, cur, rfl, hbg, hg, hnc, hcm, hcs, htake⟩
  · have hr2 := run_append_nil (P := Tryd.prog) w 57 ty 55 i (.agg Z6) Tryd.underlying57 hi hz ⟨g0, 0, none⟩ 1 c news hl2 hnews' (by decide) (by decide) (by rw [hb]; decide)
    rw [hr] at hr2
    injection hr2 with e1 e2
    right; rw [e1]; rfl
  · by_cases hroom : n + 1 ≤ cap
    · have hfit : n * i.size + news.length ≤ cur.size := by rw [hs, hl, hcs]; omega
      have hr2 := run_append_room (P := Tryd.prog) w 57 ty 55 i Tryd.underlying57 hi g n cap cur hg ⟨g0, 0, none⟩ 1 c news hl2 hnews' h1 hroom hfit
      rw [hr] at hr2
      injection hr2 with e1 e2
      left; rw [e1]; rfl
    · have hlo : xs.length = n * i.size := by rw [hs]; exact hown.1
      have hr2 := run_append_grow (P := Tryd.prog) w 57 ty 55 i (.agg Z6) Tryd.underlying57 hi hz ⟨g, 0, none⟩ n cap xs hlo (hown.cells (g := g) rfl) ⟨g0, 0, none⟩ 1 c news hl2 hnews' (by omega) (by omega) (growslice_fits (by omega) (by rw [hb]; omega))
      rw [hr] at hr2
      injection hr2 with e1 e2
      right; rw [e1]; rfl

theorem wp_appO {o : Oper} {a : Act} {w : World} {K : Act → World → Prop} {Q : Exit → Act → World → Prop} (s x : Operand)
    (ho : o.op = .call { callee := .builtin .append, args := #[s, x], argTypes := #[57, 57] }) (B : Nat) (v : Value) (n : Nat) (xs : List Value) (hs : a.eval s = v) (hown : w.ownsRow B 55 6 v n xs)
    (g0 c : Nat) (hx : a.eval x = .slice (some ⟨g0, 0, none⟩) 1 c) (news : List Value) (hl : news.length = 6)
    (hnews : ∀ j u, news[j]? = some u → w.cell? ⟨g0, j, none⟩ = some u) (h1 : ∀ u ∈ news, u.oneCell' = true) (hn : n + 1 ≤ 1000000000) (hB : B ≤ w.heap.size)
    (h : ∀ v' w', w'.ownsRow B 55 6 v' (n + 1) (xs ++ news) → w.grownBy w' v.ownBlock → (v'.ownBlock = v.ownBlock ∨ v'.ownBlock = some w.heap.size) → K (a.put o.dst v') w') : o.wp Tryd.prog a w K Q := by
  obtain ⟨v', w', hr, h2, h3, h4⟩ := run_appO w B o.type v n xs hown g0 c news hl hnews h1 hn hB
  unfold Oper.wp execOp
  simp only [ho, resolve, invoke, builtin, Sem.run_bind, Sem.run_pure, Result.andThen_ok, List.map_toArray, List.map_cons, List.map_nil, hs, hx, hr]
  exact h v' w' h2 h3 h4
/-- What append makes of the stack. -/
theorem StackAt.push {D : Nat → Prop} {B : Nat} {w0 w : World} {v : Value} {e : En} {r : List En} (h : StackAt D B w0 v e r) (hb : Below w0.heap.size w0 w) {f : En} {lv : Value} (hl : OwnS D B w lv f.ds) (hlf : ∀ x, lv.ownBlock = some x → w0.heap.size ≤ x) :
    ∃ xs, w.ownsRow B 55 6 v (r.length + 1) xs ∧ ∀ v' w', w'.ownsRow B 55 6 v' (r.length + 1 + 1) (xs ++ [.int .i64 4, .string ⟨#[]⟩, .slice none 0 0, lv, .int .i64 f.pl, .bool f.q]) → w.grownBy w' v.ownBlock → (v'.ownBlock = v.ownBlock ∨ v'.ownBlock = some w.heap.size) →
      StackAt D B w' v' f (e :: r) := by
  obtain ⟨g, c, xs, rfl, ho0, hgD, hD0, hE0⟩ := h
  have hs0 := hb.size
  have ho : w.ownsRow B 55 6 (.slice (some ⟨g, 0, none⟩) (r.length + 1) c) (r.length + 1) xs := by
    refine ⟨ho0.1, ?_⟩
    rcases ho0.2 with h | ⟨g1, cap, cur, e1, hB, hh, r⟩
    · exact .inl h
    · exact .inr ⟨g1, cap, cur, e1, hB, by rw [hb.block _ (Array.getElem?_eq_some_iff.1 hh).1]; exact hh, r⟩
  have hg0 := (ho0.lt g rfl).2
  have hD : ∀ x, D x → B ≤ x ∧ x < w.heap.size := fun x hx => ⟨(hD0 x hx).1, by have := (hD0 x hx).2; omega⟩
  have hlD : ∀ x, lv.ownBlock = some x → ¬ D x ∧ some g ≠ some x := fun x hx => by
    have h1 := hlf x hx
    exact ⟨fun h => by have := (hD0 x h).2; omega, fun h => by injection h with h; omega⟩
  have hE : Ents D B w xs (e :: r) (fun x => (D x ∨ some g = some x) ∨ lv.ownBlock = some x) := by
    have h1 : Ents D B w0 xs (e :: r) (fun x => (D x ∨ some g = some x) ∨ lv.ownBlock = some x) := Ents.fresh (fun _ h => h) (e :: r) _ _ hE0 (fun x hx h => by
      rcases h with (h | h) | h
      · exact .inl h
      · injection h with h; exact .inr h.symm
      · have := hlf x h; omega)
    exact Ents.move (e :: r) _ h1 (fun _ _ => rfl) (fun x hx _ => hb.block x hx)
  refine ⟨xs, ho, fun v' w' ho' hg hv => ?_⟩
  have hgb : (Value.slice (some ⟨g, 0, none⟩) (r.length + 1) c).ownBlock = some g := rfl
  rw [hgb] at hv hg
  have hs := hg.size
  have hgl := ho.lt g hgb
  rcases ho'.2 with ⟨_, hz⟩ | ⟨g', c', cur, rfl, hB', hh, hnc, hcm, hcs, ht⟩
  · omega
  have e' : (Value.slice (some ⟨g', 0, none⟩) (r.length + 1 + 1) c').ownBlock = some g' := rfl
  rw [e'] at hv
  have hg' : g' = g ∨ g' = w.heap.size := by
    rcases hv with e | e <;> injection e with e
    · exact .inl e
    · exact .inr e
  have hxl : xs.length = (r.length + 1) * 6 := ho.1
  have get : ∀ i u, ([.int .i64 4, .string ⟨#[]⟩, .slice none 0 0, lv, .int .i64 f.pl, .bool f.q] : List Value)[i]? = some u → (xs ++ [.int .i64 4, .string ⟨#[]⟩, .slice none 0 0, lv, .int .i64 f.pl, .bool f.q])[(r.length + 1) * 6 + i]? = some u := fun i u hu => by
    rw [List.getElem?_append_right (by omega), show (r.length + 1) * 6 + i - xs.length = i by omega]; exact hu
  have old : ∀ x, x < w.heap.size → x ≠ g → w'.heap[x]? = w.heap[x]? := fun x hx hn => hg.block x hx (fun e => by injection e with e; exact hn e)
  refine ⟨g', c', _, rfl, ho', ?_, fun x hx => ⟨(hD x hx).1, by have := (hD x hx).2; omega⟩, lv, 4, ⟨get 0 _ rfl, get 1 _ rfl, get 2 _ rfl, get 3 _ rfl, get 4 _ rfl, get 5 _ rfl⟩, fun _ => rfl, ?_, ?_, ?_⟩
  · rcases hg' with rfl | rfl
    · exact hgD
    · intro h; have := (hD _ h).2; omega
  · refine hl.keep (fun x c2 hx hh2 => ?_) (fun x c2 T fz hx hh2 _ => ⟨fz, ?_⟩)
    · rw [old x (Array.getElem?_eq_some_iff.1 hh2).1 (fun e => (hlD x hx).2 (by rw [e]))]; exact hh2
    · rw [old x (Array.getElem?_eq_some_iff.1 hh2).1 (fun e => hgD (e ▸ hx))]; exact hh2
  · rintro x hx (h | h)
    · exact (hlD x hx).1 h
    · have h2 := (hl.lt hx).2
      rcases hg' with e | e
      · exact (hlD x hx).2 (by rw [h, e])
      · omega
  · have h1 := hE
    have h2 : Ents D B w' (xs ++ [.int .i64 4, .string ⟨#[]⟩, .slice none 0 0, lv, .int .i64 f.pl, .bool f.q]) (e :: r) _ := Ents.move (e :: r) _ (Ents.fresh (U' := fun x => ((D x ∨ some g = some x) ∨ lv.ownBlock = some x) ∨ x = g') (fun _ h => h) (e :: r) _ h1 (fun x hx h => ?_)) (fun i hi => by rw [List.getElem?_append_left (by simp at hi; omega)]) (fun x hx hd => ?_)
    · refine Ents.fresh (fun _ h => h) (e :: r) _ _ h2 (fun x _ h => ?_)
      rcases h with (h | h) | h
      · exact .inl (.inl (.inl h))
      · exact .inr h
      · exact .inl (.inr h)
    · rcases h with h | h
      · exact h
      · rcases hg' with e | e
        · exact .inl (.inr (by rw [h, e]))
        · omega
    · refine old x hx (fun e => ?_)
      rcases hd with h | h
      · exact hgD (e ▸ h)
      · exact h (.inl (.inl (.inr (by rw [e]))))
end Go.Proofs.YtahdiknkcgnieaaDoor
namespace Go.Proofs.YtahdiknkcgnieaaDoor
open Go.RowKit Go.BigM
theorem tokOf_pos {l : List UInt8} {k : Int} {t : ByteArray} {m : Nat} (h : tokOf l = some (k, t, m)) : 1 ≤ m := by
  unfold tokOf at h
  split at h
  · cases hb : boolOf l with
    | none => rw [hb] at h; cases h
    | some b => rw [hb] at h; injection h with h; injection h with _ h; injection h with _ h; omega
  · split at h
    · cases h
    · split at h
      · split at h
        · injection h with h; injection h with _ h; injection h with _ h; omega
        · cases h
      · split at h
        · cases h
        · injection h with h; injection h with _ h; injection h with _ h; omega
end Go.Proofs.YtahdiknkcgnieaaDoor
