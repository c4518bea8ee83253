/- Rows of limbs as cells of a block. -/
import Derived.Test.YtebadokchhnmfaaDoorA
import Derived.Deep.Draws
namespace Go.Proofs.YtebadokchhnmfaaDoor
open Go.RowKit Go.BigM
set_option linter.unusedVariables false

/-- Limbs as cells. -/
def U (l : List Nat) : Array Value := (l.map fun (n : Nat) => Value.int .u32 (n : Int)).toArray

theorem U_size (l : List Nat) : (U l).size = l.length := by simp [U]
theorem U_get (l : List Nat) (j : Nat) (h : j < l.length) : (U l)[j]? = some (.int .u32 (lg l j : Nat)) := by
  unfold U lg
  rw [List.getElem?_toArray, List.getElem?_map, List.getD_eq_getElem?_getD, List.getElem?_eq_getElem h]; rfl
theorem U_set (l : List Nat) (j n : Nat) : (U l).setIfInBounds j (.int .u32 n) = U (l.set j n) := by
  unfold U
  rw [List.setIfInBounds_toArray, List.map_set]
theorem lg_lt {l : List Nat} (h : Small l) (j : Nat) : lg l j < 1000000000 := h.getD j
theorem U_one (l : List Nat) : (U l).all (·.oneCell') = true := by
  unfold U
  simp [Value.oneCell']

theorem setRow_self (w : World) (g : Nat) (cs : Array Value) (t : TypeId) (fr : Nat × Nat) (hg : w.heap[g]? = some (.cells cs t fr)) : w.setRow g cs = w := by
  have hlt : g < w.heap.size := (Array.getElem?_eq_some_iff.1 hg).1
  have hv : w.heap[g] = .cells cs t fr := (Array.getElem?_eq_some_iff.1 hg).2
  unfold World.setRow
  cases w with
  | mk heap tape drawn os output =>
    congr 1
    apply Array.ext
    · simp
    · intro k h1 h2
      simp only [Array.getElem_modify]
      split
      · rename_i hk; subst hk; simp at hv; simp [hv]
      · rfl

/-- A block of limbs, not frozen. -/
def Row (w : World) (g : Nat) (l : List Nat) (t : TypeId) : Prop := w.heap[g]? = some (.cells (U l) t (0, 0))
theorem Row.cell {w : World} {g : Nat} {l : List Nat} {t : TypeId} (h : Row w g l t) (j : Nat) (hj : j < l.length) : w.cell? ⟨g, j, none⟩ = some (.int .u32 (lg l j : Nat)) := by
  rw [cell_of_row w g j _ t _ h, U_get l j hj]
theorem Row.free {w : World} {g : Nat} {l : List Nat} {t : TypeId} (h : Row w g l t) (j : Nat) : w.frozen? ⟨g, j, none⟩ = false := frozen_of_row w g j _ t h
theorem Row.set {w : World} {g : Nat} {l : List Nat} {t : TypeId} (h : Row w g l t) (l' : List Nat) : Row (w.setRow g (U l')) g l' t := setRow_heap w g _ _ t _ h
theorem Row.setCell {w : World} {g : Nat} {l : List Nat} {t : TypeId} (h : Row w g l t) (j n : Nat) : w.setCell ⟨g, j, none⟩ (.int .u32 n) = w.setRow g (U (l.set j n)) := by
  rw [setCell_eq_setRow w g j _ t _ _ h, U_set]
theorem Row.setSet {w : World} {g : Nat} {l : List Nat} {t : TypeId} (h : Row w g l t) (l' : List Nat) (j n : Nat) : (w.setRow g (U l')).setCell ⟨g, j, none⟩ (.int .u32 n) = w.setRow g (U (l'.set j n)) := by
  rw [(h.set l').setCell, setRow_setRow]
theorem Row.self {w : World} {g : Nat} {l : List Nat} {t : TypeId} (h : Row w g l t) : w.setRow g (U l) = w := setRow_self w g _ t _ h

/-- The place at hand of a row whose head has been written. -/
theorem lg_mid (X R Y : List Nat) (j : Nat) (h : j = X.length + R.length) : lg (X ++ R ++ Y) j = lg Y 0 := by
  subst h; unfold lg
  rw [List.getD_eq_getElem?_getD, List.getD_eq_getElem?_getD, List.getElem?_append_right (by simp)]
  simp
theorem set_mid (X R Y : List Nat) (j n : Nat) (h : j = X.length + R.length) (hY : Y ≠ []) : (X ++ R ++ Y).set j n = X ++ (R ++ [n]) ++ Y.tail := by
  subst h
  rw [List.set_append_right _ _ (by simp)]
  cases Y with
  | nil => exact absurd rfl hY
  | cons y Y => simp
theorem lg_drop (L : List Nat) (k : Nat) : lg (L.drop k) 0 = lg L k := by
  unfold lg; rw [List.getD_eq_getElem?_getD, List.getD_eq_getElem?_getD, List.getElem?_drop]; simp
theorem tail_drop (L : List Nat) (k : Nat) : (L.drop k).tail = L.drop (k + 1) := by simp

/-- The noughts of a new array of limbs. -/
def Z46 : List Nat := List.replicate 46 0
theorem U_zeros : (#[Value.int IntKind.u32 0, Value.int IntKind.u32 0, Value.int IntKind.u32 0, Value.int IntKind.u32 0, Value.int IntKind.u32 0, Value.int IntKind.u32 0, Value.int IntKind.u32 0, Value.int IntKind.u32 0, Value.int IntKind.u32 0, Value.int IntKind.u32 0, Value.int IntKind.u32 0, Value.int IntKind.u32 0, Value.int IntKind.u32 0, Value.int IntKind.u32 0, Value.int IntKind.u32 0, Value.int IntKind.u32 0, Value.int IntKind.u32 0, Value.int IntKind.u32 0, Value.int IntKind.u32 0, Value.int IntKind.u32 0, Value.int IntKind.u32 0, Value.int IntKind.u32 0, Value.int IntKind.u32 0, Value.int IntKind.u32 0, Value.int IntKind.u32 0, Value.int IntKind.u32 0, Value.int IntKind.u32 0, Value.int IntKind.u32 0, Value.int IntKind.u32 0, Value.int IntKind.u32 0, Value.int IntKind.u32 0, Value.int IntKind.u32 0, Value.int IntKind.u32 0, Value.int IntKind.u32 0, Value.int IntKind.u32 0, Value.int IntKind.u32 0, Value.int IntKind.u32 0, Value.int IntKind.u32 0, Value.int IntKind.u32 0, Value.int IntKind.u32 0, Value.int IntKind.u32 0, Value.int IntKind.u32 0, Value.int IntKind.u32 0, Value.int IntKind.u32 0, Value.int IntKind.u32 0, Value.int IntKind.u32 0] : Array Value) = U Z46 := rfl
theorem Z46_len : Z46.length = 46 := rfl
theorem Z46_small : Small Z46 := Small.zeros 46
theorem Z46_val : lval Z46 = 0 := lval_zeros 46

theorem Row.alloc {w : World} {g : Nat} {l : List Nat} {t : TypeId} (h : Row w g l t) (o : Obj) : Row (w.alloc o) g l t := by
  unfold Row at *
  rw [Below.heap_alloc w o g ((Array.getElem?_eq_some_iff.1 h).1)]; exact h
theorem Row.new (w : World) (l : List Nat) (t : TypeId) : Row (w.alloc (.cells (U l) t)) w.heap.size l t := by show (w.heap.push _)[w.heap.size]? = _; simp
theorem Row.new' (w : World) (l : List Nat) (t : TypeId) (g : Nat) (hg : g = w.heap.size) : Row (w.alloc (.cells (U l) t)) g l t := by subst hg; exact Row.new w l t
theorem Row.other {w : World} {g h : Nat} {l : List Nat} {t : TypeId} (k : Row w g l t) (cs : Array Value) (hne : g ≠ h) : Row (w.setRow h cs) g l t := by
  unfold Row at *
  rw [setRow_other w h g cs hne]; exact k
theorem Row.drewN {w : World} {g : Nat} {l : List Nat} {t : TypeId} (k : Row w g l t) (n : Nat) : Row (w.drewN n) g l t := k
theorem Row.below {w w' : World} {g n : Nat} {l : List Nat} {t : TypeId} (k : Row w g l t) (hb : Below n w w') (hg : g < n) : Row w' g l t := by
  unfold Row at *
  rw [hb.block g hg]; exact k
theorem Row.cells {w : World} {g : Nat} {l : List Nat} {t : TypeId} (h : Row w g l t) (n : Nat) (hn : n ≤ l.length) : ∀ j, j < n → w.cell? ⟨g, 0 + j, none⟩ = some (.int .u32 (lg l j : Nat)) := by
  intro j hj; rw [Nat.zero_add]; exact h.cell j (by omega)
theorem below_setRow {b : Nat} {a w : World} (h : Below b a w) (g : Nat) (cs : Array Value) (hg : b ≤ g) : Below b a (w.setRow g cs) :=
  h.trans ⟨rfl, rfl, rfl, by simp, fun k hk => setRow_other w g k cs (by omega)⟩
theorem below_drewN {b : Nat} {a w : World} (h : Below b a w) (n : Nat) : Below b a (w.drewN n) :=
  h.trans ⟨rfl, rfl, rfl, Nat.le_refl _, fun _ _ => rfl⟩

/-- Two rows that are boxed, one of noughts behind them. -/
theorem three_rows (w : World) (L M : List Nat) : 
    Row (((w.alloc (.cells (U L) 47)).alloc (.cells (U M) 47)).alloc (.cells (U Z46) 47)) w.heap.size L 47 ∧
    Row (((w.alloc (.cells (U L) 47)).alloc (.cells (U M) 47)).alloc (.cells (U Z46) 47)) (w.heap.size + 1) M 47 ∧
    Row (((w.alloc (.cells (U L) 47)).alloc (.cells (U M) 47)).alloc (.cells (U Z46) 47)) (w.heap.size + 1 + 1) Z46 47 ∧
    Below w.heap.size w (((w.alloc (.cells (U L) 47)).alloc (.cells (U M) 47)).alloc (.cells (U Z46) 47)) :=
  ⟨((Row.new _ _ _).alloc _).alloc _, (Row.new' _ _ _ _ (by simp)).alloc _, Row.new' _ _ _ _ (by simp),
    (((Below.refl _ _).alloc (by simp) _).alloc (by simp) _).alloc (by simp; omega) _⟩
end Go.Proofs.YtebadokchhnmfaaDoor
