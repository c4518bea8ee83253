/- Rules: a row of bindings that a call is given, and puts bindings behind. -/
import Derived.Test.YtecljchifebljaaYAC
import Derived.Test.YtecljchifebljaaYAL
import Derived.Test.YtecljchifebljaaYAE
import Derived.Test.YtecljchifebljaaYAB
import Derived.OwnWalk
import Derived.Laws.AppendOwn
import Derived.OwnWalkIn
import Derived.TacticsInMore
set_option linter.unusedVariables false
set_option linter.unusedSimpArgs false
namespace Go.Proofs.Ytecljchifebljaa
open Go.RowKit
def ZB : Array Value := #[.int .i64 0, .string ⟨#[]⟩, .slice none 0 0, .slice none 0 0, .int .i64 0, .int .i64 0, .int .i64 0, .string ⟨#[]⟩, .slice none 0 0, .slice none 0 0, .int .i64 0, .slice none 0 0]
end Go.Proofs.Ytecljchifebljaa
namespace Go.Proofs.Ytecljchifebljaa
open Go.RowKit
/-- The newest mark; 0 of none. -/
def lastM (ms : List Int) : Int := ms.getLastD 0
/-- A key's three fields. -/
def keyV (d : Dt) : Array Value := #[.string d.text, .int .i64 (d.marks.length : Int), .int .i64 (lastM d.marks)]
def RetKey (d : Dt) (w : World) (e : Ending) (w' : World) : Prop := e = .returned (.agg (keyV d)) ∧ Below w.heap.size w w'
theorem lastM_at (ms : List Int) (h : 0 < ms.length) : lastM ms = ms[ms.length - 1]'(by omega) := by
 unfold lastM
 rw [List.getLastD_eq_getLast?, List.getLast?_eq_getElem?, List.getElem?_eq_getElem (by omega)]; rfl
theorem infoK : (Try.prog.info? 120).map (·.size) = some 3 := by kernel_rfl
theorem second2 (w : World) (A B : Obj) : ((w.alloc A).alloc B).heap[w.heap.size + 1]? = some B := by
 have h := heap_alloc_new (w.alloc A) B
 have e : (w.alloc A).heap.size = w.heap.size + 1 := by simp
 rw [e] at h; exact h
set_option maxHeartbeats 16000000 in
set_option maxRecDepth 100000 in
theorem keyOf_any {S : Nat → Prop} {w : World} {d : Dt} {cs : Array Value} (hd : Dt.At S w d cs) : Calls Try.prog 69 #[.agg cs] w (RetKey d w) := by
 obtain ⟨k, t, ms, l, p⟩ := d
 rw [At_mk] at hd
 obtain ⟨mv, lv, rfl, hm, hl⟩ := hd
 have hm1 := hm.one
 obtain ⟨ao, cap, rfl⟩ := hm.form
 have hms := hm.short
 have HM := Lib.hid hm
 have hl1 : lv.oneCell' = true := by
  rcases hl with ⟨rfl, _⟩ | ⟨g, o, cap, arr, fz, rfl, _⟩ <;> rfl
 clear hl hm
 go_enter Try.func69, Try.ntmps69
 obtain ⟨nm, hnm⟩ : ∃ n, n = ms.length := ⟨_, rfl⟩
 by_cases h0 : 0 < ms.length
 ·obtain ⟨g, o, rfl, hc⟩ := HM.out.get (ms.length - 1) (by omega)
  have hg : g < w.heap.size := World.block_lt_of_cell? w _ hc
  have hB : Below w.heap.size w (((w.alloc (.cells #[.int .i64 k, .string t, .slice (some ⟨g, o, none⟩) ms.length cap, lv, .int .i64 p] 29)).alloc (.cells #[.string ⟨#[]⟩, .int .i64 0, .int .i64 0] 120)).alloc (.cells #[.string t, .int .i64 (ms.length : Int), .int .i64 0] 120)) := (((Below.refl _ _).alloc (Nat.le_refl _) _).alloc (by simp) _).alloc (by simp; omega) _
  have hc' : (((w.alloc (.cells #[.int .i64 k, .string t, .slice (some ⟨g, o, none⟩) ms.length cap, lv, .int .i64 p] 29)).alloc (.cells #[.string ⟨#[]⟩, .int .i64 0, .int .i64 0] 120)).alloc (.cells #[.string t, .int .i64 (ms.length : Int), .int .i64 0] 120)).cell? ⟨g, o + (ms.length - 1), none⟩ = some (.int .i64 ms[ms.length - 1]) := (hB.cell (p := ⟨g, o + (ms.length - 1), none⟩) hg).trans hc
  have HB := Lib.hid hB
  clear hB
  go_wp2_with fail
  refine bodyPost_ret (results_cell_row rfl _ _ (w.heap.size + 1) 120 #[.string t, .int .i64 (ms.length : Int), .int .i64 ms[ms.length - 1]] (0, 0) _ rfl ((Lib.alloc_old _ _ _ (by simp)).trans (second2 w _ _)) Try.underlying120 rfl infoK) rfl ?_
  refine ⟨by rw [keyV]; simp only [Dt.text, Dt.marks, lastM_at ms h0], ?_⟩
  exact (((Below.refl _ _).alloc (Nat.le_refl _) _).alloc (by simp) _).alloc (by simp; omega) _
 ·obtain rfl : ms = [] := List.length_eq_zero_iff.1 (by omega)
  go_wp2_with fail
  refine bodyPost_ret (results_cell_row rfl _ _ (w.heap.size + 1) 120 #[.string t, .int .i64 0, .int .i64 0] (0, 0) _ rfl ((Lib.alloc_old _ _ _ (by simp)).trans (second2 w _ _)) Try.underlying120 rfl infoK) rfl ?_
  refine ⟨rfl, ?_⟩
  exact (((Below.refl _ _).alloc (Nat.le_refl _) _).alloc (by simp) _).alloc (by simp; omega) _
end Go.Proofs.Ytecljchifebljaa
namespace Go.Proofs.Ytecljchifebljaa
open Go.RowKit
mutual
/-- The twelve cells cs are this binding; all blocks that it leads to are some of S. -/
def Bd.PAt (S : Nat → Prop) (w : World) : Bd → Array Value → Prop
 | .mk n q d l, cs => ∃ m1 l1 m2 l2 lv, cs = (n.five m1 l1 ++ [Value.int .i64 q] ++ d.five m2 l2 ++ [lv]).toArray ∧ Dt.At S w n (n.five m1 l1).toArray ∧ Dt.At S w d (d.five m2 l2).toArray ∧
   ((lv = .slice none 0 0 ∧ l = []) ∨ ∃ g o cap arr fz, lv = .slice (some ⟨g, o, none⟩) l.length cap ∧ S g ∧ w.heap[g]? = some (.cells arr 60 fz) ∧ Bds.PAt S w l arr o)
/-- From place o on the cells of a row are these bindings, one behind the other. -/
def Bds.PAt (S : Nat → Prop) (w : World) : List Bd → Array Value → Nat → Prop
 | [], _, _ => True
 | b :: l, arr, o => (∃ cs, (∀ i, i < 12 → arr[o + i]? = cs[i]?) ∧ Bd.PAt S w b cs) ∧ Bds.PAt S w l arr (o + 12)
end
/-- A slice of bindings that reads as l. -/
def PsAt (S : Nat → Prop) (w : World) (lv : Value) (l : List Bd) : Prop :=
 (lv = .slice none 0 0 ∧ l = []) ∨ ∃ g o cap arr fz, lv = .slice (some ⟨g, o, none⟩) l.length cap ∧ S g ∧ w.heap[g]? = some (.cells arr 60 fz) ∧ Bds.PAt S w l arr o
theorem BdPAt_mk (S : Nat → Prop) (w : World) (n : Dt) (q : Int) (d : Dt) (l : List Bd) (cs : Array Value) :
  Bd.PAt S w (.mk n q d l) cs ↔ ∃ m1 l1 m2 l2 lv, cs = (n.five m1 l1 ++ [Value.int .i64 q] ++ d.five m2 l2 ++ [lv]).toArray ∧ Dt.At S w n (n.five m1 l1).toArray ∧ Dt.At S w d (d.five m2 l2).toArray ∧ PsAt S w lv l := by
 unfold Bd.PAt PsAt; rfl
mutual
theorem Bd.PAt.keeps {S : Nat → Prop} {w w' : World} (k : KeepsB S w w') : ∀ (b : Bd) (cs : Array Value), Bd.PAt S w b cs → Bd.PAt S w' b cs
 | .mk n q d l, cs, h => by
  rw [BdPAt_mk] at h ⊢
  obtain ⟨m1, l1, m2, l2, lv, e, hn, hd, hl⟩ := h
  refine ⟨m1, l1, m2, l2, lv, e, hn.keeps k.keeps, hd.keeps k.keeps, ?_⟩
  rcases hl with hl | ⟨g, o, cap, arr, fz, h1, h2, h3, h4⟩
  ·exact .inl hl
  ·obtain ⟨fz', h5⟩ := k g arr 60 fz h2 h3
   exact .inr ⟨g, o, cap, arr, fz', h1, h2, h5, Bds.PAt.keeps k l arr o h4⟩
theorem Bds.PAt.keeps {S : Nat → Prop} {w w' : World} (k : KeepsB S w w') : ∀ (l : List Bd) (arr : Array Value) (o : Nat), Bds.PAt S w l arr o → Bds.PAt S w' l arr o
 | [], _, _, _ => by unfold Bds.PAt; trivial
 | b :: l, arr, o, h => by
  unfold Bds.PAt at h ⊢
  obtain ⟨⟨cs, hc, hd⟩, hr⟩ := h
  exact ⟨⟨cs, hc, Bd.PAt.keeps k b cs hd⟩, Bds.PAt.keeps k l arr (o + 12) hr⟩
end
mutual
theorem Bd.PAt.mono {S T : Nat → Prop} {w : World} (k : ∀ g, S g → T g) : ∀ (b : Bd) (cs : Array Value), Bd.PAt S w b cs → Bd.PAt T w b cs
 | .mk n q d l, cs, h => by
  rw [BdPAt_mk] at h ⊢
  obtain ⟨m1, l1, m2, l2, lv, e, hn, hd, hl⟩ := h
  refine ⟨m1, l1, m2, l2, lv, e, hn.mono k, hd.mono k, ?_⟩
  rcases hl with hl | ⟨g, o, cap, arr, fz, h1, h2, h3, h4⟩
  ·exact .inl hl
  ·exact .inr ⟨g, o, cap, arr, fz, h1, k g h2, h3, Bds.PAt.mono k l arr o h4⟩
theorem Bds.PAt.mono {S T : Nat → Prop} {w : World} (k : ∀ g, S g → T g) : ∀ (l : List Bd) (arr : Array Value) (o : Nat), Bds.PAt S w l arr o → Bds.PAt T w l arr o
 | [], _, _, _ => by unfold Bds.PAt; trivial
 | b :: l, arr, o, h => by
  unfold Bds.PAt at h ⊢
  obtain ⟨⟨cs, hc, hd⟩, hr⟩ := h
  exact ⟨⟨cs, hc, Bd.PAt.mono k b cs hd⟩, Bds.PAt.mono k l arr (o + 12) hr⟩
end
theorem Bds.PAt.get {S : Nat → Prop} {w : World} : ∀ (l : List Bd) (arr : Array Value) (o : Nat), Bds.PAt S w l arr o → ∀ j (h : j < l.length), ∃ cs, (∀ i, i < 12 → arr[o + 12 * j + i]? = cs[i]?) ∧ Bd.PAt S w l[j] cs
 | [], _, _, _, j, h => by simp at h
 | b :: l, arr, o, H, j, h => by
  unfold Bds.PAt at H
  cases j with
  | zero => simpa using H.1
  | succ j =>
   obtain ⟨cs, h1, h2⟩ := Bds.PAt.get l arr (o + 12) H.2 j (by simpa using h)
   exact ⟨cs, fun i hi => by rw [← h1 i hi]; congr 1; omega, h2⟩
theorem Bds.PAt.of_get {S : Nat → Prop} {w : World} : ∀ (l : List Bd) (arr : Array Value) (o : Nat), (∀ j (h : j < l.length), ∃ cs, (∀ i, i < 12 → arr[o + 12 * j + i]? = cs[i]?) ∧ Bd.PAt S w l[j] cs) → Bds.PAt S w l arr o
 | [], _, _, _ => by unfold Bds.PAt; trivial
 | b :: l, arr, o, H => by
  unfold Bds.PAt
  refine ⟨?_, Bds.PAt.of_get l arr (o + 12) fun j h => ?_⟩
  ·have := H 0 (by simp)
   simpa using this
  ·obtain ⟨cs, h1, h2⟩ := H (j + 1) (by simpa using h)
   exact ⟨cs, fun i hi => by rw [← h1 i hi]; congr 1; omega, by simpa using h2⟩
theorem PsAt.keeps {S : Nat → Prop} {w w' : World} {lv : Value} {l : List Bd} (h : PsAt S w lv l) (k : KeepsB S w w') : PsAt S w' lv l := by
 rcases h with h | ⟨g, o, cap, arr, fz, h1, h2, h3, h4⟩
 ·exact .inl h
 ·obtain ⟨fz', h5⟩ := k g arr 60 fz h2 h3
  exact .inr ⟨g, o, cap, arr, fz', h1, h2, h5, Bds.PAt.keeps k l arr o h4⟩
theorem PsAt.mono {S T : Nat → Prop} {w : World} {lv : Value} {l : List Bd} (h : PsAt S w lv l) (k : ∀ g, S g → T g) : PsAt T w lv l := by
 rcases h with h | ⟨g, o, cap, arr, fz, h1, h2, h3, h4⟩
 ·exact .inl h
 ·exact .inr ⟨g, o, cap, arr, fz, h1, k g h2, h3, Bds.PAt.mono k l arr o h4⟩
theorem PsAt.form {S : Nat → Prop} {w : World} {v : Value} {l : List Bd} (h : PsAt S w v l) : ∃ ao c, v = .slice ao l.length c := by
 rcases h with ⟨rfl, rfl⟩ | ⟨g, o, cap, arr, fz, rfl, _⟩
 ·exact ⟨none, 0, rfl⟩
 ·exact ⟨_, _, rfl⟩
theorem PsAt.one {S : Nat → Prop} {w : World} {v : Value} {l : List Bd} (h : PsAt S w v l) : v.oneCell' = true := by
 obtain ⟨ao, c, rfl⟩ := h.form; rfl
/-- The twelve cells of a binding, one by one. -/
theorem BdPAt_twelve {S : Nat → Prop} {w : World} {b : Bd} {cs : Array Value} (h : Bd.PAt S w b cs) : ∃ m1 l1 m2 l2 lv, cs = #[.int .i64 b.name.kind, .string b.name.text, m1, l1, .int .i64 b.name.place, .int .i64 b.deep, .int .i64 b.dat.kind, .string b.dat.text, m2, l2, .int .i64 b.dat.place, lv] ∧
  Dt.At S w b.name #[.int .i64 b.name.kind, .string b.name.text, m1, l1, .int .i64 b.name.place] ∧ Dt.At S w b.dat #[.int .i64 b.dat.kind, .string b.dat.text, m2, l2, .int .i64 b.dat.place] ∧ PsAt S w lv b.rows ∧
  m1.oneCell' = true ∧ l1.oneCell' = true ∧ m2.oneCell' = true ∧ l2.oneCell' = true ∧ lv.oneCell' = true := by
 cases b with
 | mk n q d l =>
  rw [BdPAt_mk] at h
  obtain ⟨m1, l1, m2, l2, lv, e, hn, hd, hl⟩ := h
  exact ⟨m1, l1, m2, l2, lv, by rw [e]; simp [Dt.five, Bd.name, Bd.deep, Bd.dat], hn, hd, hl, (At_one hn).1, (At_one hn).2, (At_one hd).1, (At_one hd).2, hl.one⟩
theorem PsAt.get {S : Nat → Prop} {w : World} {ao : Option Addr} {n cap : Nat} {l : List Bd} (h : PsAt S w (.slice ao n cap) l) (j : Nat) (hj : j < l.length) :
  ∃ g o arr fz cs, ao = some ⟨g, o, none⟩ ∧ S g ∧ w.heap[g]? = some (.cells arr 60 fz) ∧ (∀ i, i < 12 → w.cell? ⟨g, o + j * 12 + i, none⟩ = cs[i]?) ∧ Bd.PAt S w l[j] cs := by
 rcases h with ⟨_, rfl⟩ | ⟨g, o, cap', arr, fz, e, hS, hg, hd⟩
 ·simp at hj
 ·injection e with e1 e2 e3
  subst e1
  obtain ⟨cs, h1, h2⟩ := Bds.PAt.get l arr o hd j hj
  exact ⟨g, o, arr, fz, cs, rfl, hS, hg, fun i hi => by rw [Lib.cell_of_heap hg, show o + j * 12 + i = o + 12 * j + i by omega]; exact h1 i hi, h2⟩
end Go.Proofs.Ytecljchifebljaa
namespace Go.Proofs.Ytecljchifebljaa
open Go Go.RowKit
/-- The places of the parts that are no dots, from place i on. -/
def pixF : List Dt → Nat → List Nat
 | [], _ => []
 | d :: r, i => if d.dots = true then pixF r (i + 1) else i :: pixF r (i + 1)
def pix (l : List Dt) : List Nat := pixF l 0
theorem pixF_mem : ∀ (l : List Dt) (i j : Nat), j ∈ pixF l i → i ≤ j ∧ j < i + l.length
 | [], _, _, h => by simp [pixF] at h
 | d :: r, i, j, h => by
  unfold pixF at h
  split at h
  ·have := pixF_mem r (i + 1) j h; simp only [List.length_cons]; omega
  ·rcases List.mem_cons.1 h with rfl | h
   ·simp
   ·have := pixF_mem r (i + 1) j h; simp only [List.length_cons]; omega
theorem pix_lt {l : List Dt} {k : Nat} (h : k < (pix l).length) : (pix l)[k] < l.length := by
 have := pixF_mem l 0 _ (List.getElem_mem h); omega
/-- The k-th part, as yield is handed it. -/
def partA (cf : Nat → Array Value) (l : List Dt) (k : Nat) : Array Value :=
 match (pix l)[k]? with
 | some j => #[.agg (cf j), .bool (nxtDots (l.drop (j + 1)))]
 | none => #[.agg #[], .bool false]
theorem partA_size (cf : Nat → Array Value) (l : List Dt) (k : Nat) : (partA cf l k).size = 2 := by
 unfold partA; split <;> rfl
theorem partA_at (cf : Nat → Array Value) (l : List Dt) (k : Nat) (h : k < (pix l).length) : partA cf l k = #[.agg (cf (pix l)[k]), .bool (nxtDots (l.drop ((pix l)[k] + 1)))] := by
 unfold partA; rw [List.getElem?_eq_getElem h]
/-- cf tells the cells of l's parts. -/
def CfAt (S : Nat → Prop) (w : World) (lv : Value) (l : List Dt) (cf : Nat → Array Value) : Prop :=
 ∀ j (h : j < l.length), Dt.At S w l[j] (cf j) ∧ ∀ g o n c, lv = .slice (some ⟨g, o, none⟩) n c → S g ∧ ∀ i, i < 5 → w.cell? ⟨g, o + j * 5 + i, none⟩ = (cf j)[i]?
theorem CfAt.of {S : Nat → Prop} {w : World} {lv : Value} {l : List Dt} (h : LAt S w lv l) : ∃ cf, CfAt S w lv l cf := by
 obtain ⟨ao, cap, rfl⟩ := h.form
 refine ⟨fun j => if hj : j < l.length then (let H := h.get j hj; (match ao with | some a => #[(w.cell? ⟨a.block, a.off + j * 5, none⟩).getD undef, (w.cell? ⟨a.block, a.off + j * 5 + 1, none⟩).getD undef, (w.cell? ⟨a.block, a.off + j * 5 + 2, none⟩).getD undef, (w.cell? ⟨a.block, a.off + j * 5 + 3, none⟩).getD undef, (w.cell? ⟨a.block, a.off + j * 5 + 4, none⟩).getD undef] | none => #[])) else #[], fun j hj => ?_⟩
 obtain ⟨g, o, k5, t5, mv5, lv5, p5, rfl, hS, _, hat, e0, e1, e2, e3, e4, o5, o6⟩ := h.get j hj
 have e : (if hj : j < l.length then (let H := h.get j hj; (match (some ⟨g, o, none⟩ : Option Addr) with | some a => #[(w.cell? ⟨a.block, a.off + j * 5, none⟩).getD undef, (w.cell? ⟨a.block, a.off + j * 5 + 1, none⟩).getD undef, (w.cell? ⟨a.block, a.off + j * 5 + 2, none⟩).getD undef, (w.cell? ⟨a.block, a.off + j * 5 + 3, none⟩).getD undef, (w.cell? ⟨a.block, a.off + j * 5 + 4, none⟩).getD undef] | none => #[])) else #[]) = #[.int .i64 k5, .string t5, mv5, lv5, .int .i64 p5] := by
  rw [dif_pos hj]; simp only [e0, e1, e2, e3, e4, Option.getD_some]
 simp only [e]
 refine ⟨hat, fun g' o' n c e' => ?_⟩
 simp only [Value.slice.injEq, Option.some.injEq, Addr.mk.injEq, and_true] at e'
 obtain ⟨⟨rfl, rfl⟩, _⟩ := e'
 refine ⟨hS, fun i hi => ?_⟩
 match i, hi with
 | 0, _ => exact e0
 | 1, _ => exact e1
 | 2, _ => exact e2
 | 3, _ => exact e3
 | 4, _ => exact e4
theorem KeepsB.refl (S : Nat → Prop) (w : World) : KeepsB S w w := fun g c T fz _ h => ⟨fz, h⟩
theorem KeepsB.trans {S : Nat → Prop} {a b c : World} (h : KeepsB S a b) (k : KeepsB S b c) : KeepsB S a c := by
 intro g cs T fz hs hg
 obtain ⟨f1, h1⟩ := h g cs T fz hs hg
 exact k g cs T f1 hs h1
theorem KeepsB.cell {S : Nat → Prop} {a b : World} (h : KeepsB S a b) {g o : Nat} (hs : S g) {v : Value} (hc : a.cell? ⟨g, o, none⟩ = some v) : b.cell? ⟨g, o, none⟩ = some v := by
 unfold World.cell? at hc ⊢
 simp only [] at hc ⊢
 split at hc
 ·next c T fz hg =>
  obtain ⟨fz', h2⟩ := h g c T fz hs hg
  rw [h2]; exact hc
 ·cases hc
/-- The turn of a block that is no cells keeps all cells. -/
theorem keepsB_putObj {S : Nat → Prop} (W : World) (l : Nat) (o o' : Obj) (hl : W.heap[l]? = some o) (ho : o.isCells = false) : KeepsB S W (W.putObj l o') := by
 intro g c T fz hs hg
 have hne : g ≠ l := by intro e; subst e; rw [hg] at hl; cases hl; cases ho
 exact ⟨fz, (World.putObj_heap_other hne).trans hg⟩
theorem KeepsB.of_turn {S : Nat → Prop} {w w' : World} {row : Option Nat} (h : w.grownBy w' row) (hr : ∀ r, row = some r → ∃ o : Obj, w.heap[r]? = some o ∧ o.isCells = false) : KeepsB S w w' := by
 intro g c T fz hs hg
 refine ⟨fz, (h.block g (Array.getElem?_eq_some_iff.1 hg).1 fun e => ?_).trans hg⟩
 obtain ⟨o, ho, hc⟩ := hr g e.symm
 rw [hg] at ho; cases ho; cases hc
theorem parts_any (k : Int) (t : ByteArray) (mv lv : Value) (p : Int) (hm : mv.oneCell' = true) (hl : lv.oneCell' = true) (w : World) :
  Calls Try.prog 71 #[.agg #[.int .i64 k, .string t, mv, lv, .int .i64 p]] w fun e w' => e = .returned (.func (.func 87) #[] #[.pointer (some ⟨w.heap.size, 0, none⟩)]) ∧ w' = w.alloc (.cells #[.int .i64 k, .string t, mv, lv, .int .i64 p] 29) := by
 go_enter Try.func71, Try.ntmps71
 go_wp2
 go_ret
 exact ⟨rfl, rfl⟩
end Go.Proofs.Ytecljchifebljaa
namespace Go.Proofs.Ytecljchifebljaa
open Go Go.RowKit
/-- A row of bindings that the call owns (from block B on); what they lead to lies in S. -/
def OwnPI (S : Nat → Prop) (B : Nat) (w : World) (v : Value) (bs : List Bd) : Prop :=
 ∃ xs, w.ownsRow B 60 12 v bs.length xs ∧ ∀ j (h : j < bs.length), ∃ cs : Array Value, cs.size = 12 ∧ (∀ i, i < 12 → xs[12 * j + i]? = cs[i]?) ∧ Bd.PAt S w bs[j] cs
theorem OwnPI.at {S : Nat → Prop} {B : Nat} {w : World} {v : Value} {bs : List Bd} (h : OwnPI S B w v bs) : PsAt (fun g => S g ∨ v.ownBlock = some g) w v bs := by
 obtain ⟨xs, hown, hd⟩ := h
 rcases hown.2 with ⟨rfl, hz⟩ | ⟨g, cap, cur, rfl, hbg, hg, hnc, hcm, hcs, htake⟩
 ·exact .inl ⟨rfl, List.length_eq_zero_iff.1 hz⟩
 ·refine .inr ⟨g, 0, cap, cur, (0, 0), rfl, .inr rfl, hg, Bds.PAt.of_get _ _ _ fun j hj => ?_⟩
  obtain ⟨cs, h5, h1, h2⟩ := hd j hj
  refine ⟨cs, fun i hi => ?_, Bd.PAt.mono (fun g h => .inl h) _ _ h2⟩
  rw [← h1 i hi, ← htake, List.getElem?_take, if_pos (by omega)]
  simp
theorem OwnPI.form {S : Nat → Prop} {B : Nat} {w : World} {v : Value} {bs : List Bd} (h : OwnPI S B w v bs) : ∃ ao c, v = .slice ao bs.length c := h.at.form
theorem OwnPI.low {S : Nat → Prop} {B : Nat} {w : World} {v : Value} {bs : List Bd} (h : OwnPI S B w v bs) : ∀ x, v.ownBlock = some x → B ≤ x ∧ x < w.heap.size := by
 obtain ⟨xs, ho, _⟩ := h
 exact ho.lt
/-- It stands where its row and what lies in S stand. -/
theorem OwnPI.kept {S : Nat → Prop} {B : Nat} {w w' : World} {v : Value} {bs : List Bd} {row : Option Nat} (h : OwnPI S B w v bs) (hg : w.grownBy w' row) (hr : v.ownBlock = none ∨ v.ownBlock ≠ row) (hk : KeepsB S w w') : OwnPI S B w' v bs := by
 obtain ⟨xs, ho, hd⟩ := h
 refine ⟨xs, ho.kept hg hr, fun j hj => ?_⟩
 obtain ⟨cs, h5, h1, h3⟩ := hd j hj
 exact ⟨cs, h5, h1, Bd.PAt.keeps hk _ _ h3⟩
theorem OwnPI.below {S : Nat → Prop} {B : Nat} {w w' : World} {v : Value} {bs : List Bd} (h : OwnPI S B w v bs) (hb : Below w.heap.size w w') : OwnPI S B w' v bs :=
 h.kept (Below.grownRow hb none) (by cases v.ownBlock <;> simp) (KeepsB.of_below hb)
def ZPB : Array Value := #[.int .i64 0, .string ⟨#[]⟩, .slice none 0 0, .slice none 0 0, .int .i64 0, .int .i64 0, .int .i64 0, .string ⟨#[]⟩, .slice none 0 0, .slice none 0 0, .int .i64 0, .slice none 0 0]
theorem infoP12 : (Try.prog.info? 60).map (fun i => (i.zero, i.size, i.bytes)) = some (some (.agg ZPB), 12, 192) := by kernel_rfl
def RetCl (S : Nat → Prop) (B : Nat) (bs : List Bd) (w : World) (e : Ending) (w' : World) : Prop := ∃ v, e = .returned v ∧ OwnPI S w.heap.size w' v bs ∧ Below w.heap.size w w'
theorem cells_of_row {S : Nat → Prop} {w : World} {l : List Bd} {g o : Nat} {arr : Array Value} {fz : Nat × Nat} (hg : w.heap[g]? = some (.cells arr 60 fz)) (h : Bds.PAt S w l arr o) :
  ∃ xs : List Value, xs.length = l.length * 12 ∧ (∀ u ∈ xs, u.oneCell' = true) ∧ (∀ j u, xs[j]? = some u → w.cell? ⟨g, o + j, none⟩ = some u) ∧ ∀ j (hj : j < l.length), ∃ cs : Array Value, cs.size = 12 ∧ (∀ i, i < 12 → xs[12 * j + i]? = cs[i]?) ∧ Bd.PAt S w l[j] cs := by
 have hall : ∀ j (hj : j < l.length), ∃ cs : Array Value, cs.size = 12 ∧ (∀ i, i < 12 → arr[o + 12 * j + i]? = cs[i]?) ∧ Bd.PAt S w l[j] cs ∧ ∀ u ∈ cs.toList, u.oneCell' = true := by
  intro j hj
  obtain ⟨cs, h1, h2⟩ := Bds.PAt.get l arr o h j hj
  obtain ⟨m1, l1, m2, l2, lv, e, _, _, _, o1, o2, o3, o4, o5⟩ := BdPAt_twelve h2
  refine ⟨cs, by rw [e]; rfl, h1, h2, fun u hu => ?_⟩
  rw [e] at hu
  simp only [List.mem_cons, List.not_mem_nil, or_false] at hu
  rcases hu with rfl | rfl | rfl | rfl | rfl | rfl | rfl | rfl | rfl | rfl | rfl | rfl <;> first | rfl | assumption
 have hin : ∀ k, k < l.length * 12 → ∃ u, arr[o + k]? = some u ∧ u.oneCell' = true := by
  intro k hk
  obtain ⟨cs, c5, h1, _, h3⟩ := hall (k / 12) (by omega)
  have hm : k % 12 < 12 := Nat.mod_lt _ (by decide)
  have e := h1 (k % 12) hm
  rw [show o + 12 * (k / 12) + k % 12 = o + k by omega, Array.getElem?_eq_getElem (xs := cs) (by rw [c5]; exact hm)] at e
  exact ⟨_, e, h3 _ (Array.mem_toList_iff.2 (Array.getElem_mem (by rw [c5]; exact hm)))⟩
 have hlen : ((arr.toList.drop o).take (l.length * 12)).length = l.length * 12 := by
  rw [List.length_take, List.length_drop]
  rcases Nat.eq_zero_or_pos l.length with h0 | h0
  ·rw [h0]; simp
  ·obtain ⟨u, hu, _⟩ := hin (l.length * 12 - 1) (by omega)
   have := (Array.getElem?_eq_some_iff.1 hu).1
   simp only [Array.length_toList]; omega
 have hget : ∀ k, k < l.length * 12 → ((arr.toList.drop o).take (l.length * 12))[k]? = arr[o + k]? := by
  intro k hk
  rw [List.getElem?_take, if_pos hk, List.getElem?_drop]; simp
 refine ⟨(arr.toList.drop o).take (l.length * 12), hlen, fun u hu => ?_, fun j u hj => ?_, fun j hj => ?_⟩
 ·obtain ⟨k, hk⟩ := List.mem_iff_getElem?.1 hu
  have hkl : k < l.length * 12 := by rw [← hlen]; exact (List.getElem?_eq_some_iff.1 hk).1
  rw [hget k hkl] at hk
  obtain ⟨u', hu', h1⟩ := hin k hkl
  rw [hk] at hu'; injection hu' with e; rw [e]; exact h1
 ·have hkl : j < l.length * 12 := by rw [← hlen]; exact (List.getElem?_eq_some_iff.1 hj).1
  rw [hget j hkl] at hj
  rw [Lib.cell_of_heap hg]; exact hj
 ·obtain ⟨cs, c5, h1, h2, _⟩ := hall j hj
  refine ⟨cs, c5, fun i hi => ?_, h2⟩
  rw [hget _ (by omega), ← h1 i hi]; congr 1; omega
theorem eq_nil40 (a : Addr) (n c : Nat) (w : World) : (binOp .eql 40 (.slice (some a) n c) (.slice none 0 0)).run Try.prog w = .ok (.bool false) w := by kernel_rfl
theorem nil_nil40 (w : World) : (binOp .eql 40 (.slice none 0 0) (.slice none 0 0)).run Try.prog w = .ok (.bool true) w := by kernel_rfl
theorem add_at (g o j : Nat) : (⟨g, o, none⟩ : Addr).add j = ⟨g, o + j, none⟩ := by unfold Addr.add; split <;> simp_all
set_option maxHeartbeats 8000000 in
set_option maxRecDepth 100000 in
theorem clone_any {S : Nat → Prop} (bs : List Bd) (v : Value) (w : World) (hv : PsAt S w v bs) (hl : bs.length ≤ 10000000) : Calls Try.prog 68 #[v] w (RetCl S w.heap.size bs w) := by
 rcases hv with ⟨rfl, rfl⟩ | ⟨g, o, cap, arr, fz, rfl, hS, hg, hd⟩
 ·have HQ := nil_nil40
  go_enter Try.func68, Try.ntmps68
  go_wp2_with fail
  go_ret
  exact ⟨_, rfl, ⟨[], World.ownsRow_nil _ _ _ _, fun j h => by simp at h⟩, Below.refl _ _⟩
 ·obtain ⟨xs, hxl, hx1, hxc, hxd⟩ := cells_of_row hg hd
  have hgl : g < w.heap.size := (Array.getElem?_eq_some_iff.1 hg).1
  obtain ⟨i, hi, hz, hs, hb⟩ := info_parts infoP12
  have HQ := fun w => eq_nil40 ⟨g, o, none⟩ bs.length cap w
  have hb0 : Below w.heap.size w (w.alloc (.cells #[] 60)) := (Below.refl _ _).alloc (Nat.le_refl _) _
  have hown0 : (w.alloc (.cells #[] 60)).ownsRow w.heap.size 60 12 (.slice (some ⟨w.heap.size, 0, none⟩) 0 0) 0 [] := ⟨rfl, .inr ⟨w.heap.size, 0, #[], rfl, Nat.le_refl _, alloc_at w _, Nat.le_refl _, by decide, rfl, rfl⟩⟩
  have hcell : ∀ j u, xs[j]? = some u → (w.alloc (.cells #[] 60)).cell? ((⟨g, o, none⟩ : Addr).add j) = some u := fun j u hu => by
   rw [add_at]
   exact (hb0.cell (p := ⟨g, o + j, none⟩) hgl).trans (hxc j u hu)
  have HXD := Lib.hid hxd
  have HB0 := Lib.hid hb0
  have hbs1 : 0 + bs.length ≤ maxLen := Nat.le_trans (by omega : 0 + bs.length ≤ 10000000) (by decide)
  have hbs2 : (0 + bs.length) * 192 ≤ 140737488355328 := by omega
  have hbs3 : w.heap.size ≤ (w.alloc (.cells #[] 60)).heap.size := by simp
  have HS := Lib.hid hd
  clear hxd hb0 hd hg hxc
  go_enter Try.func68, Try.ntmps68
  go_wp2_with (at_builtin; refine wpList_append_own_at _ rfl _ _ 40 rfl w.heap.size 60 i (.agg ZPB) 12 192 Try.underlying40 hi hz hs hb rfl (by decide) _ _ _ rfl hown0 ⟨g, o, none⟩ bs.length cap xs rfl hxl hcell hx1 hbs1 hbs2 hbs3 ?_; intro v' w1 hown' hgrow hnil hloc)
  go_ret
  have hbw : Below w.heap.size w w1 := HB0.out.grown hgrow hbs3 (fun k e => by cases e; exact Nat.le_refl _)
  refine ⟨_, rfl, ⟨xs, by simpa using hown', fun j hj => ?_⟩, hbw⟩
  obtain ⟨cs, c5, h1, h2⟩ := HXD.out j hj
  exact ⟨cs, c5, h1, Bd.PAt.keeps (KeepsB.of_below hbw) _ _ h2⟩
end Go.Proofs.Ytecljchifebljaa
namespace Go.Proofs.Ytecljchifebljaa
open Go Go.RowKit
attribute [local go_sem] Oper.semAt_some
def PxInv (l : List Dt) (J : Nat → World → Prop) (S : Nat → Prop) (W : World) (iv : Value) (wr : World) : Prop :=
 ∃ (j : Nat) (pre : List Nat), iv = .int .i64 (j : Int) ∧ j ≤ l.length ∧ pix l = pre ++ pixF (l.drop j) j ∧ J pre.length wr ∧ KeepsB S W wr
theorem pixF_dots {l : List Dt} {j : Nat} (h : j < l.length) (hd : l[j].dots = true) : pixF (l.drop j) j = pixF (l.drop (j + 1)) (j + 1) := by
 rw [List.drop_eq_getElem_cons h, pixF, if_pos hd]
theorem pixF_part {l : List Dt} {j : Nat} (h : j < l.length) (hd : l[j].dots = false) : pixF (l.drop j) j = j :: pixF (l.drop (j + 1)) (j + 1) := by
 rw [List.drop_eq_getElem_cons h, pixF, if_neg (by rw [hd]; decide)]
theorem nxt_get {l : List Dt} {j : Nat} (h : j < l.length) : nxtDots (l.drop j) = l[j].dots := by
 rw [List.drop_eq_getElem_cons h]; rfl
theorem nxt_end {l : List Dt} {j : Nat} (h : ¬ j < l.length) : nxtDots (l.drop j) = false := by
 rw [List.drop_eq_nil_of_le (by omega)]; rfl
theorem cf_is {S : Nat → Prop} {w0 wr : World} {d : Dt} {c : Array Value} {g o : Nat} {k5 p5 : Int} {t5 : ByteArray} {mv5 lv5 : Value} (h : Dt.At S w0 d c) (hc : ∀ i, i < 5 → w0.cell? ⟨g, o + i, none⟩ = c[i]?) (hk : KeepsB S w0 wr) (hS : S g)
  (e0 : wr.cell? ⟨g, o, none⟩ = some (.int .i64 k5)) (e1 : wr.cell? ⟨g, o + 1, none⟩ = some (.string t5)) (e2 : wr.cell? ⟨g, o + 2, none⟩ = some mv5) (e3 : wr.cell? ⟨g, o + 3, none⟩ = some lv5) (e4 : wr.cell? ⟨g, o + 4, none⟩ = some (.int .i64 p5)) : c = #[.int .i64 k5, .string t5, mv5, lv5, .int .i64 p5] := by
 obtain ⟨k, t, mv, lv, p, rfl, _, _⟩ := At_form h
 have g0 : some (Value.int .i64 k) = some (Value.int .i64 k5) := (hk.cell hS (hc 0 (by decide))).symm.trans e0
 have g1 : some (Value.string t) = some (Value.string t5) := (hk.cell hS (hc 1 (by decide))).symm.trans e1
 have g2 : some mv = some mv5 := (hk.cell hS (hc 2 (by decide))).symm.trans e2
 have g3 : some lv = some lv5 := (hk.cell hS (hc 3 (by decide))).symm.trans e3
 have g4 : some (Value.int .i64 p) = some (Value.int .i64 p5) := (hk.cell hS (hc 4 (by decide))).symm.trans e4
 injection g0 with g0; injection g1 with g1; injection g2 with g2; injection g3 with g3; injection g4 with g4
 rw [g0, g1, g2, g3, g4]
set_option maxHeartbeats 16000000 in
set_option maxRecDepth 100000 in
theorem parts1_hands {S : Nat → Prop} (n box : Nat) (t : ByteArray) (mv lv : Value) (p : Int) (l : List Dt) (cf : Nat → Array Value) (w0 : World) (hS : S box) (hbw : box < w0.heap.size)
  (hb : w0.heap[box]? = some (Obj.cells #[.int .i64 4, .string t, mv, lv, .int .i64 p] 29 (0, 0))) (hl : LAt S w0 lv l) (hcf : CfAt S w0 lv l cf) (hll : l.length ≤ 10000000) :
  Hands Fence.wide n Try.prog 87 #[.pointer (some ⟨box, 0, none⟩)] (partA cf l) (KeepsB S) (pix l).length w0 := by
 intro lp J Jx W hW hJ hY h0
 have hKW : KeepsB S w0 W := KeepsB.of_below hW
 have hbW : W.heap[box]? = some (Obj.cells #[.int .i64 4, .string t, mv, lv, .int .i64 p] 29 (0, 0)) := by rw [hW.block _ hbw]; exact hb
 have HL0 := Lib.hid (hl.keeps hKW.keeps)
 have HCF : Hid (∀ j (h : j < l.length), Dt.At S w0 l[j] (cf j) ∧ ∀ g o n c, lv = .slice (some ⟨g, o, none⟩) n c → S g ∧ ∀ i, i < 5 → w0.cell? ⟨g, o + j * 5 + i, none⟩ = (cf j)[i]?) := hcf
 have HKW := Lib.hid hKW
 have HJ : Hid (∀ (k : Nat) (A B : World), Below A.heap.size A B → J k A → J k B) := fun k A B h hj => hJ k A B none hj (Below.grownRow h none) (fun r e => by cases e)
 have HY := Lib.hid hY
 have HJ0 := Lib.hid h0
 have HBW := Lib.hid hbW
 have HSB := Lib.hid hS
 have hbl : box < W.heap.size := (Array.getElem?_eq_some_iff.1 hbW).1
 obtain ⟨ao, cap, rfl⟩ := hl.form
 have c0 : W.cell? ⟨box, 0, none⟩ = some (.int .i64 4) := by rw [Lib.cell_of_heap hbW]; rfl
 have c3 : W.cell? ⟨box, 3, none⟩ = some (.slice ao l.length cap) := by rw [Lib.cell_of_heap hbW]; rfl
 clear hW hKW hJ hY h0 hbW hl hcf hb hS
 refine callsIn_of_wp Try.func87 rfl trivial ?_ rfl
 refine wpIn_wide.2 ?_
 simp only [Try.ntmps87, List.size_toArray, List.length_cons, List.length_nil, Nat.reduceAdd, Nat.reduceSub, Array.replicate_succ, Array.replicate_zero, List.push_toArray, List.append_toArray, List.nil_append, List.cons_append]
 go_wp2_with fail
 clear c0 c3
 go_loopw [12] (fun iv wr => PxInv l J S W iv wr) (fun iv _ => l.length - (intOf iv).toNat)
 case atStart => exact ⟨0, [], rfl, Nat.zero_le _, rfl, HJ0.out, KeepsB.refl _ _⟩
 case round =>
  obtain ⟨j, pre, rfl, hj, hpx, hJr, hkr⟩ := hrel
  have HPX := Lib.hid hpx
  have HJR := Lib.hid hJr
  have HKR := Lib.hid hkr
  clear hpx hJr hkr
  by_cases hlt : j < l.length
  ·have q1 : decide ((j : Int) < (l.length : Int)) = true := decide_eq_true (by omega)
   obtain ⟨g, o, k5, t5, mv5, lv5, p5, he5, hSg, _, hat, e0, e1, e2, e3, e4, o5, o6⟩ := (HL0.out.keeps HKR.out.keeps).get j hlt
   subst he5
   obtain ⟨d, hd⟩ : ∃ d, d = l[j] := ⟨_, rfl⟩
   have hcfj : cf j = #[.int .i64 k5, .string t5, mv5, lv5, .int .i64 p5] := cf_is (HCF.out j hlt).1 ((HCF.out j hlt).2 g o _ _ rfl).2 (HKW.out.trans HKR.out) hSg e0 e1 e2 e3 e4
   rw [← hd] at hat
   obtain ⟨dk, dt, dms, dl, dp⟩ := d
   have hat0 := hat
   rw [At_mk] at hat
   obtain ⟨mv6, lv6, e6, hM6, hL6⟩ := hat
   simp only [Array.mk.injEq, List.cons.injEq, Value.int.injEq, Value.string.injEq, true_and, and_true] at e6
   obtain ⟨rfl, rfl, rfl, rfl, rfl⟩ := e6
   obtain ⟨mo6, mc6, rfl⟩ := MAt.form2 hM6
   obtain ⟨lo6, lc6, rfl⟩ := hL6.form
   have HAT := Lib.hid hat0
   have HD := Lib.hid hd
   have HCFJ := Lib.hid hcfj
   have hbY : Below wr.heap.size wr (wr.alloc (.cells #[.int .i64 k5, .string t5, .slice mo6 dms.length mc6, .slice lo6 dl.length lc6, .int .i64 p5] 29)) := (Below.refl _ _).alloc (Nat.le_refl _) _
   have hxY := alloc_at wr (.cells #[.int .i64 k5, .string t5, .slice mo6 dms.length mc6, .slice lo6 dl.length lc6, .int .i64 p5] 29)
   have hsY : (wr.alloc (.cells #[.int .i64 k5, .string t5, .slice mo6 dms.length mc6, .slice lo6 dl.length lc6, .int .i64 p5] 29)).heap.size = wr.heap.size + 1 := by simp
   obtain ⟨Y, hY⟩ : ∃ Y, Y = wr.alloc (.cells #[.int .i64 k5, .string t5, .slice mo6 dms.length mc6, .slice lo6 dl.length lc6, .int .i64 p5] 29) := ⟨_, rfl⟩
   rw [← hY] at hbY hxY hsY
   have HYE := Lib.hid hY
   have HBY := Lib.hid hbY
   have HYX := Lib.hid hxY
   obtain ⟨fzb, hbr⟩ := HKR.out box _ _ _ HSB.out HBW.out
   have hbrl : box < wr.heap.size := (Array.getElem?_eq_some_iff.1 hbr).1
   have hbY2 : Y.heap[box]? = some (Obj.cells #[.int .i64 4, .string t, mv, .slice (some ⟨g, o, none⟩) l.length cap, .int .i64 p] 29 fzb) := by rw [hbY.block _ hbrl]; exact hbr
   have bx3 : Y.cell? ⟨box, 3, none⟩ = some (.slice (some ⟨g, o, none⟩) l.length cap) := by rw [Lib.cell_of_heap hbY2]; rfl
   clear hM6 hL6 hat0 hd hcfj hY hbY hxY hbr hbY2 hSg
   by_cases hn : j + 1 < l.length
   ·have q2 : decide ((j : Int) + 1 < (l.length : Int)) = true := decide_eq_true (by omega)
    have hLY := (HL0.out.keeps (HKR.out.trans (KeepsB.of_below HBY.out)).keeps)
    obtain ⟨g', o', k8, t8, mv8, lv8, p8, he8, _, _, hat8, u0, u1, u2, u3, u4, w5, w6⟩ := hLY.get (j + 1) hn
    simp only [Option.some.injEq, Addr.mk.injEq, and_true] at he8
    obtain ⟨rfl, rfl⟩ := he8
    have F8 := Lib.hid (isdots_any hat8 Y)
    obtain ⟨nb, hnb⟩ : ∃ b, b = l[j + 1].dots := ⟨_, rfl⟩
    rw [← hnb] at F8
    have HNB : Hid (nxtDots (l.drop (j + 1)) = nb) := by show _ = _; rw [nxt_get hn, hnb]
    clear hnb hat8 hLY
    go_upto_region 4 with fail
    rw [← HYE.out]
    clear e0 e1 e2 e3 e4
    go_wp2_with fail
    refine F8.out.mono ?_
    rintro e w5 ⟨rfl, hb5⟩
    have HYX5 : Hid (w5.heap[wr.heap.size]? = some (Obj.cells #[.int .i64 k5, .string t5, .slice mo6 dms.length mc6, .slice lo6 dl.length lc6, .int .i64 p5] 29 (0, 0))) := by show _ = _; rw [hb5.block _ (by omega)]; exact HYX.out
    have HBY5 := Lib.hid (HBY.out.trans (hb5.mono HBY.out.size))
    clear u0 u1 u2 u3 u4 bx3 hb5 F8
    go_upto_region 5 with fail
    have yx : w5.heap[wr.heap.size]? = some (Obj.cells #[.int .i64 k5, .string t5, .slice mo6 dms.length mc6, .slice lo6 dl.length lc6, .int .i64 p5] 29 (0, 0)) := HYX5.out
    have y0 : w5.cell? ⟨wr.heap.size, 0, none⟩ = some (.int .i64 k5) := by rw [Lib.cell_of_heap yx]; rfl
    have y1 : w5.cell? ⟨wr.heap.size, 1, none⟩ = some (.string t5) := by rw [Lib.cell_of_heap yx]; rfl
    have y2 : w5.cell? ⟨wr.heap.size, 2, none⟩ = some (.slice mo6 dms.length mc6) := by rw [Lib.cell_of_heap yx]; rfl
    have y3 : w5.cell? ⟨wr.heap.size, 3, none⟩ = some (.slice lo6 dl.length lc6) := by rw [Lib.cell_of_heap yx]; rfl
    have y4 : w5.cell? ⟨wr.heap.size, 4, none⟩ = some (.int .i64 p5) := by rw [Lib.cell_of_heap yx]; rfl
    clear yx
    have FI := Lib.hid (isdots_any (HAT.out) w5)
    obtain ⟨b, hb⟩ : ∃ b, b = (Dt.mk k5 t5 dms dl p5).dots := ⟨_, rfl⟩
    rw [← hb] at FI
    have HBB : Hid (l[j].dots = b) := by show _ = _; rw [← HD.out]; exact hb.symm
    clear hb
    cases b with
    | true =>
     have HPX2 : Hid (pix l = pre ++ pixF (l.drop (j + 1)) (j + 1)) := by show _ = _; rw [HPX.out, pixF_dots hlt HBB.out]
     go_wp2_with fail
     refine FI.out.mono ?_
     rintro e w7 ⟨rfl, hb7⟩
     have HB7 := Lib.hid (HBY5.out.trans (hb7.mono HBY5.out.size))
     clear y0 y1 y2 y3 y4 hb7
     go_wp2_with fail
     go_roundw
     case rel =>
      first
       | exact ⟨j + 1, pre, by go_num, by omega, HPX2.out, HJ.out _ _ _ HB7.out HJR.out, HKR.out.trans (KeepsB.of_below HB7.out)⟩
       | exact ⟨_, _, _, _, ⟨j + 1, pre, rfl, by omega, HPX2.out, HJ.out _ _ _ HB7.out HJR.out, HKR.out.trans (KeepsB.of_below HB7.out)⟩, rfl, rfl, rfl, by go_num⟩
     case measure => simp [intOf]; omega
    | false =>
     have hpf := pixF_part hlt HBB.out
     have hkl : pre.length < (pix l).length := by rw [HPX.out, hpf]; simp
     have hkj : (pix l)[pre.length] = j := by
      have h1 : (pix l)[pre.length]? = some j := by rw [HPX.out, hpf]; simp
      rw [List.getElem?_eq_getElem hkl] at h1
      injection h1
     have HPX2 : Hid (pix l = (pre ++ [j]) ++ pixF (l.drop (j + 1)) (j + 1)) := by show _ = _; rw [HPX.out, hpf]; simp
     have HPA : Hid (partA cf l pre.length = #[.agg #[.int .i64 k5, .string t5, .slice mo6 dms.length mc6, .slice lo6 dl.length lc6, .int .i64 p5], .bool nb]) := by
      show _ = _
      rw [partA_at cf l _ hkl, hkj, HCFJ.out, HNB.out]
     have HKL := Lib.hid hkl
     clear hpf hkj hkl
     go_upto_region 5 with fail
     rename_i K hK
     refine (wpIn_wide (n := n)).1 ?_
     gi_wp2
     refine ⟨trivial, fun h => by simp [Fence.wide] at h, (callsIn_wide.2 FI.out).mono ?_⟩
     rintro e w7 ⟨rfl, hb7⟩
     have hs7 := hb7.size
     have HB7 := Lib.hid (HBY5.out.trans (hb7.mono HBY5.out.size))
     have yx : w7.heap[wr.heap.size]? = some (Obj.cells #[.int .i64 k5, .string t5, .slice mo6 dms.length mc6, .slice lo6 dl.length lc6, .int .i64 p5] 29 (0, 0)) := (hb7.block _ (Array.getElem?_eq_some_iff.1 HYX5.out).1).trans HYX5.out
     have z0 : w7.cell? ⟨wr.heap.size, 0, none⟩ = some (.int .i64 k5) := by rw [Lib.cell_of_heap yx]; rfl
     have z1 : w7.cell? ⟨wr.heap.size, 1, none⟩ = some (.string t5) := by rw [Lib.cell_of_heap yx]; rfl
     have z2 : w7.cell? ⟨wr.heap.size, 2, none⟩ = some (.slice mo6 dms.length mc6) := by rw [Lib.cell_of_heap yx]; rfl
     have z3 : w7.cell? ⟨wr.heap.size, 3, none⟩ = some (.slice lo6 dl.length lc6) := by rw [Lib.cell_of_heap yx]; rfl
     have z4 : w7.cell? ⟨wr.heap.size, 4, none⟩ = some (.int .i64 p5) := by rw [Lib.cell_of_heap yx]; rfl
     obtain ⟨fn, tmps, assign, body, hy, hR⟩ := HY.out pre.length w7 HKL.out (HJ.out _ _ _ HB7.out HJR.out)
     rw [HPA.out] at hy
     clear yx y0 y1 y2 y3 y4 hb7
     gi_wp2
     first
      | refine hR.mono ?_
      | refine ⟨fun h => by simp [Fence.wide] at h, hR.mono ?_⟩
      | refine ⟨fun _ _ => trivial, fun h => by simp [Fence.wide] at h, hR.mono ?_⟩
     have HHK := Lib.hid hK
     clear hK hR hy z0 z1 z2 z3 z4
     rintro e W3 (⟨rfl, hJ3, hk3⟩ | ⟨rfl, hJx3⟩)
     ·have HK3 := Lib.hid ((HKR.out.trans (KeepsB.of_below HB7.out)).trans hk3)
      have HJ3 : Hid (J (pre ++ [j]).length W3) := by show J _ W3; rw [List.length_append]; exact hJ3
      clear hJ3 hk3
      gi_wp2
      refine HHK.out _ _ ?_
      go_wp2_with fail
      go_roundw
      case rel =>
       first
        | exact ⟨j + 1, pre ++ [j], by go_num, by omega, HPX2.out, HJ3.out, HK3.out⟩
        | exact ⟨_, _, _, _, ⟨j + 1, pre ++ [j], rfl, by omega, HPX2.out, HJ3.out, HK3.out⟩, rfl, rfl, rfl, by go_num⟩
      case measure => simp [intOf]; omega
     ·gi_wp2
      refine HHK.out _ _ ?_
      go_wp2_with fail
      refine bodyPost_ret (results_none rfl _ _ _) rfl ?_
      exact ⟨⟨_, rfl⟩, .inr ⟨_, HKL.out, hJx3⟩⟩
   ·have q2 : decide ((j : Int) + 1 < (l.length : Int)) = false := decide_eq_false (by omega)
    obtain ⟨nb, hnb⟩ : ∃ b, b = false := ⟨_, rfl⟩
    have HNB : Hid (nxtDots (l.drop (j + 1)) = nb) := by show _ = _; rw [nxt_end hn, hnb]
    go_upto_region 4 with fail
    rw [← HYE.out]
    clear e0 e1 e2 e3 e4
    go_upto_region 5 with fail
    clear bx3
    subst hnb
    have yx : Y.heap[wr.heap.size]? = some (Obj.cells #[.int .i64 k5, .string t5, .slice mo6 dms.length mc6, .slice lo6 dl.length lc6, .int .i64 p5] 29 (0, 0)) := HYX.out
    have y0 : Y.cell? ⟨wr.heap.size, 0, none⟩ = some (.int .i64 k5) := by rw [Lib.cell_of_heap yx]; rfl
    have y1 : Y.cell? ⟨wr.heap.size, 1, none⟩ = some (.string t5) := by rw [Lib.cell_of_heap yx]; rfl
    have y2 : Y.cell? ⟨wr.heap.size, 2, none⟩ = some (.slice mo6 dms.length mc6) := by rw [Lib.cell_of_heap yx]; rfl
    have y3 : Y.cell? ⟨wr.heap.size, 3, none⟩ = some (.slice lo6 dl.length lc6) := by rw [Lib.cell_of_heap yx]; rfl
    have y4 : Y.cell? ⟨wr.heap.size, 4, none⟩ = some (.int .i64 p5) := by rw [Lib.cell_of_heap yx]; rfl
    clear yx
    have FI := Lib.hid (isdots_any (HAT.out) Y)
    obtain ⟨b, hb⟩ : ∃ b, b = (Dt.mk k5 t5 dms dl p5).dots := ⟨_, rfl⟩
    rw [← hb] at FI
    have HBB : Hid (l[j].dots = b) := by show _ = _; rw [← HD.out]; exact hb.symm
    clear hb
    cases b with
    | true =>
     have HPX2 : Hid (pix l = pre ++ pixF (l.drop (j + 1)) (j + 1)) := by show _ = _; rw [HPX.out, pixF_dots hlt HBB.out]
     go_wp2_with fail
     refine FI.out.mono ?_
     rintro e w7 ⟨rfl, hb7⟩
     have HB7 := Lib.hid (HBY.out.trans (hb7.mono HBY.out.size))
     clear y0 y1 y2 y3 y4 hb7
     go_wp2_with fail
     go_roundw
     case rel =>
      first
       | exact ⟨j + 1, pre, by go_num, by omega, HPX2.out, HJ.out _ _ _ HB7.out HJR.out, HKR.out.trans (KeepsB.of_below HB7.out)⟩
       | exact ⟨_, _, _, _, ⟨j + 1, pre, rfl, by omega, HPX2.out, HJ.out _ _ _ HB7.out HJR.out, HKR.out.trans (KeepsB.of_below HB7.out)⟩, rfl, rfl, rfl, by go_num⟩
     case measure => simp [intOf]; omega
    | false =>
     have hpf := pixF_part hlt HBB.out
     have hkl : pre.length < (pix l).length := by rw [HPX.out, hpf]; simp
     have hkj : (pix l)[pre.length] = j := by
      have h1 : (pix l)[pre.length]? = some j := by rw [HPX.out, hpf]; simp
      rw [List.getElem?_eq_getElem hkl] at h1
      injection h1
     have HPX2 : Hid (pix l = (pre ++ [j]) ++ pixF (l.drop (j + 1)) (j + 1)) := by show _ = _; rw [HPX.out, hpf]; simp
     have HPA : Hid (partA cf l pre.length = #[.agg #[.int .i64 k5, .string t5, .slice mo6 dms.length mc6, .slice lo6 dl.length lc6, .int .i64 p5], .bool false]) := by
      show _ = _
      rw [partA_at cf l _ hkl, hkj, HCFJ.out, HNB.out]
     have HKL := Lib.hid hkl
     clear hpf hkj hkl
     go_upto_region 5 with fail
     rename_i K hK
     refine (wpIn_wide (n := n)).1 ?_
     gi_wp2
     refine ⟨trivial, fun h => by simp [Fence.wide] at h, (callsIn_wide.2 FI.out).mono ?_⟩
     rintro e w7 ⟨rfl, hb7⟩
     have hs7 := hb7.size
     have HB7 := Lib.hid (HBY.out.trans (hb7.mono HBY.out.size))
     have yx : w7.heap[wr.heap.size]? = some (Obj.cells #[.int .i64 k5, .string t5, .slice mo6 dms.length mc6, .slice lo6 dl.length lc6, .int .i64 p5] 29 (0, 0)) := (hb7.block _ (Array.getElem?_eq_some_iff.1 HYX.out).1).trans HYX.out
     have z0 : w7.cell? ⟨wr.heap.size, 0, none⟩ = some (.int .i64 k5) := by rw [Lib.cell_of_heap yx]; rfl
     have z1 : w7.cell? ⟨wr.heap.size, 1, none⟩ = some (.string t5) := by rw [Lib.cell_of_heap yx]; rfl
     have z2 : w7.cell? ⟨wr.heap.size, 2, none⟩ = some (.slice mo6 dms.length mc6) := by rw [Lib.cell_of_heap yx]; rfl
     have z3 : w7.cell? ⟨wr.heap.size, 3, none⟩ = some (.slice lo6 dl.length lc6) := by rw [Lib.cell_of_heap yx]; rfl
     have z4 : w7.cell? ⟨wr.heap.size, 4, none⟩ = some (.int .i64 p5) := by rw [Lib.cell_of_heap yx]; rfl
     obtain ⟨fn, tmps, assign, body, hy, hR⟩ := HY.out pre.length w7 HKL.out (HJ.out _ _ _ HB7.out HJR.out)
     rw [HPA.out] at hy
     clear yx y0 y1 y2 y3 y4 hb7
     gi_wp2
     first
      | refine hR.mono ?_
      | refine ⟨fun h => by simp [Fence.wide] at h, hR.mono ?_⟩
      | refine ⟨fun _ _ => trivial, fun h => by simp [Fence.wide] at h, hR.mono ?_⟩
     have HHK := Lib.hid hK
     clear hK hR hy z0 z1 z2 z3 z4
     rintro e W3 (⟨rfl, hJ3, hk3⟩ | ⟨rfl, hJx3⟩)
     ·have HK3 := Lib.hid ((HKR.out.trans (KeepsB.of_below HB7.out)).trans hk3)
      have HJ3 : Hid (J (pre ++ [j]).length W3) := by show J _ W3; rw [List.length_append]; exact hJ3
      clear hJ3 hk3
      gi_wp2
      refine HHK.out _ _ ?_
      go_wp2_with fail
      go_roundw
      case rel =>
       first
        | exact ⟨j + 1, pre ++ [j], by go_num, by omega, HPX2.out, HJ3.out, HK3.out⟩
        | exact ⟨_, _, _, _, ⟨j + 1, pre ++ [j], rfl, by omega, HPX2.out, HJ3.out, HK3.out⟩, rfl, rfl, rfl, by go_num⟩
      case measure => simp [intOf]; omega
     ·gi_wp2
      refine HHK.out _ _ ?_
      go_wp2_with fail
      refine bodyPost_ret (results_none rfl _ _ _) rfl ?_
      exact ⟨⟨_, rfl⟩, .inr ⟨_, HKL.out, hJx3⟩⟩
  ·obtain rfl : j = l.length := by omega
   have q1 : decide ((l.length : Int) < (l.length : Int)) = false := decide_eq_false (by omega)
   have HE : Hid (J (pix l).length wr) := by
    have h := HPX.out
    rw [List.drop_length] at h
    simp only [pixF, List.append_nil] at h
    show J _ wr
    rw [h]; exact HJR.out
   go_wp2_with fail
   go_end0
   exact ⟨⟨_, rfl⟩, .inl HE.out⟩
end Go.Proofs.Ytecljchifebljaa
