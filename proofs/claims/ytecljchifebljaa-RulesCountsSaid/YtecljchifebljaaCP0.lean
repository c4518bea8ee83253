/- Rules: copies of a datum's parts and marks (two instances of Clone). -/
import Derived.Test.YtecljchifebljaaCK1
import Derived.Test.YtecljchifebljaaYAL
set_option linter.unusedVariables false
set_option linter.unusedSimpArgs false
namespace Go.Proofs.Ytecljchifebljaa
open Go Go.RowKit
theorem eq_nil27 (a : Addr) (n c : Nat) (w : World) : (binOp .eql 27 (.slice (some a) n c) (.slice none 0 0)).run Try.prog w = .ok (.bool false) w := by kernel_rfl
theorem nil_nil27 (w : World) : (binOp .eql 27 (.slice none 0 0) (.slice none 0 0)).run Try.prog w = .ok (.bool true) w := by kernel_rfl
theorem eq_nil25 (a : Addr) (n c : Nat) (w : World) : (binOp .eql 25 (.slice (some a) n c) (.slice none 0 0)).run Try.prog w = .ok (.bool false) w := by kernel_rfl
theorem nil_nil25 (w : World) : (binOp .eql 25 (.slice none 0 0) (.slice none 0 0)).run Try.prog w = .ok (.bool true) w := by kernel_rfl
/-- A row of data that the call owns; what these lead to are some of S. -/
def OwnDI (S : Nat → Prop) (B : Nat) (w : World) (v : Value) (ds : List Dt) : Prop :=
 ∃ xs, w.ownsRow B 29 5 v ds.length xs ∧ ∀ j (h : j < ds.length), ∃ cs : Array Value, cs.size = 5 ∧ (∀ i, i < 5 → xs[5 * j + i]? = cs[i]?) ∧ Dt.At S w ds[j] cs
theorem cells_of_rowD {S : Nat → Prop} {w : World} {l : List Dt} {g o : Nat} {arr : Array Value} {fz : Nat × Nat} (hg : w.heap[g]? = some (.cells arr 29 fz)) (h : Dts.At S w l arr o) :
  ∃ xs : List Value, xs.length = l.length * 5 ∧ (∀ u ∈ xs, u.oneCell' = true) ∧ (∀ j u, xs[j]? = some u → w.cell? ⟨g, o + j, none⟩ = some u) ∧ ∀ j (hj : j < l.length), ∃ cs : Array Value, cs.size = 5 ∧ (∀ i, i < 5 → xs[5 * j + i]? = cs[i]?) ∧ Dt.At S w l[j] cs := by
 have hall : ∀ j (hj : j < l.length), ∃ cs : Array Value, cs.size = 5 ∧ (∀ i, i < 5 → arr[o + 5 * j + i]? = cs[i]?) ∧ Dt.At S w l[j] cs ∧ ∀ u ∈ cs.toList, u.oneCell' = true := by
  intro j hj
  obtain ⟨cs, h1, h2⟩ := Dts.At.get l arr o h j hj
  obtain ⟨m1, l1, e, o1, o2⟩ := At_five h2
  refine ⟨cs, by rw [e]; rfl, h1, h2, fun u hu => ?_⟩
  rw [e] at hu
  simp only [List.mem_cons, List.not_mem_nil, or_false] at hu
  rcases hu with rfl | rfl | rfl | rfl | rfl <;> first | rfl | assumption
 have hin : ∀ k, k < l.length * 5 → ∃ u, arr[o + k]? = some u ∧ u.oneCell' = true := by
  intro k hk
  obtain ⟨cs, c5, h1, _, h3⟩ := hall (k / 5) (by omega)
  have hm : k % 5 < 5 := Nat.mod_lt _ (by decide)
  have e := h1 (k % 5) hm
  rw [show o + 5 * (k / 5) + k % 5 = o + k by omega, Array.getElem?_eq_getElem (xs := cs) (by rw [c5]; exact hm)] at e
  exact ⟨_, e, h3 _ (Array.mem_toList_iff.2 (Array.getElem_mem (by rw [c5]; exact hm)))⟩
 have hlen : ((arr.toList.drop o).take (l.length * 5)).length = l.length * 5 := by
  rw [List.length_take, List.length_drop]
  rcases Nat.eq_zero_or_pos l.length with h0 | h0
  ·rw [h0]; simp
  ·obtain ⟨u, hu, _⟩ := hin (l.length * 5 - 1) (by omega)
   have := (Array.getElem?_eq_some_iff.1 hu).1
   simp only [Array.length_toList]; omega
 have hget : ∀ k, k < l.length * 5 → ((arr.toList.drop o).take (l.length * 5))[k]? = arr[o + k]? := by
  intro k hk
  rw [List.getElem?_take, if_pos hk, List.getElem?_drop]; simp
 refine ⟨(arr.toList.drop o).take (l.length * 5), hlen, fun u hu => ?_, fun j u hj => ?_, fun j hj => ?_⟩
 ·obtain ⟨k, hk⟩ := List.mem_iff_getElem?.1 hu
  have hkl : k < l.length * 5 := by rw [← hlen]; exact (List.getElem?_eq_some_iff.1 hk).1
  rw [hget k hkl] at hk
  obtain ⟨u', hu', h1⟩ := hin k hkl
  rw [hk] at hu'; injection hu' with e; rw [e]; exact h1
 ·have hkl : j < l.length * 5 := by rw [← hlen]; exact (List.getElem?_eq_some_iff.1 hj).1
  rw [hget j hkl] at hj
  rw [Lib.cell_of_heap hg]; exact hj
 ·obtain ⟨cs, c5, h1, h2, _⟩ := hall j hj
  refine ⟨cs, c5, fun i hi => ?_, h2⟩
  rw [hget _ (by omega), ← h1 i hi]; congr 1; omega
def RetClD (S : Nat → Prop) (ds : List Dt) (w : World) (e : Ending) (w' : World) : Prop := ∃ v, e = .returned v ∧ OwnDI S w.heap.size w' v ds ∧ Below w.heap.size w w'
def RetClI (ms : List Int) (w : World) (e : Ending) (w' : World) : Prop := ∃ v, e = .returned v ∧ Nums w.heap.size w' v ms ∧ Below w.heap.size w w'
set_option maxHeartbeats 8000000 in
set_option maxRecDepth 100000 in
theorem cloneD_any {S : Nat → Prop} (ds : List Dt) (v : Value) (w : World) (hv : LAt S w v ds) (hl : ds.length ≤ 10000000) : Calls Try.prog 93 #[v] w (RetClD S ds w) := by
 rcases hv with ⟨rfl, rfl⟩ | ⟨g, o, cap, arr, fz, rfl, hS, hg, hd, _⟩
 ·have HQ := nil_nil25
  go_enter Try.func93, Try.ntmps93
  go_wp2_with fail
  go_ret
  exact ⟨_, rfl, ⟨[], World.ownsRow_nil _ _ _ _, fun j h => by simp at h⟩, Below.refl _ _⟩
 ·obtain ⟨xs, hxl, hx1, hxc, hxd⟩ := cells_of_rowD hg hd
  have hgl : g < w.heap.size := (Array.getElem?_eq_some_iff.1 hg).1
  obtain ⟨i, hi, hz, hs, hb⟩ := info_parts infoD
  have HQ := fun w => eq_nil25 ⟨g, o, none⟩ ds.length cap w
  have hb0 : Below w.heap.size w (w.alloc (.cells #[] 29)) := (Below.refl _ _).alloc (Nat.le_refl _) _
  have hown0 : (w.alloc (.cells #[] 29)).ownsRow w.heap.size 29 5 (.slice (some ⟨w.heap.size, 0, none⟩) 0 0) 0 [] := ⟨rfl, .inr ⟨w.heap.size, 0, #[], rfl, Nat.le_refl _, alloc_at w _, Nat.le_refl _, by decide, rfl, rfl⟩⟩
  have hcell : ∀ j u, xs[j]? = some u → (w.alloc (.cells #[] 29)).cell? ((⟨g, o, none⟩ : Addr).add j) = some u := fun j u hu => by
   rw [add_at]
   exact (hb0.cell (p := ⟨g, o + j, none⟩) hgl).trans (hxc j u hu)
  have HXD := Lib.hid hxd
  have HB0 := Lib.hid hb0
  have hbs1 : 0 + ds.length ≤ maxLen := Nat.le_trans (by omega : 0 + ds.length ≤ 10000000) (by decide)
  have hbs2 : (0 + ds.length) * 80 ≤ 140737488355328 := by omega
  have hbs3 : w.heap.size ≤ (w.alloc (.cells #[] 29)).heap.size := by simp
  have HS := Lib.hid hd
  clear hxd hb0 hd hg hxc
  go_enter Try.func93, Try.ntmps93
  go_wp2_with (at_builtin; refine wpList_append_own_at _ rfl _ _ 25 rfl w.heap.size 29 i (.agg Z5) 5 80 Try.underlying25 hi hz hs hb rfl (by decide) _ _ _ rfl hown0 ⟨g, o, none⟩ ds.length cap xs rfl hxl hcell hx1 hbs1 hbs2 hbs3 ?_; intro v' w1 hown' hgrow hnil hloc)
  go_ret
  have hbw : Below w.heap.size w w1 := HB0.out.grown hgrow hbs3 (fun k e => by cases e; exact Nat.le_refl _)
  refine ⟨_, rfl, ⟨xs, by simpa using hown', fun j hj => ?_⟩, hbw⟩
  obtain ⟨cs, c5, h1, h2⟩ := HXD.out j hj
  exact ⟨cs, c5, h1, Dt.At.keeps (Keeps.of_below hbw) _ _ h2⟩
set_option maxHeartbeats 8000000 in
set_option maxRecDepth 100000 in
theorem cloneI_any {S : Nat → Prop} (ms : List Int) (v : Value) (w : World) (hv : MAt S w v ms) (hl : ms.length ≤ 1000000000) : Calls Try.prog 92 #[v] w (RetClI ms w) := by
 rcases hv with ⟨rfl, rfl⟩ | ⟨g, o, cap, arr, fz, rfl, hS, hg, hd, _⟩
 ·have HQ := nil_nil27
  go_enter Try.func92, Try.ntmps92
  go_wp2_with fail
  go_ret
  exact ⟨_, rfl, World.ownsRow_nil _ _ _ _, Below.refl _ _⟩
 ·have hgl : g < w.heap.size := (Array.getElem?_eq_some_iff.1 hg).1
  obtain ⟨i, hi, hz, hs, hb⟩ := info_parts infoI
  have HQ := fun w => eq_nil27 ⟨g, o, none⟩ ms.length cap w
  have hb0 : Below w.heap.size w (w.alloc (.cells #[] 3)) := (Below.refl _ _).alloc (Nat.le_refl _) _
  have hown0 : (w.alloc (.cells #[] 3)).ownsRow w.heap.size 3 1 (.slice (some ⟨w.heap.size, 0, none⟩) 0 0) 0 [] := ⟨rfl, .inr ⟨w.heap.size, 0, #[], rfl, Nat.le_refl _, alloc_at w _, Nat.le_refl _, by decide, rfl, rfl⟩⟩
  have hcell : ∀ j u, (ms.map (Value.int .i64))[j]? = some u → (w.alloc (.cells #[] 3)).cell? ((⟨g, o, none⟩ : Addr).add j) = some u := fun j u hu => by
   rw [add_at]
   have hj : j < ms.length := by have := (List.getElem?_eq_some_iff.1 hu).1; simpa using this
   rw [List.getElem?_map, List.getElem?_eq_getElem hj] at hu
   refine (hb0.cell (p := ⟨g, o + j, none⟩) hgl).trans ?_
   rw [Lib.cell_of_heap hg]
   exact (hd j hj).trans hu
  have hx1 : ∀ u ∈ ms.map (Value.int .i64), u.oneCell' = true := fun u hu => by obtain ⟨x, _, rfl⟩ := List.mem_map.1 hu; rfl
  have hxl : (ms.map (Value.int .i64)).length = ms.length * 1 := by simp
  have HB0 := Lib.hid hb0
  have hbs1 : 0 + ms.length ≤ maxLen := Nat.le_trans (by omega : 0 + ms.length ≤ 1000000000) (by decide)
  have hbs2 : (0 + ms.length) * 8 ≤ 140737488355328 := by omega
  have hbs3 : w.heap.size ≤ (w.alloc (.cells #[] 3)).heap.size := by simp
  clear hb0 hd hg
  go_enter Try.func92, Try.ntmps92
  go_wp2_with (at_builtin; refine wpList_append_own_at _ rfl _ _ 27 rfl w.heap.size 3 i (.int .i64 0) 1 8 Try.underlying27 hi hz hs hb rfl (by decide) _ _ _ rfl hown0 ⟨g, o, none⟩ ms.length cap _ rfl hxl hcell hx1 hbs1 hbs2 hbs3 ?_; intro v' w1 hown' hgrow hnil hloc)
  go_ret
  have hbw : Below w.heap.size w w1 := HB0.out.grown hgrow hbs3 (fun k e => by cases e; exact Nat.le_refl _)
  exact ⟨_, rfl, by unfold Nums; simpa using hown', hbw⟩
end Go.Proofs.Ytecljchifebljaa
