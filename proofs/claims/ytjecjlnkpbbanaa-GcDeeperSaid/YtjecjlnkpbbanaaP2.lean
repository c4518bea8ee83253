/- Tag; a copy of values; Ptrs, Nums. -/
import Derived.Test.YtjecjlnkpbbanaaP1
import Derived.Test.YtjecjlnkpbbanaaM2
namespace Go.Proofs.Ytjecjlnkpbbanaa
open Go Go.RowKit
set_option linter.unusedVariables false
set_option linter.unusedSimpArgs false
theorem Wd.hd_eq {x y : Wd} (h : x.hd = y.hd) : x.t = y.t ∧ x.p = y.p ∧ x.n = y.n ∧ x.s = y.s := by
  obtain ⟨a, b, c, d, e⟩ := x
  obtain ⟨a', b', c', d', e'⟩ := y
  simp [Wd.hd] at h
  simp; omega
theorem hdAt_eq (os : List Ob) (a : Int) : (hdAt (wds os) a).hd = (hdo os a).hd := hdAt_wds rfl a
theorem hdo_low {os : List Ob} (hk : Oks os) (a : Int) : (hdo os a).low := by
  unfold hdo
  cases h : ob os a with
  | none => simp [Wd.low]
  | some o =>
    have := hk o (ob_mem h)
    have e : o.size = o.body.length + 1 := rfl
    exact ⟨by have := this.t2; simp [Ob.head]; omega, by have := this.p; simp [Ob.head]; omega, by have := this.n; simp [Ob.head]; omega, by have := this.b2; simp [Ob.head]; omega⟩
/-- The heap at b is these objects. -/
def HpO (w : World) (b : Nat) (G : Option Nat) (os : List Ob) (m : Nat) : Prop := Hp w b G (wds os) m ∧ Oks os ∧ Closed os ∧ m ≤ 1000000 ∧ total os ≤ m
theorem HpO.below {w w' : World} {b : Nat} {G : Option Nat} {os : List Ob} {m : Nat} (h : HpO w b G os m) (hb : Below w.heap.size w w') : HpO w' b G os m := ⟨h.1.below hb, h.2⟩
theorem head_o {w : World} {b : Nat} {G : Option Nat} {os : List Ob} {m : Nat} (h : HpO w b G os m) (a : Int) (ha : -9223372036854775808 ≤ a) (hb : a ≤ 9223372036854775807) :
    Calls Try.prog 46 #[.pointer (some ⟨b, 0, none⟩), .int .i64 a] w (RetV (.agg (hdo os a).hd) w) := by
  have := head_any h.1 a ha hb
  rw [hdAt_eq] at this
  exact this
theorem tagm_any {w : World} {b : Nat} {G : Option Nat} {os : List Ob} {m : Nat} (h : HpO w b G os m) (a : Int) (ha : -9223372036854775808 ≤ a) (hb : a ≤ 9223372036854775807) :
    Calls Try.prog 22 #[.pointer (some ⟨b, 0, none⟩), .int .i64 a] w (RetV (.int .i64 ((hdo os a).t : Nat)) w) := by
  have F := Lib.hid (head_o h a ha hb)
  have hl := (hdo_low h.2.1 a).1
  have hbl := h.1.lt
  obtain ⟨ao, cap, h0, _⟩ := h.1.cell
  clear h
  generalize hdo os a = x at F hl
  go_enter Try.func22, Try.ntmps22
  go_wp2_with fail
  refine F.out.mono ?_
  rintro e w' ⟨rfl, hw'⟩
  have HB := Lib.hid hw'
  clear hw' F
  go_wp2_with fail
  refine (tag_any x.t x.p x.n x.s hl _).mono ?_
  rintro e w2 ⟨rfl, hw2⟩
  have HB2 := Lib.hid (HB.out.trans (hw2.mono HB.out.size))
  clear hw2 HB
  go_wp2_with fail
  go_ret
  exact ⟨rfl, HB2.out⟩
/-- A row of numbers of the call's own. -/
def RetI (xs : List Int) (w : World) (e : Ending) (w' : World) : Prop :=
  ∃ v, e = .returned v ∧ w'.ownsRow w.heap.size 3 1 v xs.length (xs.map (Value.int .i64)) ∧ Below w.heap.size w w'
def ivals (l : List Int) : Array Value := (l.map (Value.int .i64)).toArray
theorem ivals_size (l : List Int) : (ivals l).size = l.length := by simp [ivals]
theorem ivals_set (l : List Int) (j : Nat) (v : Int) : (ivals l).setIfInBounds j (.int .i64 v) = ivals (l.set j v) := by
  unfold ivals
  rw [List.setIfInBounds_toArray, ← List.map_set]
theorem made_ivals (n : Nat) : madeCells (Value.int .i64 0).cells n = ivals (List.replicate n 0) := by
  apply Array.ext
  · rw [size_madeCells, ivals_size, List.length_replicate]
  · intro i h1 h2
    simp [madeCells, ivals, Value.cells, Nat.mod_one]
theorem infoI3 : (Try.prog.info? 3).map (fun i => (i.zero, i.size, i.bytes)) = some (some (.int .i64 0), 1, 8) := by kernel_rfl
theorem info_parts {P : Program} {t : TypeId} {z : Value} {s b : Nat} (h : (P.info? t).map (fun i => (i.zero, i.size, i.bytes)) = some (some z, s, b)) : ∃ i, P.info? t = some i ∧ i.zero = some z ∧ i.size = s ∧ i.bytes = b := by
  cases hi : P.info? t with
  | none => rw [hi] at h; simp at h
  | some i => rw [hi] at h; simp at h; exact ⟨i, rfl, h.1, h.2.1, h.2.2⟩
theorem run_make_ints (n : Nat) (hn : n ≤ 1000000) (w : World) :
    (Instr.makeSlice 22 (.int .i64 n) (.int .i64 n)).run Try.prog w = .ok (.slice (some ⟨w.heap.size, 0, none⟩) n n) (w.alloc (.cells (ivals (List.replicate n 0)) 3)) := by
  obtain ⟨i, hi, hz, h1, h2⟩ := info_parts infoI3
  have := run_make (P := Try.prog) w 22 3 i (.int .i64 0) Try.underlying22 hi hz .i64 .i64 n n (by omega) (Int.le_refl _) (by rw [h2]; omega) (by omega)
  rw [h1, Nat.mul_one, made_ivals, Int.toNat_natCast] at this
  exact this
/-- A block of numbers. -/
def IRw (w : World) (g : Nat) (l : List Int) : Prop := w.heap[g]? = some (.cells (ivals l) 3 (0, 0))
theorem IRw.put {w : World} {g : Nat} {l : List Int} (h : IRw w g l) (j : Nat) (v : Int) : IRw (w.setCell ⟨g, j, none⟩ (.int .i64 v)) g (l.set j v) := by
  have := heap_setCell_same w g j _ 3 (.int .i64 v) h
  rw [ivals_set] at this
  exact this
theorem IRw.cell {w : World} {g : Nat} {l : List Int} (h : IRw w g l) (j : Nat) (hj : j < l.length) : w.cell? ⟨g, j, none⟩ = some (.int .i64 l[j]) := by
  rw [cell_of_row w g j _ _ _ h]
  unfold ivals
  rw [List.getElem?_toArray, List.getElem?_map, List.getElem?_eq_getElem hj]; rfl
theorem IRw.lt {w : World} {g : Nat} {l : List Int} (h : IRw w g l) : g < w.heap.size := (Array.getElem?_eq_some_iff.1 h).1
theorem IRw.owns {w : World} {g B : Nat} {l : List Int} (h : IRw w g l) (hB : B ≤ g) (hm : l.length ≤ 1000000) : w.ownsRow B 3 1 (.slice (some ⟨g, 0, none⟩) l.length l.length) l.length (l.map (Value.int .i64)) := by
  refine ⟨by simp, .inr ⟨g, _, _, rfl, hB, h, Nat.le_refl _, by unfold maxLen; omega, by simp [ivals], ?_⟩⟩
  simp only [ivals, Nat.mul_one]
  rw [List.take_of_length_le (by simp)]
theorem take_set_snoc {xs l : List Int} {k : Nat} (hk : k < xs.length) (hl : l.length = xs.length) (h : l.take k = xs.take k) : (l.set k xs[k]).take (k + 1) = xs.take (k + 1) := by
  rw [List.take_succ_eq_append_getElem hk, List.take_succ_eq_append_getElem (by simp; omega)]
  simp [h, List.take_set_of_le]
/-- The copy's loop. -/
def VInv (xs : List Int) (w : World) (iv : Value) (wr : World) : Prop :=
  ∃ (k : Nat) (l : List Int), k ≤ xs.length ∧ iv = .int .i64 (k : Int) ∧ l.length = xs.length ∧ l.take k = xs.take k ∧ IRw wr w.heap.size l ∧ Below w.heap.size w wr
theorem values_any {w : World} {b : Nat} {G : Option Nat} {os : List Ob} {m : Nat} (h : HpO w b G os m) (f : Int) (xs : List Int) (hf1 : -9000000000 ≤ f) (hf2 : f ≤ 9000000000) (hx : ∀ i (hi : i < xs.length), 0 ≤ f ∧ (wds os)[f.toNat + i]? = some ⟨0, 0, 0, 0, xs[i]⟩) (hlen : xs.length ≤ 200) :
    Calls Try.prog 48 #[.pointer (some ⟨b, 0, none⟩), .int .i64 f, .int .i64 xs.length] w (RetI xs w) := by
  have hmk := run_make_ints xs.length (by omega) w
  have hC := h.1
  have HC := Lib.hid (fun wr (hb : Below w.heap.size w wr) => (hC.below hb).cell)
  have hbl := hC.lt
  have hGl := hC.glt
  have hX := Lib.hid hx
  have H0 : VInv xs w (.int .i64 0) (w.alloc (.cells (ivals (List.replicate xs.length 0)) 3)) :=
    ⟨0, _, Nat.zero_le _, rfl, by simp, by simp, alloc_at w _, (Below.refl _ _).alloc (Nat.le_refl _) _⟩
  have h0' := Lib.hid H0
  have hwl : (wds os).length ≤ 1000000 := by obtain ⟨_, _, _, _, h1, _⟩ := hC; exact h1
  generalize hW : w.alloc (.cells (ivals (List.replicate xs.length 0)) 3) = W1 at hmk h0'
  clear hx H0 hW h hC
  obtain ⟨n, hn⟩ : ∃ n, n = xs.length := ⟨_, rfl⟩
  rw [← hn] at hlen hmk ⊢
  have hN := Lib.hid hn
  clear hn
  go_enter Try.func48, Try.ntmps48
  obtain ⟨g0, hg0⟩ : ∃ g0, w.heap.size = g0 := ⟨_, rfl⟩
  rw [hg0] at hmk
  have HG0 := Lib.hid hg0
  clear hg0
  go_wp2
  go_loopw [13] (fun iv wr => VInv xs w iv wr) (fun iv _ => n - (intOf iv).toNat)
  case atStart => exact h0'.out
  case round =>
    clear h0' hmk
    obtain ⟨k, l, hk, rfl, hll, htk, hrow, hbel⟩ := hrel
    rw [← hN.out] at hk
    have HB := Lib.hid hbel
    have HT := Lib.hid htk
    have HL := Lib.hid hll
    have HR := Lib.hid hrow
    clear htk hll hrow hbel
    by_cases hkn : k < n
    · have q1 : decide ((k : Int) < (n : Int)) = true := decide_eq_true (by omega)
      have hkx : k < xs.length := by rw [← hN.out]; exact hkn
      obtain ⟨hf0, hx⟩ := hX.out k hkx
      obtain ⟨fn, rfl⟩ : ∃ fn : Nat, f = fn := ⟨f.toNat, by omega⟩
      obtain ⟨j, hj⟩ : ∃ j, j = fn + k := ⟨_, rfl⟩
      rw [Int.toNat_natCast, ← hj] at hx
      have hjl : j < (wds os).length := (List.getElem?_eq_some_iff.1 hx).1
      have hje := (List.getElem?_eq_some_iff.1 hx).2
      obtain ⟨ao, cap, hc0, _, _, hcap, hc⟩ := HC.out wr HB.out
      obtain ⟨g, rfl, hG, _, _, _, _, _, hcv⟩ := hc j hjl
      rw [hje] at hcv
      simp only at hcv
      have hfj : (fn : Int) + (k : Int) = (j : Int) := by omega
      obtain ⟨y, hy⟩ : ∃ y, y = xs[k] := ⟨_, rfl⟩
      rw [← hy] at hcv
      obtain ⟨L, hLd⟩ : ∃ L, L = (wds os).length := ⟨_, rfl⟩
      rw [← hLd] at hc0 hcap hjl hwl
      have hjL : (j : Int) < (L : Int) := by omega
      have HREL : Hid (VInv xs w (.int .i64 ((k : Int) + 1)) (wr.setCell ⟨g0, k, none⟩ (.int .i64 y))) := by
        refine ⟨k + 1, l.set k y, by omega, by go_num, by simp [HL.out], ?_, ?_, ?_⟩
        · rw [hy]; exact take_set_snoc hkx HL.out HT.out
        · rw [HG0.out]; have := HR.out; rw [HG0.out] at this; exact this.put k y
        · exact HB.out.setCell (p := ⟨g0, k, none⟩) (by show w.heap.size ≤ g0; rw [HG0.out]; exact Nat.le_refl _) _
      have hcl : wr.cell? ⟨g0, k, none⟩ = some (.int .i64 (l[k]'(by rw [HL.out]; exact hkx))) := by
        have := HR.out; rw [HG0.out] at this; exact this.cell k _
      have hfr : wr.frozen? ⟨g0, k, none⟩ = false := by
        have := HR.out; rw [HG0.out] at this; exact frozen_of_row wr g0 k _ 3 this
      generalize l[k]'(by rw [HL.out]; exact hkx) = z at hcl
      clear hx hje hc hG hLd hj hy
      go_wp2
      go_roundw
      case rel => exact HREL.out
      case measure => simp [intOf]; omega
    · have q1 : decide ((k : Int) < (n : Int)) = false := decide_eq_false (by omega)
      have hkn2 : k = xs.length := by rw [← hN.out]; omega
      have HE : Hid (∃ v, Value.slice (some ⟨g0, 0, none⟩) n n = v ∧ wr.ownsRow w.heap.size 3 1 v xs.length (xs.map (Value.int .i64))) := by
        refine ⟨_, rfl, ?_⟩
        have hl : l = xs := by
          have := HT.out; rw [hkn2, List.take_of_length_le (by rw [HL.out]; exact Nat.le_refl _), List.take_length] at this; exact this
        have := HR.out
        rw [hl, HG0.out] at this
        rw [hN.out, HG0.out]
        exact this.owns (Nat.le_refl _) (by rw [← hN.out]; omega)
      clear hkn2
      go_wp2
      go_ret
      obtain ⟨v, hv, ho⟩ := HE.out
      exact ⟨_, rfl, hv ▸ ho, HB.out⟩
end Go.Proofs.Ytjecjlnkpbbanaa
