/- The writer's term; Text. -/
import Derived.Test.YtcalbcllmmoldaaTX2
import Derived.Test.YtcalbcllmmoldaaSHL
import Derived.Test.YtcalbcllmmoldaaM0
import Derived.Test.YtcalbcllmmoldaaK1
namespace Go.Proofs.Ytcalbcllmmoldaa
open Go.RowKit Go.BigM
set_option linter.unusedVariables false
set_option linter.unusedSimpArgs false
theorem jn_is : ∀ (ns : List ByteArray), Lib.join (ns.map (·.data.toList)) [32] = jn ns
  | [] => rfl
  | [s] => by simp [Lib.join, jn, List.intercalate]
  | s :: s2 :: l => by
    have := jn_is (s2 :: l)
    unfold Lib.join at this ⊢
    simp only [List.map_cons] at this ⊢
    rw [List.intercalate_cons_cons, this]
    simp [jn]
theorem join_any (ns : List ByteArray) (S : Nat → Prop) (nv : Value) (w : World) (h : NAt S w nv ns) (hl : (jn ns).length ≤ 1000000000) (hn : ns.length ≤ 1000000) : Calls Try.prog 58 #[nv, .string ⟨#[32]⟩] w (RetStr ⟨(jn ns).toArray⟩ w) := by
  rcases h with ⟨rfl, rfl⟩ | ⟨g, o, cap, arr, fz, rfl, hS, hg, hd, hc⟩
  · refine (Try.strings_Join_none none 0 ⟨#[32]⟩ w).mono ?_
    rintro e w' ⟨rfl, rfl⟩
    exact ⟨rfl, Below.refl _ _⟩
  · have := Try.strings_Join g o cap ns ⟨#[32]⟩ w (fun j x hx => by
      obtain ⟨hj, hx⟩ := List.getElem?_eq_some_iff.1 hx
      rw [Lib.cell_of_heap hg, ← hx]; exact hd j hj) (Array.getElem?_eq_some_iff.1 hg).1 (by omega) hc (by
      show (Lib.join (ns.map (·.data.toList)) [32]).length ≤ _
      rw [jn_is]; omega)
    refine this.mono ?_
    rintro e w' ⟨rfl, hb⟩
    refine ⟨?_, hb⟩
    show _ = Ending.returned (Value.string ⟨(jn ns).toArray⟩)
    rw [← jn_is]
theorem Wr.below {B b : Nat} {l : List UInt8} {w w' : World} (h : Wr B b l w) (k : Below w.heap.size w w') : Wr B b l w' := by
  have H : ∀ p, Lib.BuilderAt 63 5 B b p (Lib.byteCells l) w → Lib.BuilderAt 63 5 B b p (Lib.byteCells l) w' := by
    intro p h
    obtain ⟨hB, v, hb, hown, hne⟩ := h
    exact ⟨hB, v, row_below k hb, World.ownsRow.kept hown (grownRow_of k none) (by cases v.ownBlock <;> simp), hne⟩
  rcases h with h | h
  · exact .inl (H _ h)
  · exact .inr (H _ h)
theorem others_below {e : TypeId} {b : Option Nat} {w w' : World} (k : Below w.heap.size w w') : Lib.OthersKept e b w w' := fun i o hi _ _ => by
  rw [k.block i (Array.getElem?_eq_some_iff.1 hi).1]; exact hi
theorem arity_none : arity ⟨#[]⟩ = 0 := by simp [arity, arityIn, prims, Lib.toList_data]
set_option maxHeartbeats 8000000 in
set_option maxRecDepth 100000 in
theorem term1 (t : ByteArray) (ns : List ByteArray) (a : List Et) (ih : ∀ e ∈ a, TC e) (hl : a.length ≤ 100000) (hnl : ns.length ≤ 100) : TC (.mk 1 t ns a) := by
  intro B b l0 S cs w hat hW hlen hBw
  have HW := hW
  rw [wr_mk] at hlen ⊢
  rw [if_neg (show ¬ (1 : Int) = 3 by decide)] at hlen ⊢
  rw [if_neg (show ¬ (1 : Int) = 4 by decide)] at hlen ⊢
  rw [if_neg (show ¬ (1 : Int) = 6 by decide)] at hlen ⊢
  rw [if_neg (show ¬ (1 : Int) = 7 by decide)] at hlen ⊢
  rw [if_neg (show ¬ (1 : Int) = 8 by decide)] at hlen ⊢
  rw [if_neg (show ¬ (1 : Int) = 9 by decide)] at hlen ⊢
  rw [if_neg (show ¬ (1 : Int) = 10 by decide)] at hlen ⊢
  rw [EAt_mk] at hat
  obtain ⟨nv, av, rfl, hm, hla⟩ := hat
  have o1 := hm.one
  have o2 := hla.one
  obtain ⟨no, nc, rfl⟩ := hm.form
  obtain ⟨ao, ac, rfl⟩ := hla.form
  have A1 := Lib.hid ((Below.refl w.heap.size w).alloc (Nat.le_refl _) (.cells #[.int .i64 1, .string t, .slice no ns.length nc, .slice ao a.length ac] 28))
  have HW1 := Lib.hid (hW.alloc (.cells #[.int .i64 1, .string t, .slice no ns.length nc, .slice ao a.length ac] 28))
  have HF1 := Lib.hid ((Fr.refl B b w).alloc hBw (.cells #[.int .i64 1, .string t, .slice no ns.length nc, .slice ao a.length ac] 28))
  have HE1 : Hid (EB (w.alloc (.cells #[.int .i64 1, .string t, .slice no ns.length nc, .slice ao a.length ac] 28)) w.heap.size 1 t (.slice no ns.length nc) (.slice ao a.length ac)) := alloc_at _ _
  have HM1 := Lib.hid (hm.keeps (Keeps.of_below A1.out))
  have HA1 := Lib.hid (hla.keeps (Keeps.of_below A1.out))
  have hB1 : B ≤ (w.alloc (.cells #[.int .i64 1, .string t, .slice no ns.length nc, .slice ao a.length ac] 28)).heap.size := by simp; omega
  have hgb : w.heap.size ≠ b := by have := hW.lt; omega
  have hg1 : w.heap.size < (w.alloc (.cells #[.int .i64 1, .string t, .slice no ns.length nc, .slice ao a.length ac] 28)).heap.size := by simp
  have HL := Lib.hid hlen
  have IH := Lib.hid ih
  clear hm hla hlen ih hW HW
  go_enter Try.func42, Try.ntmps42
  go_upto_region 1 with fail
  generalize w.alloc (.cells #[.int .i64 1, .string t, .slice no ns.length nc, .slice ao a.length ac] 28) = W1 at A1 HW1 HF1 HE1 HM1 HA1 hB1 hg1 ⊢
  obtain ⟨gs, hgs⟩ : ∃ gs, gs = w.heap.size := ⟨_, rfl⟩
  rw [← hgs] at HE1 hgb hg1
  simp only [← hgs]
  clear hgs A1
  obtain ⟨c0, c1, c2, c3⟩ := EB.cell _ _ _ _ _ _ HE1.out
  have P5 := Lib.hid (put_any B b l0 [t] _ _ _ (NAt.lits W1 [t]) (HW1.out.alloc _) (by have h1 := HL.out; have h2 := Lib.size_eq t; simp [cat] at h1 ⊢; omega) (by simp) (by simp; omega))
  have F5 := Lib.hid (HF1.out.alloc hB1 (.cells (tcells [t]) 9))
  go_wp2_with fail
  refine P5.out.mono ?_
  rintro e w5 ⟨rfl, hW5, hF5⟩
  have HW5 := Lib.hid hW5
  have HF5 := Lib.hid (F5.out.trans hF5)
  clear hW5 hF5
  go_wp2_with fail
  go_end0
  exact ⟨rfl, by simpa [cat] using HW5.out, HF5.out⟩
set_option maxHeartbeats 8000000 in
set_option maxRecDepth 100000 in
theorem term2 (t : ByteArray) (ns : List ByteArray) (a : List Et) (ih : ∀ e ∈ a, TC e) (hl : a.length ≤ 100000) (hnl : ns.length ≤ 100) : TC (.mk 2 t ns a) := by
  intro B b l0 S cs w hat hW hlen hBw
  have HW := hW
  rw [wr_mk] at hlen ⊢
  rw [if_neg (show ¬ (2 : Int) = 3 by decide)] at hlen ⊢
  rw [if_neg (show ¬ (2 : Int) = 4 by decide)] at hlen ⊢
  rw [if_neg (show ¬ (2 : Int) = 6 by decide)] at hlen ⊢
  rw [if_neg (show ¬ (2 : Int) = 7 by decide)] at hlen ⊢
  rw [if_neg (show ¬ (2 : Int) = 8 by decide)] at hlen ⊢
  rw [if_neg (show ¬ (2 : Int) = 9 by decide)] at hlen ⊢
  rw [if_neg (show ¬ (2 : Int) = 10 by decide)] at hlen ⊢
  rw [EAt_mk] at hat
  obtain ⟨nv, av, rfl, hm, hla⟩ := hat
  have o1 := hm.one
  have o2 := hla.one
  obtain ⟨no, nc, rfl⟩ := hm.form
  obtain ⟨ao, ac, rfl⟩ := hla.form
  have A1 := Lib.hid ((Below.refl w.heap.size w).alloc (Nat.le_refl _) (.cells #[.int .i64 2, .string t, .slice no ns.length nc, .slice ao a.length ac] 28))
  have HW1 := Lib.hid (hW.alloc (.cells #[.int .i64 2, .string t, .slice no ns.length nc, .slice ao a.length ac] 28))
  have HF1 := Lib.hid ((Fr.refl B b w).alloc hBw (.cells #[.int .i64 2, .string t, .slice no ns.length nc, .slice ao a.length ac] 28))
  have HE1 : Hid (EB (w.alloc (.cells #[.int .i64 2, .string t, .slice no ns.length nc, .slice ao a.length ac] 28)) w.heap.size 2 t (.slice no ns.length nc) (.slice ao a.length ac)) := alloc_at _ _
  have HM1 := Lib.hid (hm.keeps (Keeps.of_below A1.out))
  have HA1 := Lib.hid (hla.keeps (Keeps.of_below A1.out))
  have hB1 : B ≤ (w.alloc (.cells #[.int .i64 2, .string t, .slice no ns.length nc, .slice ao a.length ac] 28)).heap.size := by simp; omega
  have hgb : w.heap.size ≠ b := by have := hW.lt; omega
  have hg1 : w.heap.size < (w.alloc (.cells #[.int .i64 2, .string t, .slice no ns.length nc, .slice ao a.length ac] 28)).heap.size := by simp
  have HL := Lib.hid hlen
  have IH := Lib.hid ih
  clear hm hla hlen ih hW HW
  go_enter Try.func42, Try.ntmps42
  go_upto_region 1 with fail
  generalize w.alloc (.cells #[.int .i64 2, .string t, .slice no ns.length nc, .slice ao a.length ac] 28) = W1 at A1 HW1 HF1 HE1 HM1 HA1 hB1 hg1 ⊢
  obtain ⟨gs, hgs⟩ : ∃ gs, gs = w.heap.size := ⟨_, rfl⟩
  rw [← hgs] at HE1 hgb hg1
  simp only [← hgs]
  clear hgs A1
  obtain ⟨c0, c1, c2, c3⟩ := EB.cell _ _ _ _ _ _ HE1.out
  have P5 := Lib.hid (put_any B b l0 [t] _ _ _ (NAt.lits W1 [t]) (HW1.out.alloc _) (by have h1 := HL.out; have h2 := Lib.size_eq t; simp [cat] at h1 ⊢; omega) (by simp) (by simp; omega))
  have F5 := Lib.hid (HF1.out.alloc hB1 (.cells (tcells [t]) 9))
  go_wp2_with fail
  refine P5.out.mono ?_
  rintro e w5 ⟨rfl, hW5, hF5⟩
  have HW5 := Lib.hid hW5
  have HF5 := Lib.hid (F5.out.trans hF5)
  clear hW5 hF5
  go_wp2_with fail
  go_end0
  exact ⟨rfl, by simpa [cat] using HW5.out, HF5.out⟩
set_option maxHeartbeats 8000000 in
set_option maxRecDepth 100000 in
theorem term5 (t : ByteArray) (ns : List ByteArray) (a : List Et) (ih : ∀ e ∈ a, TC e) (hl : a.length ≤ 100000) (hnl : ns.length ≤ 100) : TC (.mk 5 t ns a) := by
  intro B b l0 S cs w hat hW hlen hBw
  have HW := hW
  rw [wr_mk] at hlen ⊢
  rw [if_neg (show ¬ (5 : Int) = 3 by decide)] at hlen ⊢
  rw [if_neg (show ¬ (5 : Int) = 4 by decide)] at hlen ⊢
  rw [if_neg (show ¬ (5 : Int) = 6 by decide)] at hlen ⊢
  rw [if_neg (show ¬ (5 : Int) = 7 by decide)] at hlen ⊢
  rw [if_neg (show ¬ (5 : Int) = 8 by decide)] at hlen ⊢
  rw [if_neg (show ¬ (5 : Int) = 9 by decide)] at hlen ⊢
  rw [if_neg (show ¬ (5 : Int) = 10 by decide)] at hlen ⊢
  rw [EAt_mk] at hat
  obtain ⟨nv, av, rfl, hm, hla⟩ := hat
  have o1 := hm.one
  have o2 := hla.one
  obtain ⟨no, nc, rfl⟩ := hm.form
  obtain ⟨ao, ac, rfl⟩ := hla.form
  have A1 := Lib.hid ((Below.refl w.heap.size w).alloc (Nat.le_refl _) (.cells #[.int .i64 5, .string t, .slice no ns.length nc, .slice ao a.length ac] 28))
  have HW1 := Lib.hid (hW.alloc (.cells #[.int .i64 5, .string t, .slice no ns.length nc, .slice ao a.length ac] 28))
  have HF1 := Lib.hid ((Fr.refl B b w).alloc hBw (.cells #[.int .i64 5, .string t, .slice no ns.length nc, .slice ao a.length ac] 28))
  have HE1 : Hid (EB (w.alloc (.cells #[.int .i64 5, .string t, .slice no ns.length nc, .slice ao a.length ac] 28)) w.heap.size 5 t (.slice no ns.length nc) (.slice ao a.length ac)) := alloc_at _ _
  have HM1 := Lib.hid (hm.keeps (Keeps.of_below A1.out))
  have HA1 := Lib.hid (hla.keeps (Keeps.of_below A1.out))
  have hB1 : B ≤ (w.alloc (.cells #[.int .i64 5, .string t, .slice no ns.length nc, .slice ao a.length ac] 28)).heap.size := by simp; omega
  have hgb : w.heap.size ≠ b := by have := hW.lt; omega
  have hg1 : w.heap.size < (w.alloc (.cells #[.int .i64 5, .string t, .slice no ns.length nc, .slice ao a.length ac] 28)).heap.size := by simp
  have HL := Lib.hid hlen
  have IH := Lib.hid ih
  clear hm hla hlen ih hW HW
  go_enter Try.func42, Try.ntmps42
  go_upto_region 1 with fail
  generalize w.alloc (.cells #[.int .i64 5, .string t, .slice no ns.length nc, .slice ao a.length ac] 28) = W1 at A1 HW1 HF1 HE1 HM1 HA1 hB1 hg1 ⊢
  obtain ⟨gs, hgs⟩ : ∃ gs, gs = w.heap.size := ⟨_, rfl⟩
  rw [← hgs] at HE1 hgb hg1
  simp only [← hgs]
  clear hgs A1
  obtain ⟨c0, c1, c2, c3⟩ := EB.cell _ _ _ _ _ _ HE1.out
  have P5 := Lib.hid (put_any B b l0 [t] _ _ _ (NAt.lits W1 [t]) (HW1.out.alloc _) (by have h1 := HL.out; have h2 := Lib.size_eq t; simp [cat] at h1 ⊢; omega) (by simp) (by simp; omega))
  have F5 := Lib.hid (HF1.out.alloc hB1 (.cells (tcells [t]) 9))
  go_wp2_with fail
  refine P5.out.mono ?_
  rintro e w5 ⟨rfl, hW5, hF5⟩
  have HW5 := Lib.hid hW5
  have HF5 := Lib.hid (F5.out.trans hF5)
  clear hW5 hF5
  go_wp2_with fail
  go_end0
  exact ⟨rfl, by simpa [cat] using HW5.out, HF5.out⟩
set_option maxHeartbeats 8000000 in
set_option maxRecDepth 100000 in
theorem term3 (t : ByteArray) (ns : List ByteArray) (a : List Et) (ih : ∀ e ∈ a, TC e) (hl : a.length ≤ 100000) (hnl : ns.length ≤ 100) : TC (.mk 3 t ns a) := by
  intro B b l0 S cs w hat hW hlen hBw
  have HW := hW
  rw [wr_mk] at hlen ⊢
  rw [if_pos rfl] at hlen ⊢
  rw [EAt_mk] at hat
  obtain ⟨nv, av, rfl, hm, hla⟩ := hat
  have o1 := hm.one
  have o2 := hla.one
  obtain ⟨no, nc, rfl⟩ := hm.form
  obtain ⟨ao, ac, rfl⟩ := hla.form
  have A1 := Lib.hid ((Below.refl w.heap.size w).alloc (Nat.le_refl _) (.cells #[.int .i64 3, .string t, .slice no ns.length nc, .slice ao a.length ac] 28))
  have HW1 := Lib.hid (hW.alloc (.cells #[.int .i64 3, .string t, .slice no ns.length nc, .slice ao a.length ac] 28))
  have HF1 := Lib.hid ((Fr.refl B b w).alloc hBw (.cells #[.int .i64 3, .string t, .slice no ns.length nc, .slice ao a.length ac] 28))
  have HE1 : Hid (EB (w.alloc (.cells #[.int .i64 3, .string t, .slice no ns.length nc, .slice ao a.length ac] 28)) w.heap.size 3 t (.slice no ns.length nc) (.slice ao a.length ac)) := alloc_at _ _
  have HM1 := Lib.hid (hm.keeps (Keeps.of_below A1.out))
  have HA1 := Lib.hid (hla.keeps (Keeps.of_below A1.out))
  have hB1 : B ≤ (w.alloc (.cells #[.int .i64 3, .string t, .slice no ns.length nc, .slice ao a.length ac] 28)).heap.size := by simp; omega
  have hgb : w.heap.size ≠ b := by have := hW.lt; omega
  have hg1 : w.heap.size < (w.alloc (.cells #[.int .i64 3, .string t, .slice no ns.length nc, .slice ao a.length ac] 28)).heap.size := by simp
  have HL := Lib.hid hlen
  have IH := Lib.hid ih
  clear hm hla hlen ih hW HW
  go_enter Try.func42, Try.ntmps42
  go_upto_region 1 with fail
  generalize w.alloc (.cells #[.int .i64 3, .string t, .slice no ns.length nc, .slice ao a.length ac] 28) = W1 at A1 HW1 HF1 HE1 HM1 HA1 hB1 hg1 ⊢
  obtain ⟨gs, hgs⟩ : ∃ gs, gs = w.heap.size := ⟨_, rfl⟩
  rw [← hgs] at HE1 hgb hg1
  simp only [← hgs]
  clear hgs A1
  obtain ⟨c0, c1, c2, c3⟩ := EB.cell _ _ _ _ _ _ HE1.out
  have P5 := Lib.hid (put_any B b l0 [⟨#[40, 41]⟩] _ _ _ (NAt.lits W1 [⟨#[40, 41]⟩]) (HW1.out.alloc _) (by have h1 := HL.out; have h2 := Lib.size_eq t; simp [cat] at h1 ⊢; omega) (by simp) (by simp; omega))
  have F5 := Lib.hid (HF1.out.alloc hB1 (.cells (tcells [⟨#[40, 41]⟩]) 9))
  go_wp2_with fail
  refine P5.out.mono ?_
  rintro e w5 ⟨rfl, hW5, hF5⟩
  have HW5 := Lib.hid hW5
  have HF5 := Lib.hid (F5.out.trans hF5)
  clear hW5 hF5
  go_wp2_with fail
  go_end0
  exact ⟨rfl, by simpa [cat] using HW5.out, HF5.out⟩
set_option maxHeartbeats 8000000 in
set_option maxRecDepth 100000 in
theorem term4 (t : ByteArray) (ns : List ByteArray) (a : List Et) (ih : ∀ e ∈ a, TC e) (hl : a.length ≤ 100000) (hnl : ns.length ≤ 100) : TC (.mk 4 t ns a) := by
  intro B b l0 S cs w hat hW hlen hBw
  have HW := hW
  rw [wr_mk] at hlen ⊢
  rw [if_neg (show ¬ (4 : Int) = 3 by decide)] at hlen ⊢
  rw [if_pos rfl] at hlen ⊢
  rw [EAt_mk] at hat
  obtain ⟨nv, av, rfl, hm, hla⟩ := hat
  have o1 := hm.one
  have o2 := hla.one
  obtain ⟨no, nc, rfl⟩ := hm.form
  obtain ⟨ao, ac, rfl⟩ := hla.form
  have A1 := Lib.hid ((Below.refl w.heap.size w).alloc (Nat.le_refl _) (.cells #[.int .i64 4, .string t, .slice no ns.length nc, .slice ao a.length ac] 28))
  have HW1 := Lib.hid (hW.alloc (.cells #[.int .i64 4, .string t, .slice no ns.length nc, .slice ao a.length ac] 28))
  have HF1 := Lib.hid ((Fr.refl B b w).alloc hBw (.cells #[.int .i64 4, .string t, .slice no ns.length nc, .slice ao a.length ac] 28))
  have HE1 : Hid (EB (w.alloc (.cells #[.int .i64 4, .string t, .slice no ns.length nc, .slice ao a.length ac] 28)) w.heap.size 4 t (.slice no ns.length nc) (.slice ao a.length ac)) := alloc_at _ _
  have HM1 := Lib.hid (hm.keeps (Keeps.of_below A1.out))
  have HA1 := Lib.hid (hla.keeps (Keeps.of_below A1.out))
  have hB1 : B ≤ (w.alloc (.cells #[.int .i64 4, .string t, .slice no ns.length nc, .slice ao a.length ac] 28)).heap.size := by simp; omega
  have hgb : w.heap.size ≠ b := by have := hW.lt; omega
  have hg1 : w.heap.size < (w.alloc (.cells #[.int .i64 4, .string t, .slice no ns.length nc, .slice ao a.length ac] 28)).heap.size := by simp
  have HL := Lib.hid hlen
  have IH := Lib.hid ih
  clear hm hla hlen ih hW HW
  go_enter Try.func42, Try.ntmps42
  go_upto_region 1 with fail
  generalize w.alloc (.cells #[.int .i64 4, .string t, .slice no ns.length nc, .slice ao a.length ac] 28) = W1 at A1 HW1 HF1 HE1 HM1 HA1 hB1 hg1 ⊢
  obtain ⟨gs, hgs⟩ : ∃ gs, gs = w.heap.size := ⟨_, rfl⟩
  rw [← hgs] at HE1 hgb hg1
  simp only [← hgs]
  clear hgs A1
  obtain ⟨c0, c1, c2, c3⟩ := EB.cell _ _ _ _ _ _ HE1.out
  have P5 := Lib.hid (put_any B b l0 [⟨#[39]⟩, t] _ _ _ (NAt.lits W1 [⟨#[39]⟩, t]) (HW1.out.alloc _) (by have h1 := HL.out; have h2 := Lib.size_eq t; simp [cat] at h1 ⊢; omega) (by simp) (by simp; omega))
  have F5 := Lib.hid (HF1.out.alloc hB1 (.cells (tcells [⟨#[39]⟩, t]) 9))
  go_wp2_with fail
  refine P5.out.mono ?_
  rintro e w5 ⟨rfl, hW5, hF5⟩
  have HW5 := Lib.hid hW5
  have HF5 := Lib.hid (F5.out.trans hF5)
  clear hW5 hF5
  go_wp2_with fail
  go_end0
  exact ⟨rfl, by simpa [cat] using HW5.out, HF5.out⟩
set_option maxHeartbeats 8000000 in
set_option maxRecDepth 100000 in
theorem term7 (t : ByteArray) (ns : List ByteArray) (a : List Et) (ih : ∀ e ∈ a, TC e) (hl : a.length ≤ 100000) (hnl : ns.length ≤ 100) : TC (.mk 7 t ns a) := by
  intro B b l0 S cs w hat hW hlen hBw
  have HW := hW
  rw [wr_mk] at hlen ⊢
  rw [if_neg (show ¬ (7 : Int) = 3 by decide)] at hlen ⊢
  rw [if_neg (show ¬ (7 : Int) = 4 by decide)] at hlen ⊢
  rw [if_neg (show ¬ (7 : Int) = 6 by decide)] at hlen ⊢
  rw [if_pos rfl] at hlen ⊢
  rw [EAt_mk] at hat
  obtain ⟨nv, av, rfl, hm, hla⟩ := hat
  have o1 := hm.one
  have o2 := hla.one
  obtain ⟨no, nc, rfl⟩ := hm.form
  obtain ⟨ao, ac, rfl⟩ := hla.form
  have A1 := Lib.hid ((Below.refl w.heap.size w).alloc (Nat.le_refl _) (.cells #[.int .i64 7, .string t, .slice no ns.length nc, .slice ao a.length ac] 28))
  have HW1 := Lib.hid (hW.alloc (.cells #[.int .i64 7, .string t, .slice no ns.length nc, .slice ao a.length ac] 28))
  have HF1 := Lib.hid ((Fr.refl B b w).alloc hBw (.cells #[.int .i64 7, .string t, .slice no ns.length nc, .slice ao a.length ac] 28))
  have HE1 : Hid (EB (w.alloc (.cells #[.int .i64 7, .string t, .slice no ns.length nc, .slice ao a.length ac] 28)) w.heap.size 7 t (.slice no ns.length nc) (.slice ao a.length ac)) := alloc_at _ _
  have HM1 := Lib.hid (hm.keeps (Keeps.of_below A1.out))
  have HA1 := Lib.hid (hla.keeps (Keeps.of_below A1.out))
  have hB1 : B ≤ (w.alloc (.cells #[.int .i64 7, .string t, .slice no ns.length nc, .slice ao a.length ac] 28)).heap.size := by simp; omega
  have hgb : w.heap.size ≠ b := by have := hW.lt; omega
  have hg1 : w.heap.size < (w.alloc (.cells #[.int .i64 7, .string t, .slice no ns.length nc, .slice ao a.length ac] 28)).heap.size := by simp
  have HL := Lib.hid hlen
  have IH := Lib.hid ih
  clear hm hla hlen ih hW HW
  go_enter Try.func42, Try.ntmps42
  go_upto_region 1 with fail
  generalize w.alloc (.cells #[.int .i64 7, .string t, .slice no ns.length nc, .slice ao a.length ac] 28) = W1 at A1 HW1 HF1 HE1 HM1 HA1 hB1 hg1 ⊢
  obtain ⟨gs, hgs⟩ : ∃ gs, gs = w.heap.size := ⟨_, rfl⟩
  rw [← hgs] at HE1 hgb hg1
  simp only [← hgs]
  clear hgs A1
  obtain ⟨c0, c1, c2, c3⟩ := EB.cell _ _ _ _ _ _ HE1.out
  have he : (⟨#[]⟩ : ByteArray).toList.isEmpty = true := (by simp [Lib.toList_data])
  have hfm : fmt (⟨#[]⟩ : ByteArray) a = 40 :: (⟨#[]⟩ : ByteArray).data.toList ++ Et.wrs false a ++ [41] := by unfold fmt; rw [he]; rfl
  have P5 := Lib.hid (form_any a IH.out B b l0 (⟨#[]⟩ : ByteArray) S (.slice ao a.length ac) W1 HA1.out HW1.out (by have h1 := HL.out; rw [hfm]; simp at h1 ⊢; omega) hB1 hl)
  rw [hfm] at P5
  clear hfm he
  go_wp2_with fail
  refine P5.out.mono ?_
  rintro e w5 ⟨rfl, hW5, hF5⟩
  have HW5 := Lib.hid hW5
  have HF5 := Lib.hid (HF1.out.trans hF5)
  clear hW5 hF5
  go_wp2_with fail
  go_end0
  exact ⟨rfl, by simpa using HW5.out, HF5.out⟩
set_option maxHeartbeats 8000000 in
set_option maxRecDepth 100000 in
theorem term8 (t : ByteArray) (ns : List ByteArray) (a : List Et) (ih : ∀ e ∈ a, TC e) (hl : a.length ≤ 100000) (hnl : ns.length ≤ 100) : TC (.mk 8 t ns a) := by
  intro B b l0 S cs w hat hW hlen hBw
  have HW := hW
  rw [wr_mk] at hlen ⊢
  rw [if_neg (show ¬ (8 : Int) = 3 by decide)] at hlen ⊢
  rw [if_neg (show ¬ (8 : Int) = 4 by decide)] at hlen ⊢
  rw [if_neg (show ¬ (8 : Int) = 6 by decide)] at hlen ⊢
  rw [if_neg (show ¬ (8 : Int) = 7 by decide)] at hlen ⊢
  rw [if_pos rfl] at hlen ⊢
  rw [EAt_mk] at hat
  obtain ⟨nv, av, rfl, hm, hla⟩ := hat
  have o1 := hm.one
  have o2 := hla.one
  obtain ⟨no, nc, rfl⟩ := hm.form
  obtain ⟨ao, ac, rfl⟩ := hla.form
  have A1 := Lib.hid ((Below.refl w.heap.size w).alloc (Nat.le_refl _) (.cells #[.int .i64 8, .string t, .slice no ns.length nc, .slice ao a.length ac] 28))
  have HW1 := Lib.hid (hW.alloc (.cells #[.int .i64 8, .string t, .slice no ns.length nc, .slice ao a.length ac] 28))
  have HF1 := Lib.hid ((Fr.refl B b w).alloc hBw (.cells #[.int .i64 8, .string t, .slice no ns.length nc, .slice ao a.length ac] 28))
  have HE1 : Hid (EB (w.alloc (.cells #[.int .i64 8, .string t, .slice no ns.length nc, .slice ao a.length ac] 28)) w.heap.size 8 t (.slice no ns.length nc) (.slice ao a.length ac)) := alloc_at _ _
  have HM1 := Lib.hid (hm.keeps (Keeps.of_below A1.out))
  have HA1 := Lib.hid (hla.keeps (Keeps.of_below A1.out))
  have hB1 : B ≤ (w.alloc (.cells #[.int .i64 8, .string t, .slice no ns.length nc, .slice ao a.length ac] 28)).heap.size := by simp; omega
  have hgb : w.heap.size ≠ b := by have := hW.lt; omega
  have hg1 : w.heap.size < (w.alloc (.cells #[.int .i64 8, .string t, .slice no ns.length nc, .slice ao a.length ac] 28)).heap.size := by simp
  have HL := Lib.hid hlen
  have IH := Lib.hid ih
  clear hm hla hlen ih hW HW
  go_enter Try.func42, Try.ntmps42
  go_upto_region 1 with fail
  generalize w.alloc (.cells #[.int .i64 8, .string t, .slice no ns.length nc, .slice ao a.length ac] 28) = W1 at A1 HW1 HF1 HE1 HM1 HA1 hB1 hg1 ⊢
  obtain ⟨gs, hgs⟩ : ∃ gs, gs = w.heap.size := ⟨_, rfl⟩
  rw [← hgs] at HE1 hgb hg1
  simp only [← hgs]
  clear hgs A1
  obtain ⟨c0, c1, c2, c3⟩ := EB.cell _ _ _ _ _ _ HE1.out
  have he : (⟨#[105, 102]⟩ : ByteArray).toList.isEmpty = false := (by simp [Lib.toList_data])
  have hfm : fmt (⟨#[105, 102]⟩ : ByteArray) a = 40 :: (⟨#[105, 102]⟩ : ByteArray).data.toList ++ Et.wrs true a ++ [41] := by unfold fmt; rw [he]; rfl
  have P5 := Lib.hid (form_any a IH.out B b l0 (⟨#[105, 102]⟩ : ByteArray) S (.slice ao a.length ac) W1 HA1.out HW1.out (by have h1 := HL.out; rw [hfm]; simp at h1 ⊢; omega) hB1 hl)
  rw [hfm] at P5
  clear hfm he
  go_wp2_with fail
  refine P5.out.mono ?_
  rintro e w5 ⟨rfl, hW5, hF5⟩
  have HW5 := Lib.hid hW5
  have HF5 := Lib.hid (HF1.out.trans hF5)
  clear hW5 hF5
  go_wp2_with fail
  go_end0
  exact ⟨rfl, by simpa using HW5.out, HF5.out⟩
set_option maxHeartbeats 8000000 in
set_option maxRecDepth 100000 in
theorem term10 (t : ByteArray) (ns : List ByteArray) (a : List Et) (ih : ∀ e ∈ a, TC e) (hl : a.length ≤ 100000) (hnl : ns.length ≤ 100) (hte : t.toList.isEmpty = false) : TC (.mk 10 t ns a) := by
  intro B b l0 S cs w hat hW hlen hBw
  have HW := hW
  rw [wr_mk] at hlen ⊢
  rw [if_neg (show ¬ (10 : Int) = 3 by decide)] at hlen ⊢
  rw [if_neg (show ¬ (10 : Int) = 4 by decide)] at hlen ⊢
  rw [if_neg (show ¬ (10 : Int) = 6 by decide)] at hlen ⊢
  rw [if_neg (show ¬ (10 : Int) = 7 by decide)] at hlen ⊢
  rw [if_neg (show ¬ (10 : Int) = 8 by decide)] at hlen ⊢
  rw [if_neg (show ¬ (10 : Int) = 9 by decide)] at hlen ⊢
  rw [if_pos rfl] at hlen ⊢
  rw [EAt_mk] at hat
  obtain ⟨nv, av, rfl, hm, hla⟩ := hat
  have o1 := hm.one
  have o2 := hla.one
  obtain ⟨no, nc, rfl⟩ := hm.form
  obtain ⟨ao, ac, rfl⟩ := hla.form
  have A1 := Lib.hid ((Below.refl w.heap.size w).alloc (Nat.le_refl _) (.cells #[.int .i64 10, .string t, .slice no ns.length nc, .slice ao a.length ac] 28))
  have HW1 := Lib.hid (hW.alloc (.cells #[.int .i64 10, .string t, .slice no ns.length nc, .slice ao a.length ac] 28))
  have HF1 := Lib.hid ((Fr.refl B b w).alloc hBw (.cells #[.int .i64 10, .string t, .slice no ns.length nc, .slice ao a.length ac] 28))
  have HE1 : Hid (EB (w.alloc (.cells #[.int .i64 10, .string t, .slice no ns.length nc, .slice ao a.length ac] 28)) w.heap.size 10 t (.slice no ns.length nc) (.slice ao a.length ac)) := alloc_at _ _
  have HM1 := Lib.hid (hm.keeps (Keeps.of_below A1.out))
  have HA1 := Lib.hid (hla.keeps (Keeps.of_below A1.out))
  have hB1 : B ≤ (w.alloc (.cells #[.int .i64 10, .string t, .slice no ns.length nc, .slice ao a.length ac] 28)).heap.size := by simp; omega
  have hgb : w.heap.size ≠ b := by have := hW.lt; omega
  have hg1 : w.heap.size < (w.alloc (.cells #[.int .i64 10, .string t, .slice no ns.length nc, .slice ao a.length ac] 28)).heap.size := by simp
  have HL := Lib.hid hlen
  have IH := Lib.hid ih
  clear hm hla hlen ih hW HW
  go_enter Try.func42, Try.ntmps42
  go_upto_region 1 with fail
  generalize w.alloc (.cells #[.int .i64 10, .string t, .slice no ns.length nc, .slice ao a.length ac] 28) = W1 at A1 HW1 HF1 HE1 HM1 HA1 hB1 hg1 ⊢
  obtain ⟨gs, hgs⟩ : ∃ gs, gs = w.heap.size := ⟨_, rfl⟩
  rw [← hgs] at HE1 hgb hg1
  simp only [← hgs]
  clear hgs A1
  obtain ⟨c0, c1, c2, c3⟩ := EB.cell _ _ _ _ _ _ HE1.out
  have he : t.toList.isEmpty = false := hte
  have hfm : fmt t a = 40 :: t.data.toList ++ Et.wrs true a ++ [41] := by unfold fmt; rw [he]; rfl
  have P5 := Lib.hid (form_any a IH.out B b l0 t S (.slice ao a.length ac) W1 HA1.out HW1.out (by have h1 := HL.out; rw [hfm]; simp at h1 ⊢; omega) hB1 hl)
  rw [hfm] at P5
  clear hfm he
  go_wp2_with fail
  refine P5.out.mono ?_
  rintro e w5 ⟨rfl, hW5, hF5⟩
  have HW5 := Lib.hid hW5
  have HF5 := Lib.hid (HF1.out.trans hF5)
  clear hW5 hF5
  go_wp2_with fail
  go_end0
  exact ⟨rfl, by simpa using HW5.out, HF5.out⟩
set_option maxHeartbeats 8000000 in
set_option maxRecDepth 100000 in
theorem term9 (t : ByteArray) (ns : List ByteArray) (a : List Et) (ih : ∀ e ∈ a, TC e) (hl : a.length ≤ 100000) (hnl : ns.length ≤ 100) (hll : a.length = ns.length + 1) (hne : ∀ s ∈ ns, s.toList.isEmpty = false) : TC (.mk 9 t ns a) := by
  intro B b l0 S cs w hat hW hlen hBw
  have HW := hW
  rw [wr_mk] at hlen ⊢
  rw [if_neg (show ¬ (9 : Int) = 3 by decide)] at hlen ⊢
  rw [if_neg (show ¬ (9 : Int) = 4 by decide)] at hlen ⊢
  rw [if_neg (show ¬ (9 : Int) = 6 by decide)] at hlen ⊢
  rw [if_neg (show ¬ (9 : Int) = 7 by decide)] at hlen ⊢
  rw [if_neg (show ¬ (9 : Int) = 8 by decide)] at hlen ⊢
  rw [if_pos rfl] at hlen ⊢
  have HLL := Lib.hid hll
  have HNE := Lib.hid hne
  clear hll hne
  rw [EAt_mk] at hat
  obtain ⟨nv, av, rfl, hm, hla⟩ := hat
  have o1 := hm.one
  have o2 := hla.one
  obtain ⟨no, nc, rfl⟩ := hm.form
  obtain ⟨ao, ac, rfl⟩ := hla.form
  have A1 := Lib.hid ((Below.refl w.heap.size w).alloc (Nat.le_refl _) (.cells #[.int .i64 9, .string t, .slice no ns.length nc, .slice ao a.length ac] 28))
  have HW1 := Lib.hid (hW.alloc (.cells #[.int .i64 9, .string t, .slice no ns.length nc, .slice ao a.length ac] 28))
  have HF1 := Lib.hid ((Fr.refl B b w).alloc hBw (.cells #[.int .i64 9, .string t, .slice no ns.length nc, .slice ao a.length ac] 28))
  have HE1 : Hid (EB (w.alloc (.cells #[.int .i64 9, .string t, .slice no ns.length nc, .slice ao a.length ac] 28)) w.heap.size 9 t (.slice no ns.length nc) (.slice ao a.length ac)) := alloc_at _ _
  have HM1 := Lib.hid (hm.keeps (Keeps.of_below A1.out))
  have HA1 := Lib.hid (hla.keeps (Keeps.of_below A1.out))
  have hB1 : B ≤ (w.alloc (.cells #[.int .i64 9, .string t, .slice no ns.length nc, .slice ao a.length ac] 28)).heap.size := by simp; omega
  have hgb : w.heap.size ≠ b := by have := hW.lt; omega
  have hg1 : w.heap.size < (w.alloc (.cells #[.int .i64 9, .string t, .slice no ns.length nc, .slice ao a.length ac] 28)).heap.size := by simp
  have HL := Lib.hid hlen
  have IH := Lib.hid ih
  clear hm hla hlen ih hW HW
  go_enter Try.func42, Try.ntmps42
  go_upto_region 1 with fail
  generalize w.alloc (.cells #[.int .i64 9, .string t, .slice no ns.length nc, .slice ao a.length ac] 28) = W1 at A1 HW1 HF1 HE1 HM1 HA1 hB1 hg1 ⊢
  obtain ⟨gs, hgs⟩ : ∃ gs, gs = w.heap.size := ⟨_, rfl⟩
  rw [← hgs] at HE1 hgb hg1
  simp only [← hgs]
  clear hgs A1
  obtain ⟨c0, c1, c2, c3⟩ := EB.cell _ _ _ _ _ _ HE1.out
  have P5 := Lib.hid (let_any ns a IH.out HLL.out HNE.out B b l0 S (.slice no ns.length nc) (.slice ao a.length ac) W1 HM1.out HA1.out HW1.out (by have h1 := HL.out; unfold ltx; simp at h1 ⊢; omega) hB1 hl)
  unfold ltx at P5
  go_wp2_with fail
  refine P5.out.mono ?_
  rintro e w5 ⟨rfl, hW5, hF5⟩
  have HW5 := Lib.hid hW5
  have HF5 := Lib.hid (HF1.out.trans hF5)
  clear hW5 hF5
  go_wp2_with fail
  go_end0
  exact ⟨rfl, by simpa using HW5.out, HF5.out⟩
set_option maxHeartbeats 8000000 in
set_option maxRecDepth 100000 in
theorem term6 (t : ByteArray) (ns : List ByteArray) (a : List Et) (ih : ∀ e ∈ a, TC e) (hl : a.length ≤ 100000) (hnl : ns.length ≤ 100) : TC (.mk 6 t ns a) := by
  intro B b l0 S cs w hat hW hlen hBw
  have HW := hW
  rw [wr_mk] at hlen ⊢
  rw [if_neg (show ¬ (6 : Int) = 3 by decide)] at hlen ⊢
  rw [if_neg (show ¬ (6 : Int) = 4 by decide)] at hlen ⊢
  rw [if_pos rfl] at hlen ⊢
  have hjl : (jn ns).length ≤ 1000000000 := by simp at hlen; omega
  obtain ⟨hd, hhd⟩ : ∃ hd : ByteArray, hd = ⟨([108, 97, 109, 98, 100, 97, 32, 40] ++ jn ns ++ [41]).toArray⟩ := ⟨_, rfl⟩
  have hdd : hd.data.toList = [108, 97, 109, 98, 100, 97, 32, 40] ++ jn ns ++ [41] := by rw [hhd]
  have he : hd.toList.isEmpty = false := by rw [Lib.toList_data, hdd]; rfl
  have hfm : fmt hd a = 40 :: ([108, 97, 109, 98, 100, 97, 32, 40] ++ jn ns ++ [41]) ++ Et.wrs true a ++ [41] := by unfold fmt; rw [he, hdd]; rfl
  have hcat : (⟨#[108, 97, 109, 98, 100, 97, 32, 40]⟩ ++ ⟨(jn ns).toArray⟩ ++ ⟨#[41]⟩ : ByteArray) = hd := by
    rw [hhd, str_app [108, 97, 109, 98, 100, 97, 32, 40] (jn ns), str_app _ [41]]
  rw [← hfm] at hlen ⊢
  have HCAT := Lib.hid hcat
  clear hfm hdd he hcat hhd
  rw [EAt_mk] at hat
  obtain ⟨nv, av, rfl, hm, hla⟩ := hat
  have o1 := hm.one
  have o2 := hla.one
  obtain ⟨no, nc, rfl⟩ := hm.form
  obtain ⟨ao, ac, rfl⟩ := hla.form
  have A1 := Lib.hid ((Below.refl w.heap.size w).alloc (Nat.le_refl _) (.cells #[.int .i64 6, .string t, .slice no ns.length nc, .slice ao a.length ac] 28))
  have HW1 := Lib.hid (hW.alloc (.cells #[.int .i64 6, .string t, .slice no ns.length nc, .slice ao a.length ac] 28))
  have HF1 := Lib.hid ((Fr.refl B b w).alloc hBw (.cells #[.int .i64 6, .string t, .slice no ns.length nc, .slice ao a.length ac] 28))
  have HE1 : Hid (EB (w.alloc (.cells #[.int .i64 6, .string t, .slice no ns.length nc, .slice ao a.length ac] 28)) w.heap.size 6 t (.slice no ns.length nc) (.slice ao a.length ac)) := alloc_at _ _
  have HM1 := Lib.hid (hm.keeps (Keeps.of_below A1.out))
  have HA1 := Lib.hid (hla.keeps (Keeps.of_below A1.out))
  have hB1 : B ≤ (w.alloc (.cells #[.int .i64 6, .string t, .slice no ns.length nc, .slice ao a.length ac] 28)).heap.size := by simp; omega
  have hgb : w.heap.size ≠ b := by have := hW.lt; omega
  have hg1 : w.heap.size < (w.alloc (.cells #[.int .i64 6, .string t, .slice no ns.length nc, .slice ao a.length ac] 28)).heap.size := by simp
  have HL := Lib.hid hlen
  have IH := Lib.hid ih
  clear hm hla hlen ih hW HW
  go_enter Try.func42, Try.ntmps42
  go_upto_region 1 with fail
  generalize w.alloc (.cells #[.int .i64 6, .string t, .slice no ns.length nc, .slice ao a.length ac] 28) = W1 at A1 HW1 HF1 HE1 HM1 HA1 hB1 hg1 ⊢
  obtain ⟨gs, hgs⟩ : ∃ gs, gs = w.heap.size := ⟨_, rfl⟩
  rw [← hgs] at HE1 hgb hg1
  simp only [← hgs]
  clear hgs A1
  obtain ⟨c0, c1, c2, c3⟩ := EB.cell _ _ _ _ _ _ HE1.out
  have HS0 : Hid (Fr B b W1 W1.drew) := (Fr.refl _ _ _).drew
  have AD := (Below.refl W1.heap.size W1).drew
  have hbd : B ≤ W1.drew.heap.size := hB1
  have HMD := Lib.hid (HM1.out.keeps (Keeps.of_below AD))
  have HAD := Lib.hid (HA1.out.keeps (Keeps.of_below AD))
  have HWD : Hid (Wr B b l0 W1.drew) := HW1.out.drew
  have HJ := Lib.hid (join_any ns S _ W1.drew HMD.out hjl (by omega))
  clear AD
  go_upto_region 11 with fail
  refine wp_region_noPanic ?_
  refine wp_region_held_drew (S := Fr B b W1) (by kernel_rfl) HS0.out (fun hHeld => ?_)
  generalize W1.drew = X at HS0 hbd HMD HAD HWD HJ hHeld ⊢
  refine wpAnyH_take (i := 0) (v := Value.pointer (some ⟨b, 0, none⟩)) rfl (by kernel_rfl) (by kernel_rfl) (by kernel_rfl) (fun _ _ _ h => h) (Or.inl ⟨rfl, fun w' hw' => ?_⟩) hHeld ?_
  · go_simp
  simp only [List.getElem_toArray, List.getElem_cons_succ, List.getElem_cons_zero, Act.put, List.setIfInBounds_toArray, List.set_cons_zero, List.set_cons_succ]
  refine wpAnyH_take (i := 1) (v := Value.pointer (some ⟨gs, 2, none⟩)) rfl (by kernel_rfl) (by kernel_rfl) (by kernel_rfl) (fun _ _ _ h => h) (Or.inl ⟨rfl, fun w' hw' => ?_⟩) hHeld ?_
  · go_simp
  simp only [List.getElem_toArray, List.getElem_cons_succ, List.getElem_cons_zero, Act.put, List.setIfInBounds_toArray, List.set_cons_zero, List.set_cons_succ]
  refine wpAnyH_take (i := 2) (v := Value.slice no ns.length nc) rfl (by kernel_rfl) (by kernel_rfl) (by kernel_rfl) (fun _ _ _ h => h) (Or.inl ⟨rfl, fun w' hw' => ?_⟩) hHeld ?_
  · have q9 := (EB.cell _ _ _ _ _ _ (hw'.keep HE1.out (by decide) hgb)); obtain ⟨d0, d1, d2, d3⟩ := q9; go_simp
  simp only [List.getElem_toArray, List.getElem_cons_succ, List.getElem_cons_zero, Act.put, List.setIfInBounds_toArray, List.set_cons_zero, List.set_cons_succ]
  refine wpAnyH_take (i := 6) (v := Value.pointer (some ⟨gs, 3, none⟩)) rfl (by kernel_rfl) (by kernel_rfl) (by kernel_rfl) (fun _ _ _ h => h) (Or.inl ⟨rfl, fun w' hw' => ?_⟩) hHeld ?_
  · go_simp
  simp only [List.getElem_toArray, List.getElem_cons_succ, List.getElem_cons_zero, Act.put, List.setIfInBounds_toArray, List.set_cons_zero, List.set_cons_succ]
  refine wpAnyH_take (i := 7) (v := Value.slice ao a.length ac) rfl (by kernel_rfl) (by kernel_rfl) (by kernel_rfl) (fun _ _ _ h => h) (Or.inl ⟨rfl, fun w' hw' => ?_⟩) hHeld ?_
  · have q9 := (EB.cell _ _ _ _ _ _ (hw'.keep HE1.out (by decide) hgb)); obtain ⟨d0, d1, d2, d3⟩ := q9; go_simp
  simp only [List.getElem_toArray, List.getElem_cons_succ, List.getElem_cons_zero, Act.put, List.setIfInBounds_toArray, List.set_cons_zero, List.set_cons_succ]
  refine wpAnyH_ready (rs := [3]) (by kernel_rfl) (by simp) ?_
  refine (AllReadyH.cons rfl (fun K hK => ?_) AllReadyH.nil)
  go_simp
  refine HJ.out.mono ?_
  rintro e w5 ⟨rfl, hb5⟩
  have HB5 := Lib.hid hb5
  have hb5B : Below B X w5 := hb5.mono hbd
  have HF5 : Hid (Fr B b X w5) := ⟨hb5B, others_below hb5⟩
  have HS5 := Lib.hid (HS0.out.trans HF5.out)
  have HW5 : Hid (Wr B b l0 w5) := HWD.out.below hb5
  have HP := Lib.hid (form_any a IH.out B b l0 hd S (.slice ao a.length ac) w5 (HAD.out.keeps (Keeps.of_below hb5)) HW5.out HL.out (Nat.le_trans hbd hb5.size) hl)
  clear hb5 hb5B
  refine hK.out _ _ HS5.out (fun hHeld => ?_)
  clear hK K
  try simp only [List.getElem_toArray, List.getElem_cons_succ, List.getElem_cons_zero, Act.put, List.setIfInBounds_toArray, List.set_cons_zero, List.set_cons_succ]
  refine wpAnyH_take (i := 4) (v := Value.string (⟨#[108, 97, 109, 98, 100, 97, 32, 40]⟩ ++ ⟨(jn ns).toArray⟩)) rfl (by kernel_rfl) (by kernel_rfl) (by kernel_rfl) (fun _ _ _ h => h) (Or.inl ⟨rfl, fun w' hw' => ?_⟩) hHeld ?_
  · go_simp; omega
  simp only [List.getElem_toArray, List.getElem_cons_succ, List.getElem_cons_zero, Act.put, List.setIfInBounds_toArray, List.set_cons_zero, List.set_cons_succ]
  refine wpAnyH_take (i := 5) (v := Value.string (⟨#[108, 97, 109, 98, 100, 97, 32, 40]⟩ ++ ⟨(jn ns).toArray⟩ ++ ⟨#[41]⟩)) rfl (by kernel_rfl) (by kernel_rfl) (by kernel_rfl) (fun _ _ _ h => h) (Or.inl ⟨rfl, fun w' hw' => ?_⟩) hHeld ?_
  · go_simp; omega
  simp only [List.getElem_toArray, List.getElem_cons_succ, List.getElem_cons_zero, Act.put, List.setIfInBounds_toArray, List.set_cons_zero, List.set_cons_succ]
  rw [HCAT.out]
  refine wpAnyH_ready (rs := [8]) (by kernel_rfl) (by simp) ?_
  refine (AllReadyH.cons rfl (fun K hK => ?_) AllReadyH.nil)
  go_simp
  refine HP.out.mono ?_
  rintro e w6 ⟨rfl, hW6, hF6⟩
  have HS6 := Lib.hid (HS5.out.trans hF6)
  have HW6 := Lib.hid hW6
  clear hW6 hF6
  refine hK.out _ _ HS6.out (fun hHeld => ?_)
  clear hK K
  try simp only [List.getElem_toArray, List.getElem_cons_succ, List.getElem_cons_zero, Act.put, List.setIfInBounds_toArray, List.set_cons_zero, List.set_cons_succ]
  refine wpAnyH_done (by kernel_rfl) ?_ _
  refine NoPanic.normal ?_
  clear hHeld
  go_wp2_with fail
  go_end0
  exact ⟨rfl, HW6.out, HF1.out.trans HS6.out⟩
end Go.Proofs.Ytcalbcllmmoldaa
