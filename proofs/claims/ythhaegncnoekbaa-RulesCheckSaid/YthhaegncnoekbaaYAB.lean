/- Rules: the document's look at a pattern, as far as dots go. -/
import Derived.Test.YthhaegncnoekbaaYAA
import Derived.RangeFuncNested
import Derived.RangeFuncBound
import Derived.RangeFuncCalls
import Derived.RangeFuncLeaves
import Derived.Deep.RegionHeld3
import Derived.OwnWalk
import Derived.OrdersIn
import Derived.TacticsIn
import Derived.Maps.OwnRows
import Derived.Maps.OwnOps
import Derived.Maps.AppendAt
import Derived.WideKeyEntry
import Derived.DeepKeys4
set_option linter.unusedVariables false
set_option linter.unusedSimpArgs false
namespace Go.Proofs.Ythhaegncnoekbaa
open Go.RowKit
mutual
/-- May it be, as far as dots go? -/
def Dt.pat : Dt → Bool
  | .mk k t ms l p => !(Dt.mk k t ms l p).dots && pats l true false
/-- The parts: whether it is the first one, whether dots came. -/
def pats : List Dt → Bool → Bool → Bool
  | [], _, _ => true
  | d :: r, first, came => if d.dots = true then (if first = true ∨ came = true then false else pats r false true) else (d.pat && pats r false came)
end
theorem pat_mk (k : Int) (t : ByteArray) (ms : List Int) (l : List Dt) (p : Int) : (Dt.mk k t ms l p).pat = (!(Dt.mk k t ms l p).dots && pats l true false) := by rw [Dt.pat]
theorem pats_cons (d : Dt) (r : List Dt) (first came : Bool) : pats (d :: r) first came = if d.dots = true then (if first = true ∨ came = true then false else pats r false true) else (d.pat && pats r false came) := by rw [pats]
def PtInv (l : List Dt) (w : World) (nv iv : Value) (wr : World) : Prop := ∃ (j : Nat) (c : Nat), j ≤ l.length ∧ c ≤ 1 ∧ nv = .int .i64 (c : Int) ∧ iv = .int .i64 (j : Int) ∧ pats l true false = pats (l.drop j) (j == 0) (c == 1) ∧ Below w.heap.size w wr
set_option maxHeartbeats 8000000 in
set_option maxRecDepth 100000 in
theorem refpat_any (n : Nat) : n ≤ 1000000 → ∀ (d : Dt), d.size ≤ n → ∀ (S : Nat → Prop) (cs : Array Value) (ls : List ByteArray) (v : Value) (w : World), Dt.At S w d cs → LitsAt w v ls → ls.length ≤ 1000000 → Calls Try.prog 48 #[v, .agg cs] w (RetBool d.pat w) := by
  induction n with
  | zero => intro _ d hd; cases d; simp [Dt.size] at hd
  | succ n ih0 =>
    intro hn d hd S cs ls v w hat hv hls
    have IH := Lib.hid (ih0 (by omega))
    have FD := Lib.hid (fun W => refdots_any hat W)
    obtain ⟨k, t, ms, l, p⟩ := d
    have HP := Lib.hid (pat_mk k t ms l p)
    obtain ⟨bd, hbd⟩ : ∃ b, b = (Dt.mk k t ms l p).dots := ⟨_, rfl⟩
    rw [← hbd] at FD HP
    rw [At_mk] at hat
    obtain ⟨mv, lv, rfl, hm, hl⟩ := hat
    have hsz : Dt.sizes l ≤ n := by simp only [Dt.size] at hd; omega
    have hll := length_sizes l
    have o1 := hm.one
    have o2 := hl.one
    have HB := Lib.hid ((Below.refl w.heap.size w).alloc (Nat.le_refl _) (.cells #[.int .i64 k, .string t, mv, lv, .int .i64 p] 29))
    have L1 := Lib.hid (hl.keeps (Keeps.of_below HB.out))
    have HV := Lib.hid (hv.below HB.out)
    obtain ⟨ao, cap, rfl⟩ := hl.form
    obtain ⟨vo, vc, rfl⟩ := hv.form
    have hx := alloc_at w (.cells #[.int .i64 k, .string t, mv, .slice ao l.length cap, .int .i64 p] 29)
    have hxs : (w.alloc (.cells #[.int .i64 k, .string t, mv, .slice ao l.length cap, .int .i64 p] 29)).heap.size = w.heap.size + 1 := by simp
    have HXS := Lib.hid hxs
    clear hm hl hv hd hbd ih0 hxs
    go_enter Try.func48, Try.ntmps48
    go_wp2_with (refine wpList_load_row rfl 29 _ rfl w.heap.size rfl 29 #[.int .i64 k, .string t, mv, .slice ao l.length cap, .int .i64 p] (0, 0) _ hx Try.underlying29 rfl info40 ?_)
    refine (FD.out _).mono ?_
    rintro e w1 ⟨rfl, hb1⟩
    have HB1 := Lib.hid (HB.out.trans (hb1.mono HB.out.size))
    have L2 := Lib.hid (L1.out.keeps (Keeps.of_below hb1))
    have HV1 := Lib.hid (HV.out.below hb1)
    have c3 : w1.cell? ⟨w.heap.size, 3, none⟩ = some (.slice ao l.length cap) := by
      rw [hb1.cell (p := ⟨w.heap.size, 3, none⟩) (by rw [HXS.out]; show w.heap.size < _; omega), Lib.cell_of_heap hx]; rfl
    have hw1 : w.heap.size < w1.heap.size := by have := hb1.size; rw [HXS.out] at this; omega
    clear hb1 hx L1 HV HB FD HXS
    cases bd with
    | true =>
      go_wp2_with fail
      go_ret
      exact ⟨by rw [HP.out]; rfl, HB1.out⟩
    | false =>
      have HC3 := Lib.hid c3
      clear c3
      go_wp2_with fail
      go_loopw [5, 6] (fun nv iv wr => PtInv l w1 nv iv wr) (fun nv iv _ => l.length - (intOf iv).toNat)
      case atStart => exact ⟨0, 0, Nat.zero_le _, Nat.zero_le _, rfl, rfl, rfl, Below.refl _ _⟩
      case round =>
        obtain ⟨j, cb, hj, hcb, rfl, rfl, hpe, hbw⟩ := hrel
        have HBw := Lib.hid hbw
        have HPE := Lib.hid hpe
        have c3 := (hbw.cell (p := ⟨w.heap.size, 3, none⟩) hw1).trans HC3.out
        have HV2 := Lib.hid (HV1.out.below hbw)
        clear hbw hpe
        by_cases hlt : j < l.length
        · have q1 : decide ((j : Int) < (l.length : Int)) = true := decide_eq_true (by omega)
          obtain ⟨g, o, k5, t5, mv5, lv5, p5, rfl, hS, -, hat, e0, e1, e2, e3, e4, o5, o6⟩ := (L2.out.keeps (Keeps.of_below HBw.out)).get j hlt
          have hsj := size_get l j hlt
          have hdr : l.drop j = l[j] :: l.drop (j + 1) := List.drop_eq_getElem_cons hlt
          have FE := Lib.hid (fun W => refdots_any hat W)
          have HAT := Lib.hid hat
          obtain ⟨be, hbe⟩ : ∃ b, b = l[j].dots := ⟨_, rfl⟩
          rw [← hbe] at FE
          have HPC : Hid (pats l true false = if be = true then (if (j == 0) = true ∨ (cb == 1) = true then false else pats (l.drop (j + 1)) false true) else (l[j].pat && pats (l.drop (j + 1)) false (cb == 1))) := by
            show _ = _; rw [HPE.out, hdr, pats_cons, ← hbe]
          have hgl : g < wr.heap.size := World.block_lt_of_cell? wr _ e0
          clear hdr hbe hat hS
          go_wp2_with fail
          refine (FE.out _).mono ?_
          rintro e w2 ⟨rfl, hb2⟩
          have HBw2 := Lib.hid (HBw.out.trans (hb2.mono HBw.out.size))
          have c3' := (hb2.cell (p := ⟨w.heap.size, 3, none⟩) (by show w.heap.size < _; have := HBw.out.size; omega)).trans c3
          have hsw := hb2.size
          have f0 := (hb2.cell hgl).trans e0
          have f1 := (hb2.cell (p := ⟨g, o + j * 5 + 1, none⟩) hgl).trans e1
          have f2 := (hb2.cell (p := ⟨g, o + j * 5 + 2, none⟩) hgl).trans e2
          have f3 := (hb2.cell (p := ⟨g, o + j * 5 + 3, none⟩) hgl).trans e3
          have f4 := (hb2.cell (p := ⟨g, o + j * 5 + 4, none⟩) hgl).trans e4
          have FP := Lib.hid (IH.out l[j] (by omega) S _ ls _ w2 (Dt.At.keeps (Keeps.of_below hb2) _ _ HAT.out) (HV2.out.below hb2) hls)
          clear e0 e1 e2 e3 e4 c3 hb2
          cases be with
          | true =>
            have z0 : ((j : Int) == 0) = (j == 0) := by
              rw [Bool.eq_iff_iff, beq_iff_eq, beq_iff_eq]; omega
            by_cases hz : j = 0
            · have HE : Hid (pats l true false = false) := by show _ = _; rw [HPC.out, if_pos rfl, if_pos (.inl (by simp [hz]))]
              have z1 : ((j : Int) == 0) = true := by rw [z0]; simp [hz]
              clear z0 hz
              go_wp2_with fail
              go_ret
              exact ⟨by rw [HP.out, HE.out]; rfl, HB1.out.trans (HBw2.out.mono HB1.out.size)⟩
            · have z1 : ((j : Int) == 0) = false := by rw [z0]; simp [hz]
              clear z0
              have hc01 : cb = 1 ∨ cb = 0 := by omega
              rcases hc01 with rfl | rfl
              · skip
                have HE : Hid (pats l true false = false) := by show _ = _; rw [HPC.out, if_pos rfl, if_pos (.inr rfl)]
                go_wp2_with fail
                go_ret
                exact ⟨by rw [HP.out, HE.out]; rfl, HB1.out.trans (HBw2.out.mono HB1.out.size)⟩
              · skip
                have HE : Hid (pats l true false = pats (l.drop (j + 1)) ((j + 1) == 0) true) := by
                  show _ = _; rw [HPC.out, if_pos rfl, if_neg (by simp [hz])]; rfl
                go_wp2_with fail
                go_roundw
                case rel => exact ⟨j + 1, 1, by omega, by omega, by go_num, by go_num, HE.out, HBw2.out⟩
                case measure => simp [intOf]; omega
          | false =>
            go_wp2_with fail
            refine FP.out.mono ?_
            rintro e w3 ⟨rfl, hb3⟩
            have HBw3 := Lib.hid (HBw2.out.trans (hb3.mono HBw2.out.size))
            clear hb3
            cases hpp : l[j].pat with
            | true =>
              have HE : Hid (pats l true false = pats (l.drop (j + 1)) ((j + 1) == 0) (cb == 1)) := by
                show _ = _; rw [HPC.out, if_neg (by decide), hpp]; rfl
              clear hpp
              go_wp2_with fail
              go_roundw
              case rel => exact ⟨j + 1, cb, by omega, hcb, rfl, by go_num, HE.out, HBw3.out⟩
              case measure => simp [intOf]; omega
            | false =>
              have HE : Hid (pats l true false = false) := by show _ = _; rw [HPC.out, if_neg (by decide), hpp]; rfl
              clear hpp
              go_wp2_with fail
              go_ret
              exact ⟨by rw [HP.out, HE.out]; rfl, HB1.out.trans (HBw3.out.mono HB1.out.size)⟩
        · obtain rfl : j = l.length := by omega
          have q1 : decide ((l.length : Int) < (l.length : Int)) = false := decide_eq_false (by omega)
          have HE : Hid (pats l true false = true) := by
            show _ = _; rw [HPE.out, List.drop_length]; rfl
          go_wp2_with fail
          go_ret
          exact ⟨by rw [HP.out, HE.out]; rfl, HB1.out.trans (HBw.out.mono HB1.out.size)⟩
end Go.Proofs.Ythhaegncnoekbaa
namespace Go.Proofs.Ythhaegncnoekbaa
open Go.RowKit
theorem Dts.At.drop {S : Nat → Prop} {w : World} : ∀ (l : List Dt) (arr : Array Value) (o k : Nat), Dts.At S w l arr o → Dts.At S w (l.drop k) arr (o + k * 5)
  | l, arr, o, 0, h => by simpa using h
  | [], arr, o, k + 1, h => by simp; unfold Dts.At; trivial
  | d :: l, arr, o, k + 1, h => by
    unfold Dts.At at h
    have := Dts.At.drop l arr (o + 5) k h.2
    rw [show o + (k + 1) * 5 = o + 5 + k * 5 by omega]
    simpa using this
theorem LAt.drop {S : Nat → Prop} {w : World} {g o n cap : Nat} {l : List Dt} (h : LAt S w (.slice (some ⟨g, o, none⟩) n cap) l) (k : Nat) (hk : k ≤ l.length) : LAt S w (.slice (some ⟨g, o + k * 5, none⟩) (l.length - k) (cap - k)) (l.drop k) := by
  rcases h with ⟨e, _⟩ | ⟨g', o', cap', arr, fz, e, hS, hg, hd, hc⟩
  · cases e
  · injection e with e1 e2 e3
    injection e1 with e1
    injection e1 with e4 e5
    subst e3; subst e4; subst e5
    exact .inr ⟨g, o + k * 5, cap - k, arr, fz, by rw [List.length_drop], hS, hg, Dts.At.drop l arr o k hd, by rw [List.length_drop]; omega⟩
theorem LAt.dropz {S : Nat → Prop} {w : World} {g o n : Nat} {l : List Dt} {cap : Nat} (h : LAt S w (.slice (some ⟨g, o, none⟩) n cap) l) (k : Nat) (hk : l.length ≤ k) : LAt S w (.slice (some ⟨g, o, none⟩) (l.length - k) 0) (l.drop k) := by
  rw [List.drop_eq_nil_of_le hk, show l.length - k = 0 by omega]
  rcases h with ⟨e, _⟩ | ⟨g', o', cap', arr, fz, e, hS, hg, hd, hc⟩
  · cases e
  · injection e with e1 e2 e3
    injection e1 with e1
    injection e1 with e4 e5
    subst e3; subst e4; subst e5
    exact .inr ⟨g, o, 0, arr, fz, rfl, hS, hg, by unfold Dts.At; trivial, Nat.le_refl _⟩
theorem MAt.form2 {S : Nat → Prop} {w : World} {mv : Value} {ms : List Int} (h : MAt S w mv ms) : ∃ ao cap, mv = .slice ao ms.length cap := by
  rcases h with ⟨rfl, rfl⟩ | ⟨g, o, cap, arr, fz, rfl, _⟩
  · exact ⟨none, 0, rfl⟩
  · exact ⟨_, _, rfl⟩
/-- Where the first dots stand; -1: there are none. -/
def ixD (l : List Dt) : Int := match l.findIdx? Dt.dots with
  | some i => (i : Int)
  | none => -1
theorem ixD_hit {l : List Dt} {j : Nat} (hj : j < l.length) (h : ∀ i (hi : i < l.length), i < j → l[i].dots = false) (hd : l[j].dots = true) : ixD l = (j : Int) := by
  unfold ixD
  rw [List.findIdx?_eq_some_iff_getElem.2 ⟨hj, hd, fun i hi => by have := h i (by omega) hi; rw [this]; decide⟩]
theorem ixD_none {l : List Dt} (h : ∀ i (hi : i < l.length), l[i].dots = false) : ixD l = -1 := by
  unfold ixD
  rw [List.findIdx?_eq_none_iff.2 fun x hx => by obtain ⟨i, hi, rfl⟩ := List.getElem_of_mem hx; exact h i hi]
theorem ixD_spec (l : List Dt) : (ixD l = -1 ∧ ∀ i (hi : i < l.length), l[i].dots = false) ∨ ∃ j, ∃ hj : j < l.length, ixD l = (j : Int) ∧ l[j].dots = true ∧ ∀ i (hi : i < l.length), i < j → l[i].dots = false := by
  unfold ixD
  cases h : l.findIdx? Dt.dots with
  | none => exact .inl ⟨rfl, fun i hi => List.findIdx?_eq_none_iff.1 h _ (List.getElem_mem hi)⟩
  | some j =>
    obtain ⟨hj, h1, h2⟩ := List.findIdx?_eq_some_iff_getElem.1 h
    exact .inr ⟨j, hj, rfl, h1, fun i hi hij => by have := h2 i hij; simpa using this⟩
def RetInt (n : Int) (w : World) (e : Ending) (w' : World) : Prop := e = .returned (.int .i64 n) ∧ Below w.heap.size w w'
def IxInv (l : List Dt) (w : World) (iv : Value) (wr : World) : Prop := ∃ j : Nat, j ≤ l.length ∧ iv = .int .i64 (j : Int) ∧ (∀ i (hi : i < l.length), i < j → l[i].dots = false) ∧ Below w.heap.size w wr
set_option maxHeartbeats 8000000 in
set_option maxRecDepth 100000 in
theorem index_any {S : Nat → Prop} (l : List Dt) (v : Value) (w : World) (hv : LAt S w v l) (hl : l.length ≤ 10000000) : Calls Try.prog 65 #[v, .func (.func 66) #[] #[]] w (RetInt (ixD l) w) := by
  have HV := Lib.hid hv
  obtain ⟨ao, ac, rfl⟩ := hv.form
  clear hv
  go_enter Try.func65, Try.ntmps65
  go_wp2_with fail
  go_loopw [8] (fun iv wr => IxInv l w iv wr) (fun iv _ => l.length - (intOf iv).toNat)
  case atStart => exact ⟨0, Nat.zero_le _, rfl, fun i h hh => absurd hh (by omega), Below.refl _ _⟩
  case round =>
    obtain ⟨j, hj, rfl, hr, hbw⟩ := hrel
    have HBW := Lib.hid hbw
    have HR := Lib.hid hr
    have HVr := Lib.hid (HV.out.keeps (Keeps.of_below hbw))
    clear hbw hr
    by_cases hlt : j < l.length
    · have q1 : decide ((j : Int) < (l.length : Int)) = true := decide_eq_true (by omega)
      obtain ⟨g, o, k5, t5, mv5, lv5, p5, rfl, hS, _, hat, e0, e1, e2, e3, e4, o5, o6⟩ := HVr.out.get j hlt
      have FI := Lib.hid (isdots_any hat wr)
      clear hat
      obtain ⟨b, hb⟩ : ∃ b, b = l[j].dots := ⟨_, rfl⟩
      rw [← hb] at FI
      have HBD := Lib.hid hb
      clear hb
      go_wp2_with fail
      refine FI.out.mono ?_
      rintro e w2 ⟨rfl, hb2⟩
      have HB2 := Lib.hid (HBW.out.trans (hb2.mono HBW.out.size))
      clear hb2 e0 e1 e2 e3 e4
      cases b with
      | true =>
        have HE : Hid (ixD l = (j : Int)) := ixD_hit hlt HR.out HBD.out.symm
        go_wp2_with fail
        go_ret
        exact ⟨by rw [HE.out]; rfl, HB2.out⟩
      | false =>
        go_wp2_with fail
        go_roundw
        case rel => exact ⟨j + 1, by omega, by go_num, fun i h hh => (if e : i = j then (by subst e; exact HBD.out.symm) else HR.out i h (by omega)), HB2.out⟩
        case measure => simp [intOf]; omega
    · obtain rfl : j = l.length := by omega
      have q1 : decide ((l.length : Int) < (l.length : Int)) = false := decide_eq_false (by omega)
      have HE : Hid (ixD l = -1) := ixD_none fun i hi => HR.out i hi hi
      go_wp2_with fail
      go_ret
      exact ⟨by rw [HE.out]; rfl, HBW.out⟩
set_option maxHeartbeats 8000000 in
theorem contains_any {S : Nat → Prop} (l : List Dt) (v : Value) (w : World) (hv : LAt S w v l) (hl : l.length ≤ 10000000) : Calls Try.prog 67 #[v, .func (.func 66) #[] #[]] w (RetBool (l.any Dt.dots) w) := by
  have FI := Lib.hid (index_any l v w hv hl)
  obtain ⟨ao, ac, rfl⟩ := hv.form
  clear hv
  obtain ⟨n, hn⟩ : ∃ n, n = ixD l := ⟨_, rfl⟩
  have HE : Hid (decide (0 ≤ n) = l.any Dt.dots) := by
    show _ = _
    rw [hn]
    rcases ixD_spec l with ⟨e, h⟩ | ⟨j, hj, e, h, _⟩
    · rw [e, List.any_eq_false.2 fun x hx => by obtain ⟨i, hi, rfl⟩ := List.getElem_of_mem hx; rw [h i hi]; decide]; decide
    · rw [e, List.any_eq_true.2 ⟨_, List.getElem_mem hj, h⟩]; exact decide_eq_true (by omega)
  rw [← hn] at FI
  clear hn
  go_enter Try.func67, Try.ntmps67
  go_wp2_with fail
  refine FI.out.mono ?_
  rintro e w2 ⟨rfl, hb2⟩
  have HB := Lib.hid hb2
  clear hb2
  have HE2 := HE.out
  go_wp2_with fail
  go_ret
  exact ⟨by first | rfl | (rw [HE.out]; rfl), HB.out⟩
end Go.Proofs.Ythhaegncnoekbaa
namespace Go.Proofs.Ythhaegncnoekbaa
open Go.RowKit
mutual
/-- What is no list has no parts; texts are short. -/
def Dt.wf : Dt → Prop
  | .mk k t ms l p => (k ≠ 4 → l = []) ∧ t.size ≤ 1000000 ∧ wfs l ∧ ∀ m ∈ ms, (Lit.int .i64 m).wf = true
def wfs : List Dt → Prop
  | [] => True
  | d :: r => d.wf ∧ wfs r
end
theorem wf_mk (k : Int) (t : ByteArray) (ms : List Int) (l : List Dt) (p : Int) : (Dt.mk k t ms l p).wf ↔ (k ≠ 4 → l = []) ∧ t.size ≤ 1000000 ∧ wfs l ∧ ∀ m ∈ ms, (Lit.int .i64 m).wf = true := by rw [Dt.wf]
theorem wfs_get : ∀ {l : List Dt} (h : wfs l) (j : Nat) (hj : j < l.length), l[j].wf
  | [], _, _, h => absurd h (by simp)
  | d :: r, h, 0, _ => h.1
  | d :: r, h, j + 1, hj => wfs_get (l := r) h.2 j (by simpa using hj)
theorem Dt.wf.parts {d : Dt} (h : d.wf) : wfs d.parts := by cases d; exact ((wf_mk ..).1 h).2.2.1
theorem Dt.wf.nums {d : Dt} (h : d.wf) : ∀ m ∈ d.marks, (Lit.int .i64 m).wf = true := by cases d; exact ((wf_mk ..).1 h).2.2.2
theorem Dt.wf.short {d : Dt} (h : d.wf) : d.text.size ≤ 1000000 := by cases d; exact ((wf_mk ..).1 h).2.1
theorem Dt.wf.leaf {d : Dt} (h : d.wf) (hk : d.kind ≠ 4) : d.parts = [] := by cases d; exact ((wf_mk ..).1 h).1 hk
/-- A list's dots: none at its head, no two. -/
def dotsOk (l : List Dt) : Bool := !(ixD l == 0) && !(decide (0 < ixD l) && (l.drop ((ixD l).toNat + 1)).any Dt.dots)
theorem pats_true : ∀ (l : List Dt), pats l false true = (l.all fun d => !d.dots && d.pat)
  | [] => by simp [pats]
  | d :: r => by
    rw [pats_cons, List.all_cons]
    cases h : d.dots
    · rw [if_neg (by decide), pats_true r]; simp
    · rw [if_pos rfl, if_pos (.inr rfl)]; simp
theorem fi_yes {d : Dt} {r : List Dt} (h : d.dots = true) : (d :: r).findIdx? Dt.dots = some 0 := by rw [List.findIdx?_cons, if_pos h]
theorem fi_no {d : Dt} {r : List Dt} (h : d.dots = false) : (d :: r).findIdx? Dt.dots = (r.findIdx? Dt.dots).map fun i => i + 1 := by rw [List.findIdx?_cons, if_neg (by rw [h]; decide)]
theorem pats_false : ∀ (l : List Dt), pats l false false = ((match l.findIdx? Dt.dots with | some i => !(l.drop (i + 1)).any Dt.dots | none => true) && l.all fun d => d.dots || d.pat)
  | [] => by simp [pats]
  | d :: r => by
    rw [pats_cons, List.all_cons]
    cases h : d.dots
    · rw [if_neg (by decide), pats_false r, fi_no h]
      simp only [Bool.false_or]
      cases hr : r.findIdx? Dt.dots with
      | none => simp
      | some i => simp [Bool.and_left_comm]
    · rw [if_pos rfl, if_neg (by simp), pats_true r, fi_yes h]
      simp only [Bool.true_or, Bool.true_and, List.drop_succ_cons, List.drop_zero]
      rw [Bool.eq_iff_iff]
      simp only [List.all_eq_true, Bool.and_eq_true, Bool.not_eq_true', List.any_eq_false, Bool.not_eq_true, Bool.or_eq_true]
      constructor
      · intro H; exact ⟨fun x hx => (H x hx).1, fun x hx => .inr (H x hx).2⟩
      · rintro ⟨H1, H2⟩ x hx; exact ⟨H1 x hx, (H2 x hx).resolve_left (by rw [H1 x hx]; decide)⟩
/-- What the program asks of a pattern's list is what the document asks. -/
theorem pats_is (l : List Dt) : pats l true false = (dotsOk l && l.all fun d => d.dots || d.pat) := by
  cases l with
  | nil => simp [pats, dotsOk, ixD]
  | cons d r =>
    rw [pats_cons, List.all_cons]
    unfold dotsOk ixD
    cases h : d.dots
    · rw [if_neg (by decide), pats_false r, fi_no h]
      simp only [Bool.false_or]
      cases hr : r.findIdx? Dt.dots with
      | none => simp
      | some i =>
        have e1 : ((((i + 1 : Nat) : Int) == 0) : Bool) = false := by rw [beq_eq_false_iff_ne]; omega
        have e2 : decide ((0 : Int) < ((i + 1 : Nat) : Int)) = true := decide_eq_true (by omega)
        simp only [Option.map_some, e1, e2, Int.toNat_natCast, List.drop_succ_cons, Bool.not_false, Bool.true_and]
        exact Bool.and_left_comm ..
    · rw [fi_yes h]; simp
end Go.Proofs.Ythhaegncnoekbaa
namespace Go.Proofs.Ythhaegncnoekbaa
open Go Go.RowKit
/-- An iterator that hands on A 0, A 1, .., A (N - 1), as long as the rounds go on; between two rounds it wants Kp kept. -/
def Hands (F : Fence) (n : Nat) (P : Program) (g : Nat) (lb : Array Value) (A : Nat → Array Value) (Kp : World → World → Prop) (N : Nat) (w0 : World) : Prop :=
  ∀ (l : Nat) (J Jx : Nat → World → Prop) (W : World), Below w0.heap.size w0 W → AbidesFrom W.heap.size J →
    (∀ k W1, k < N → J k W1 → YieldAt F (n - 1) P l (A k) W1 fun e W' => (e = .returned (.bool true) ∧ J (k + 1) W' ∧ Kp W1 W') ∨ (e = .returned (.bool false) ∧ Jx k W')) →
    J 0 W → CallsIn F n P g (#[.func (.yield l) #[] #[]] ++ lb) W fun e W' => (∃ v, e = .returned v) ∧ (J N W' ∨ ∃ k, k < N ∧ Jx k W')
/-- How a counted round may be left. -/
def countPost (B : Nat) (Kp : World → World → Prop) (I : Nat → World → Prop) (Ix : Code → Nat → World → Prop) (k : Nat) (W : World) : Exit → Act → World → Prop
  | .normal, _, W' => KeepsFrom B W W' ∧ Kp W W' ∧ I (k + 1) W'
  | .ret, _, W' => KeepsFrom B W W' ∧ Ix .ret k W'
  | .exit id, _, W' => KeepsFrom B W W' ∧ Ix (.exit id) k W'
  | .goto t, _, W' => KeepsFrom B W W' ∧ Ix (.goto t) k W'
  | .panic _, _, _ => False
  | .outgrown, _, _ => False
variable {F : Fence} {n : Nat} {P : Program}
theorem wpIn_rangeFunc_count {g : Operand} {ps : Array Tmp} {assign body : Code} {Q : Exit → Act → World → Prop} {a : Act} {w : World}
    (hro : F.round = none) (h1 : 1 ≤ n) {gf : Nat} {lb : Array Value} (hg : a.eval g = .func (.func gf) #[] lb) (hFg : F.fn gf) (eg : ∀ args w, (callFunc gf args).run P w = .ok (.enter gf args) w)
    {A : Nat → Array Value} {Kp : World → World → Prop} {N : Nat} {w0 : World} (hseq : Hands F (n - 1) P gf lb A Kp N w0)
    (hKt : ∀ {X Y Z : World}, Kp X Y → Kp Y Z → Kp X Z) (hKb : ∀ (W : World) (l : Nat) (o o' : Obj), w.heap.size ≤ l → W.heap[l]? = some o → o.isCells = false → o.isWalk = false → Kp W (W.putObj l o'))
    (hb0 : Below w0.heap.size w0 w) (hps : ∀ k, (A k).size = ps.size)
    (I : Nat → World → Prop) (Ix : Code → Nat → World → Prop) (hI : OwnFrom w.heap.size I) (hIx : ∀ c, OwnFrom w.heap.size (Ix c)) (h0 : I 0 w)
    (Ax : Nat → Act → World → Prop) (hAx : ∀ k a', OwnFrom w.heap.size (fun (_ : Unit) W => Ax k a' W))
    (hassign : ∀ (l k : Nat) (W : World) (K : Act → World → Prop), k < N → I k W → (∀ a' W', KeepsFrom w.heap.size W W' → Kp W W' → I k W' → Ax k a' W' → K a' W') →
      assign.wpIn (F.inRound l) (n - 1 - 1) P (Exit.then K (fun _ _ _ => False)) { tmps := (ps.zip (A k)).foldl (fun t (p, v) => t.setIfInBounds p v) a.tmps, defers := [] } W)
    (hbody : ∀ (l k : Nat) (a' : Act) (W : World), k < N → I k W → Ax k a' W → body.wpIn (F.inRound l) (n - 1 - 1) P (countPost w.heap.size Kp I Ix k W) a' W)
    (hdone : ∀ (D : Nat) (W : World), w.heap.size ≤ D → I N W → W.heap[D]? = some (.deferred (some [])) → Q .normal { a with defers := { target := .collected D, args := #[] } :: a.defers } W)
    (hstop : ∀ (D : Nat) (c : Code) (k : Nat) (W : World), w.heap.size ≤ D → k < N → Ix c k W → W.heap[D]? = some (.deferred (some [])) → c.wpIn F n P Q { a with defers := { target := .collected D, args := #[] } :: a.defers } W) :
    (Code.rangeFunc g ps assign body).wpIn F n P Q a w := by
  refine wpIn_rangeFunc fun fn hfn => ?_
  rw [hro]
  -- the loop's record, by its state and its pending jump
  let rec0 : LoopState → Option Code → Loop := fun st pe => { state := st, pending := pe, fn, tmps := a.tmps, params := ps, assign, body, defers := w.heap.size }
  obtain ⟨R, hR⟩ : ∃ R, R = rec0 := ⟨_, rfl⟩
  have hRp : ∀ s p, (R s p).params = ps ∧ (R s p).tmps = a.tmps ∧ (R s p).fn = fn ∧ (R s p).assign = assign ∧ (R s p).body = body ∧ (R s p).state = s ∧ (R s p).pending = p := by rw [hR]; exact fun _ _ => ⟨rfl, rfl, rfl, rfl, rfl, rfl, rfl⟩
  have hRs : ∀ s p s' p', ({ R s p with state := s', pending := p' } : Loop) = R s' p' := by rw [hR]; intros; rfl
  have hRb : ∀ s p s', ({ R s p with state := s' } : Loop) = R s' p := by rw [hR]; intros; rfl
  obtain ⟨W1, hW1⟩ : ∃ W1, W1 = (w.alloc (.deferred (some []))).alloc (.loop (R .ready none)) := ⟨_, rfl⟩
  have hsz : W1.heap.size = w.heap.size + 2 := by rw [hW1]; simp
  have hL : W1.heap[w.heap.size + 1]? = some (.loop (R .ready none)) := by
    have h := World.alloc_heap_new (w.alloc (.deferred (some []))) (.loop (R .ready none))
    rw [World.size_alloc] at h; rw [hW1]; exact h
  have hD : W1.heap[w.heap.size]? = some (.deferred (some [])) := by
    rw [hW1]; exact (Below.heap_alloc _ _ _ (by simp)).trans (World.alloc_heap_new w _)
  have hI0 : I 0 W1 := by rw [hW1]; exact hI.alloc _ (hI.alloc _ h0)
  have hb1 : Below w0.heap.size w0 W1 := by
    have h : Below w.heap.size w W1 := by rw [hW1]; exact ((Below.refl _ w).alloc (Nat.le_refl _) _).alloc (by simp) _
    exact hb0.trans (h.mono hb0.size)
  have hent := run_enterLoop_outer (P := P) (w := w) fn a.tmps ps assign body
  refine ⟨w.heap.size + 1, [{ target := .collected w.heap.size, args := #[] }], W1, { target := .fn (.func gf) lb, args := #[.func (.yield (w.heap.size + 1)) #[] #[]] }, W1, gf,
    #[.func (.yield (w.heap.size + 1)) #[] #[]] ++ lb, W1, ?_, ?_, ?_, ?_, fun _ => h1, ?_⟩
  · rw [hW1, hR]; exact hent
  · simp only [resolve, hg]; simp [go_sem]
  · intro f' hf'; simp [Target.leads] at hf'; subst hf'; exact hFg
  · simp [invoke, go_sem, eg]
  have hnw : ∀ {X Y : World} {row : Option Nat}, (∀ r, row = some r → W1.heap.size ≤ r ∧ ∃ o : Obj, X.heap[r]? = some o ∧ o.isWalk = true) → ∀ r, row = some r → w.heap.size ≤ r ∧ ∃ o : Obj, X.heap[r]? = some o ∧ o.isCells = false := by
    intro X Y row h r e
    obtain ⟨h1, o, h2, h3⟩ := h r e
    exact ⟨by omega, o, h2, Obj.not_cells_of_walk h3⟩
  have hkeep : ∀ {X Y : World} {row : Option Nat} {i : Nat} {o : Obj}, X.grownBy Y row → (∀ r, row = some r → W1.heap.size ≤ r ∧ ∃ o : Obj, X.heap[r]? = some o ∧ o.isWalk = true) → i < W1.heap.size → X.heap[i]? = some o → Y.heap[i]? = some o := by
    intro X Y row i o hg hr hi h
    refine (hg.block i (Array.getElem?_eq_some_iff.1 h).1 fun e => ?_).trans h
    have := (hr i e.symm).1
    omega
  refine (hseq (w.heap.size + 1) (fun k W => I k W ∧ W.heap[w.heap.size + 1]? = some (.loop (R .ready none)) ∧ W.heap[w.heap.size]? = some (.deferred (some [])))
    (fun k W => ∃ c, Ix c k W ∧ W.heap[w.heap.size + 1]? = some (.loop (R .done (some c))) ∧ W.heap[w.heap.size]? = some (.deferred (some []))) W1 hb1
    (fun k X Y row h hg' hr => ⟨hI k X Y row h.1 hg' (hnw (Y := Y) hr), hkeep hg' hr (by omega) h.2.1, hkeep hg' hr (by omega) h.2.2⟩) ?_ ⟨hI0, hL, hD⟩).mono ?_
  · rintro k W hk ⟨hi, hl, hd⟩
    have hy := run_yield (P := P) (args := A k) hl (by rw [(hRp _ _).1]; exact hps k)
    obtain ⟨e1, e2, e3, e4, e5, _⟩ := hRp .ready none
    rw [e1, e2, e3, e4, e5] at hy
    refine ⟨fn, _, assign, body, hy, roundIn_of_wpIn hfn (hassign _ k W _ hk hi ?_)⟩
    intro a' Wa hkf hkp hia hax
    have hl := hkf.same _ _ (by omega) hl rfl
    have hd := hkf.same _ _ (Nat.le_refl _) hd rfl
    have hlt : w.heap.size + 1 < Wa.heap.size := (Array.getElem?_eq_some_iff.1 hl).1
    refine ⟨_, run_beginRound hl (hRp _ _).2.2.2.2.2.1, ?_⟩
    rw [hRb]
    have hl2 : (Wa.putObj (w.heap.size + 1) (.loop (R .busy none))).heap[w.heap.size + 1]? = some (.loop (R .busy none)) := World.putObj_heap_same hlt
    have hd2 : (Wa.putObj (w.heap.size + 1) (.loop (R .busy none))).heap[w.heap.size]? = some (.deferred (some [])) := (World.putObj_heap_other (by omega)).trans hd
    have hk2 : Kp Wa (Wa.putObj (w.heap.size + 1) (.loop (R .busy none))) := hKb _ _ _ _ (by omega) hl rfl rfl
    refine wpIn_mono (hbody _ k a' _ hk (hI.putObj _ hia (by omega) hl rfl) ((hAx k a').putObj (s := ()) _ hax (by omega) hl rfl)) ?_
    have fin : ∀ (jump : Option Code) (W3 : World), KeepsFrom w.heap.size (Wa.putObj (w.heap.size + 1) (.loop (R .busy none))) W3 →
        W3.heap[w.heap.size + 1]? = some (.loop (R .busy none)) ∧
        (Instr.endRound (w.heap.size + 1) jump).run P W3 = .ok (.bool jump.isNone) (W3.putObj (w.heap.size + 1) (.loop (R (if jump.isNone then .ready else .done) jump))) ∧
        (W3.putObj (w.heap.size + 1) (.loop (R (if jump.isNone then .ready else .done) jump))).heap[w.heap.size + 1]? = some (.loop (R (if jump.isNone then .ready else .done) jump)) ∧
        (W3.putObj (w.heap.size + 1) (.loop (R (if jump.isNone then .ready else .done) jump))).heap[w.heap.size]? = some (.deferred (some [])) := by
      intro jump W3 h3
      have hl3 := h3.same _ _ (by omega) hl2 rfl
      have hd3 := h3.same _ _ (Nat.le_refl _) hd2 rfl
      have he := run_endRound (P := P) jump hl3
      rw [hRs] at he
      exact ⟨hl3, he, World.putObj_heap_same (Array.getElem?_eq_some_iff.1 hl3).1, (World.putObj_heap_other (by omega)).trans hd3⟩
    rintro e a3 W3 hp
    cases e with
    | normal =>
      obtain ⟨h3, hkp3, hi3⟩ := hp
      obtain ⟨hl3, hr, hl4, hd4⟩ := fin none W3 h3
      exact ⟨_, _, hr, .inl ⟨rfl, ⟨hI.putObj _ hi3 (by omega) hl3 rfl, hl4, hd4⟩, hKt hkp (hKt (hKt hk2 hkp3) (hKb _ _ _ _ (by omega) hl3 rfl rfl))⟩⟩
    | ret =>
      obtain ⟨h3, hi3⟩ := hp
      obtain ⟨hl3, hr, hl4, hd4⟩ := fin (some .ret) W3 h3
      exact ⟨_, _, hr, .inr ⟨rfl, .ret, (hIx _).putObj _ hi3 (by omega) hl3 rfl, hl4, hd4⟩⟩
    | exit id =>
      obtain ⟨h3, hi3⟩ := hp
      obtain ⟨hl3, hr, hl4, hd4⟩ := fin (some (.exit id)) W3 h3
      exact ⟨_, _, hr, .inr ⟨rfl, .exit id, (hIx _).putObj _ hi3 (by omega) hl3 rfl, hl4, hd4⟩⟩
    | goto t =>
      obtain ⟨h3, hi3⟩ := hp
      obtain ⟨hl3, hr, hl4, hd4⟩ := fin (some (.goto t)) W3 h3
      exact ⟨_, _, hr, .inr ⟨rfl, .goto t, (hIx _).putObj _ hi3 (by omega) hl3 rfl, hl4, hd4⟩⟩
    | panic ch => exact hp.elim
    | outgrown => exact hp.elim
  · rintro e W2 ⟨⟨v, rfl⟩, ⟨hi, hl, hd⟩ | ⟨k, hk, c, hi, hl, hd⟩⟩
    · have he := run_endLoop (P := P) hl (by rw [(hRp _ _).2.2.2.2.2.1]; simp)
      rw [(hRp _ _).2.2.2.2.2.2] at he
      exact ⟨none, _, he, hdone _ _ (Nat.le_refl _) (hI.putObj _ hi (by omega) hl rfl) ((World.putObj_heap_other (by omega)).trans hd)⟩
    · have he := run_endLoop (P := P) hl (by rw [(hRp _ _).2.2.2.2.2.1]; simp)
      rw [(hRp _ _).2.2.2.2.2.2] at he
      exact ⟨some c, _, he, hstop _ c k _ (Nat.le_refl _) hk ((hIx c).putObj _ hi (by omega) hl rfl) ((World.putObj_heap_other (by omega)).trans hd)⟩
end Go.Proofs.Ythhaegncnoekbaa
namespace Go.Proofs.Ythhaegncnoekbaa
open Go Go.RowKit
variable {P : Program} {ops : Array Oper} {Q : Exit → Act → World → Prop} {n l : Nat}
/-- No operation of these is a defer statement. -/
def noDefer (ops : Array Oper) : Bool := ops.toList.all fun o => match o.op with | .defer _ => false | _ => true
theorem noDefer_get {i : Nat} {o : Oper} (h : noDefer ops = true) (hi : ops[i]? = some o) : ∀ c, o.op ≠ .defer c := by
  intro c hc
  have h1 := List.all_eq_true.1 h o (Array.mem_toList_iff.2 (Array.mem_of_getElem? hi))
  rw [hc] at h1
  exact Bool.noConfusion h1
theorem oper_round {o : Oper} {a : Act} {w : World} {K : Act → World → Prop} (hd : ∀ c, o.op ≠ .defer c) (hQ : ¬ LetsOut Q) (h : o.wp P a w K Q ∨ (o.asks P a w ∧ LetsOut Q)) :
    o.wpIn (Fence.wide.inRound l) n P a w K Q := by
  have h := h.resolve_right (fun x => hQ x.2)
  refine ⟨fun _ _ => trivial, ?_⟩
  rw [Fence.inRound_round, Oper.semAt_some _ _ _ hd]
  unfold Oper.wp at h
  generalize (execOp a.eval o).run P w = r at *
  cases r with
  | ok x w' =>
    cases x <;> simp only [Oper.upon, Oper.uponIn] at h ⊢
    case value => exact h
    case skip => exact h
    case defer => exact h
    case enter f args => exact ⟨fun e => by simp [Fence.wide] at e, CallsIn.inRound l (callsIn_wide.2 h)⟩
    case row row args =>
      refine ⟨fun e => by simp [Fence.wide] at e, fun c cs _ => ?_⟩
      obtain ⟨v, w2, r, s⟩ := h c cs
      exact ⟨v, w2, r, stepsIn_wide.2 s⟩
  | halt x w' => cases x <;> simp only [Oper.upon, Oper.uponIn] at h ⊢ <;> exact h
theorem wpOp_round {i : Nat} {K K' : Act → World → Prop} {a : Act} {w : World} (hn : noDefer ops = true) (hQ : ¬ LetsOut Q) (hK : ∀ a w, K a w → K' a w) (h : wpOp P ops Q i K a w) :
    wpOpIn (Fence.wide.inRound l) n P ops Q i K' a w := by
  unfold wpOp at h
  unfold wpOpIn
  cases hi : ops[i]? with
  | none => rw [hi] at h; exact hK _ _ h
  | some o =>
    rw [hi] at h
    simp only [] at h ⊢
    split
    · next hw => rw [if_pos hw] at h; exact Oper.wpIn_mono hK (oper_round (noDefer_get hn hi) hQ h)
    · next hw => rw [if_neg hw] at h; exact ⟨fun _ _ => trivial, hK _ _ h⟩
theorem wpAny_round {md : Region.Mode} (hn : noDefer ops = true) (hQ : ¬ LetsOut Q) : ∀ (fuel : Nat) (listed : Array Bool) (a : Act) (w : World), wpAny P md ops Q fuel listed a w → wpAnyIn (Fence.wide.inRound l) n P md ops Q fuel listed a w
  | 0, _, _, _, h => h
  | fuel + 1, _, _, _, h => ⟨h.1, fun i hi => wpOp_round hn hQ (fun a w h => wpAny_round hn hQ fuel _ a w h) (h.2 i hi)⟩
/-- A region of a round that draws its order. -/
theorem region_round_held {id : Nat} {a : Act} {w : World} {S : World → Prop} (hm : P.follows .mixedOrders = true) (hn : noDefer ops = true) (hQ : ¬ LetsOut Q) (hS : S w.drew)
    (h : S w.drew → wpAnyH P .any ops Q S ops.size (Array.replicate ops.size false) a w.drew) : (Code.region id ops true).wpIn (Fence.wide.inRound l) n P Q a w :=
  wpIn_region_any hm (wpAny_round hn hQ _ _ _ _ (wpAny_of_held _ _ _ _ (h hS)))
end Go.Proofs.Ythhaegncnoekbaa
namespace Go.Proofs.Ythhaegncnoekbaa
open Go Go.RowKit Go.MapKept
open Go.WideMaps (KeyLaw)
open Go.ChangeMaps (setBlock heap_setBlock_same heap_setBlock_other)
theorem laidOutP : laidOutB Try.prog = true := by kernel_rfl
theorem row120 : (120 : TypeId) < Try.prog.types.size := of_decide_eq_true (by kernel_rfl)
theorem wide120 : (match Try.prog.underlying 120 with | some (.array _ _) | some (.struct _) => true | _ => false) = true := by kernel_rfl
theorem deep120 : Try.prog.keyTypeAt 3 120 = true := by kernel_rfl
set_option maxRecDepth 100000 in
theorem law120 : KeyLaw Try.prog 120 := deep_law_laid laidOutP (m := 3) (by omega) row120 deep120 wide120
theorem keyT120 : Try.prog.keyType 120 = true := by kernel_rfl
theorem cells120 : Try.prog.cellsOf 120 = 3 := by kernel_rfl
theorem cells9 : Try.prog.cellsOf 9 = 1 := by kernel_rfl
theorem cells3 : Try.prog.cellsOf 3 = 1 := by kernel_rfl
def keyA (t : ByteArray) (m l : Int) : Value := .agg #[.string t, .int .i64 m, .int .i64 l]
set_option maxRecDepth 100000 in
theorem key_ok (t : ByteArray) (m l : Int) (ht : t.size ≤ 1000000) (hm : (Lit.int .i64 m).wf = true) (hl : (Lit.int .i64 l).wf = true) : ∃ kl, keyOf Try.prog 120 (keyA t m l) = some kl := by
  obtain ⟨n, hn⟩ : ∃ n, Try.prog.types.size = n + 1 := ⟨_, (Nat.succ_pred_eq_of_pos (Nat.lt_of_le_of_lt (Nat.zero_le _) row120)).symm⟩
  have hs : t.size ≤ maxLen := Nat.le_trans ht (by decide)
  have hf : (keyA t m l).formed Try.prog 120 = true := by simp [keyA, Value.formed, Try.underlying120, cells120]
  unfold keyOf
  rw [Try.underlying120]
  simp only [keyT120, hf, Bool.and_self, if_true, hn]
  have e : Try.prog.keyLits (n + 1 + 1) 120 (keyA t m l).cells.toList = some [.string t.data.toList, .int .i64 m, .int .i64 l] := by
    unfold Program.keyLits
    rw [Try.underlying120]
    simp [keyA, Value.cells, cells120, cells9, cells3, Program.keyLits, Try.underlying9, Try.underlying3, hs, hm, hl]
  rw [e]
  exact ⟨_, rfl⟩
/-- The places of a key in a row of keys. -/
def Spots (ks : List Value) (key : Value) (zs : List Nat) : Prop := zs.Pairwise (· < ·) ∧ ∀ i, i ∈ zs ↔ ks[i]? = some key
/-- The number slice v owns these places. -/
def OwnZ (w : World) (base : Nat) (v : Value) (zs : List Nat) : Prop := w.ownsRow base 3 1 v zs.length (zs.map fun i : Nat => Value.int .i64 (i : Int))
theorem OwnZ.kept {w w' : World} {base : Nat} {v : Value} {zs : List Nat} {row : Option Nat} (h : OwnZ w base v zs) (hg : w.grownBy w' row) (hne : v.ownBlock = none ∨ v.ownBlock ≠ row) : OwnZ w' base v zs := World.ownsRow.kept h hg hne
/-- Block b is the table of these keys. -/
def TbAt (w : World) (base b : Nat) (ks : List Value) : Prop :=
  ∃ es clock, w.heap[b]? = some (.map es clock) ∧ Stamped es clock ∧ b < base ∧ (∀ x ∈ es.toList, ∃ kl, keyOf Try.prog 120 x.key = some kl) ∧
    (∀ x ∈ es.toList, ∃ zs, OwnZ w base x.val zs ∧ Spots ks x.key zs) ∧ (∀ k ∈ ks, ∃ x ∈ es.toList, x.key = k) ∧
    ∀ x ∈ es.toList, ∀ y ∈ es.toList, x.key ≠ y.key → x.val.ownBlock = none ∨ x.val.ownBlock ≠ y.val.ownBlock
theorem TbAt.made (w : World) : TbAt (w.alloc (.map #[] 0)) (w.heap.size + 1) w.heap.size [] :=
  ⟨#[], 0, (MapKept.heap_alloc w _).1, stamped_empty 0, Nat.lt_succ_self _, by simp, by simp, by simp, by simp⟩
theorem TbAt.lt {w : World} {base b : Nat} {ks : List Value} (h : TbAt w base b ks) : b < w.heap.size ∧ b < base := by
  obtain ⟨es, clock, hb, _, hbb, _⟩ := h
  exact ⟨(Array.getElem?_eq_some_iff.1 hb).1, hbb⟩
/-- It stands where its block and what lies from base on stand. -/
theorem TbAt.kept {w w' : World} {base b : Nat} {ks : List Value} {row : Option Nat} (h : TbAt w base b ks) (hg : w.grownBy w' row) (hr : ∀ r, row = some r → r ≠ b ∧ (r < base ∨ ∀ (c : Array Value) (fz : Nat × Nat), w.heap[r]? ≠ some (Obj.cells c 3 fz))) : TbAt w' base b ks := by
  obtain ⟨es, clock, hb, hs, hbb, hk, hv, hall, hap⟩ := h
  refine ⟨es, clock, (hg.block b (Array.getElem?_eq_some_iff.1 hb).1 fun e => (hr b e.symm).1 rfl).trans hb, hs, hbb, hk, fun x hx => ?_, hall, hap⟩
  obtain ⟨zs, ho, hz⟩ := hv x hx
  refine ⟨zs, ho.kept hg ?_, hz⟩
  cases hvb : x.val.ownBlock with
  | none => exact .inl rfl
  | some g =>
    refine .inr fun e => ?_
    rcases (hr g e.symm).2 with h1 | h1
    · have := (World.ownsRow.lt ho g hvb).1; omega
    · rcases ho.2 with ⟨e1, _⟩ | ⟨g', cap, cur, e1, _, e3, _⟩
      · rw [e1] at hvb; cases hvb
      · rw [e1] at hvb
        simp only [Value.ownBlock, Option.some.injEq] at hvb
        subst hvb
        exact h1 _ _ e3
theorem spots_new {ks : List Value} (k key : Value) (i : Nat) : (ks ++ [k])[i]? = some key ↔ ks[i]? = some key ∨ (i = ks.length ∧ k = key) := by
  by_cases hi : i < ks.length
  · rw [List.getElem?_append_left hi]
    exact ⟨.inl, fun h => h.elim id fun h => by omega⟩
  · rw [List.getElem?_append_right (by omega), List.getElem?_eq_none (l := ks) (by omega)]
    by_cases e : i = ks.length
    · subst e; simp
    · rw [List.getElem?_eq_none (by simp; omega)]; simp [e]
theorem Spots.same {ks : List Value} {key : Value} {zs : List Nat} (h : Spots ks key zs) : Spots (ks ++ [key]) key (zs ++ [ks.length]) := by
  obtain ⟨h1, h2⟩ := h
  have hlt : ∀ i ∈ zs, i < ks.length := fun i hi => (List.getElem?_eq_some_iff.1 ((h2 i).1 hi)).1
  refine ⟨List.pairwise_append.2 ⟨h1, by simp, fun a ha b hb => by simp at hb; subst hb; exact hlt a ha⟩, fun i => ?_⟩
  rw [spots_new, List.mem_append, h2, List.mem_singleton]
  simp
theorem Spots.other {ks : List Value} {key : Value} {zs : List Nat} (h : Spots ks key zs) {k : Value} (hk : k ≠ key) : Spots (ks ++ [k]) key zs :=
  ⟨h.1, fun i => by rw [spots_new, h.2]; simp [hk]⟩
theorem Spots.empty {ks : List Value} {key : Value} (h : key ∉ ks) : Spots ks key [] :=
  ⟨List.Pairwise.nil, fun i => ⟨fun h => by simp at h, fun e => absurd (List.mem_of_getElem? e) h⟩⟩
end Go.Proofs.Ythhaegncnoekbaa
