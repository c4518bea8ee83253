/- The document's Names, row and Text. -/
import Derived.Test.YtmcgocbkjdacaaaDoorTX4
namespace Go.Proofs.YtmcgocbkjdacaaaDoor
open Go.RowKit Go.BigM
set_option linter.unusedVariables false
set_option linter.unusedSimpArgs false
theorem jn_snoc : ∀ (l : List ByteArray) (s : ByteArray), jn (l ++ [s]) = jn l ++ ((if 0 < l.length then [32] else []) ++ s.data.toList)
  | [], s => by simp [jn]
  | [x], s => by simp [jn]
  | x :: y :: l, s => by
    have := jn_snoc (y :: l) s
    simp only [List.cons_append, jn, List.append_assoc] at this ⊢
    rw [this]; simp
theorem jn_take (ns : List ByteArray) (j : Nat) (h : j < ns.length) : jn (ns.take (j + 1)) = jn (ns.take j) ++ ((if 0 < j then [32] else []) ++ ns[j].data.toList) := by
  rw [List.take_succ_eq_append_getElem h, jn_snoc, List.length_take, Nat.min_eq_left (by omega)]
def NmInv (ns : List ByteArray) (w : World) (sv iv : Value) (wr : World) : Prop :=
  ∃ (j : Nat) (sb : ByteArray), j ≤ ns.length ∧ iv = .int .i64 (j : Int) ∧ sv = .string sb ∧ sb = ⟨(jn (ns.take j)).toArray⟩ ∧ Below w.heap.size w wr
theorem size_mk (l : List UInt8) : (⟨l.toArray⟩ : ByteArray).size = l.length := by simp [ByteArray.size]
theorem app_data (a b : ByteArray) : (a ++ b).data.toList = a.data.toList ++ b.data.toList := by simp
theorem bytes_of {a : ByteArray} {l : List UInt8} (h : a.data.toList = l) : a = ⟨l.toArray⟩ := by
  cases a; simp at h; subst h; rfl
set_option maxHeartbeats 4000000 in
set_option maxRecDepth 100000 in
theorem names_any (ns : List ByteArray) (hs : ∀ s ∈ ns, s.size ≤ 100) (hn : ns.length ≤ 10000) (S : Nat → Prop) (nv : Value) (w : World) (h : NAt S w nv ns) : Calls Tryd.prog 28 #[nv] w (RetStr ⟨(jn ns).toArray⟩ w) := by
  obtain ⟨no, nc, rfl⟩ := h.form
  have HN := Lib.hid h
  have HSZ := Lib.hid hs
  clear h hs
  go_enter Tryd.func28, Tryd.ntmps28
  go_wp2_with fail
  go_loopw [3, 4] (fun sv iv wr => NmInv ns w sv iv wr) (fun _ iv _ => ns.length - (intOf iv).toNat)
  case atStart => exact ⟨0, _, Nat.zero_le _, rfl, rfl, rfl, Below.refl _ _⟩
  case round =>
    obtain ⟨j, sb, hj, rfl, rfl, hsb, hb⟩ := hrel
    have G2 := Lib.hid hb
    have G3 := Lib.hid (HN.out.keeps (Keeps.of_below hb))
    have HSB := Lib.hid hsb
    have hsl : sb.size ≤ 2000000 := by
      rw [hsb, size_mk]
      have h1 := jn_le (ns.take j) (fun s hs => HSZ.out s (List.mem_of_mem_take hs))
      rw [List.length_take] at h1; omega
    clear hb hsb
    by_cases hlt : j < ns.length
    · have q1 : decide ((j : Int) < (ns.length : Int)) = true := decide_eq_true (by omega)
      obtain ⟨g, o, rfl, hS, e0⟩ := G3.out.get j hlt
      obtain ⟨x, hx⟩ : ∃ x, ns[j] = x := ⟨_, rfl⟩
      have hxs : x.size ≤ 100 := by rw [← hx]; exact HSZ.out _ (List.getElem_mem hlt)
      have HTK := Lib.hid (jn_take ns j hlt)
      rw [hx] at e0 HTK
      clear hx hS G3
      by_cases hj0 : 0 < j
      · have q2 : decide ((0 : Int) < (j : Int)) = true := decide_eq_true (by omega)
        have HNX : Hid (NmInv ns w (.string (sb ++ ⟨#[32]⟩ ++ x)) (.int .i64 ((j : Int) + 1)) wr) := ⟨j + 1, _, by omega, by go_num, rfl, bytes_of (by rw [HTK.out, app_data, app_data, HSB.out, if_pos hj0]; simp), G2.out⟩
        go_wp2_with fail
        go_roundw
        case rel => exact HNX.out
        case measure => simp [intOf]; omega
      · have q2 : decide ((0 : Int) < (j : Int)) = false := decide_eq_false (by omega)
        have HNX : Hid (NmInv ns w (.string (sb ++ x)) (.int .i64 ((j : Int) + 1)) wr) := ⟨j + 1, _, by omega, by go_num, rfl, bytes_of (by rw [HTK.out, app_data, HSB.out, if_neg hj0]; simp), G2.out⟩
        go_wp2_with fail
        go_roundw
        case rel => exact HNX.out
        case measure => simp [intOf]; omega
    · have q1 : decide ((j : Int) < (ns.length : Int)) = false := decide_eq_false (by omega)
      obtain rfl : j = ns.length := by omega
      have HSE : Hid (sb = ⟨(jn ns).toArray⟩) := by show _ = _; rw [HSB.out, List.take_length]
      go_wp2_with fail
      go_ret
      exact ⟨by rw [HSE.out]; rfl, G2.out⟩
/-- The document's Text of a term. -/
def RTC (e : Et) : Prop := ∀ (S : Nat → Prop) (cs : Array Value) (w : World), Et.At S w e cs → Calls Tryd.prog 26 #[.agg cs] w (RetStr ⟨e.wr.toArray⟩ w)
def RowInv (l : List Et) (w : World) (sv iv : Value) (wr : World) : Prop :=
  ∃ (j : Nat) (sb : ByteArray), j ≤ l.length ∧ iv = .int .i64 (j : Int) ∧ sv = .string sb ∧ sb = ⟨(Et.wrs false (l.take j)).toArray⟩ ∧ Below w.heap.size w wr
set_option maxHeartbeats 4000000 in
set_option maxRecDepth 100000 in
theorem row_any (l : List Et) (ih : ∀ e ∈ l, RTC e) (hs : (Et.wrs false l).length ≤ 1000000000) (hn : l.length ≤ 100000) (S : Nat → Prop) (av0 : Value) (w : World) (h : AAt S w av0 l) : Calls Tryd.prog 45 #[av0] w (RetStr ⟨(Et.wrs false l).toArray⟩ w) := by
  obtain ⟨ao, ac, rfl⟩ := h.form
  have HN := Lib.hid h
  have IH := Lib.hid ih
  clear h ih
  go_enter Tryd.func45, Tryd.ntmps45
  go_wp2_with fail
  go_loopw [3, 4] (fun sv iv wr => RowInv l w sv iv wr) (fun _ iv _ => l.length - (intOf iv).toNat)
  case atStart => exact ⟨0, _, Nat.zero_le _, rfl, rfl, rfl, Below.refl _ _⟩
  case round =>
    obtain ⟨j, sb, hj, rfl, rfl, hsb, hb⟩ := hrel
    have G2 := Lib.hid hb
    have G3 := Lib.hid (HN.out.keeps (Keeps.of_below hb))
    have HSB := Lib.hid hsb
    clear hb
    by_cases hlt : j < l.length
    · have q1 : decide ((j : Int) < (l.length : Int)) = true := decide_eq_true (by omega)
      obtain ⟨g, o, k, t, nv, av, rfl, hS, -, hat, e0, e1, e2, e3, o1, o2⟩ := G3.out.get j hlt
      have HTK := Lib.hid (wrs_take l false j hlt)
      have hle := wrs_take_le l false (j + 1)
      rw [HTK.out, List.length_append, List.length_append] at hle
      have HC := Lib.hid (IH.out _ (List.getElem_mem hlt) _ _ wr hat)
      obtain ⟨x, hx⟩ : ∃ x : ByteArray, x = ⟨l[j].wr.toArray⟩ := ⟨_, rfl⟩
      have hxl : x.data.toList = l[j].wr := by rw [hx]
      have hxs : x.size = l[j].wr.length := by rw [hx, size_mk]
      have hsl : sb.size = (Et.wrs false (l.take j)).length := by rw [hsb, size_mk]
      rw [← hx] at HC
      have HXL := Lib.hid hxl
      clear hx hxl hS G3 hat hsb
      by_cases hj0 : 0 < j
      · have q2 : decide ((0 : Int) < (j : Int)) = true := decide_eq_true (by omega)
        have hb1 : sb.size + 1 + x.size ≤ 1000000000 := by simp [hj0] at hle; omega
        have HNX : Hid (∀ w', Below wr.heap.size wr w' → RowInv l w (.string (sb ++ ⟨#[32]⟩ ++ x)) (.int .i64 ((j : Int) + 1)) w') := fun w' hw' => ⟨j + 1, _, by omega, by go_num, rfl, bytes_of (by rw [HTK.out, app_data, app_data, HSB.out, HXL.out]; simp [hj0]), G2.out.trans (hw'.mono G2.out.size)⟩
        have hb2 : sb.size ≤ 1000000000 := by omega
        clear hle hsl hxs
        go_wp2_with fail
        refine HC.out.mono ?_
        rintro e w' ⟨rfl, hw'⟩
        have HN9 := Lib.hid (HNX.out w' hw')
        clear hw'
        go_wp2_with fail
        go_roundw
        case rel => exact HN9.out
        case measure => simp [intOf]; omega
      · have q2 : decide ((0 : Int) < (j : Int)) = false := decide_eq_false (by omega)
        have hb1 : sb.size + x.size ≤ 1000000000 := by simp [hj0] at hle; omega
        have HNX : Hid (∀ w', Below wr.heap.size wr w' → RowInv l w (.string (sb ++ x)) (.int .i64 ((j : Int) + 1)) w') := fun w' hw' => ⟨j + 1, _, by omega, by go_num, rfl, bytes_of (by rw [HTK.out, app_data, HSB.out, HXL.out]; simp [hj0]), G2.out.trans (hw'.mono G2.out.size)⟩
        clear hle hsl hxs
        go_wp2_with fail
        refine HC.out.mono ?_
        rintro e w' ⟨rfl, hw'⟩
        have HN9 := Lib.hid (HNX.out w' hw')
        clear hw'
        go_wp2_with fail
        go_roundw
        case rel => exact HN9.out
        case measure => simp [intOf]; omega
    · have q1 : decide ((j : Int) < (l.length : Int)) = false := decide_eq_false (by omega)
      obtain rfl : j = l.length := by omega
      have HSE : Hid (sb = ⟨(Et.wrs false l).toArray⟩) := by show _ = _; rw [HSB.out, List.take_length]
      clear hsb
      go_wp2_with fail
      go_ret
      exact ⟨by rw [HSE.out]; rfl, G2.out⟩
end Go.Proofs.YtmcgocbkjdacaaaDoor
