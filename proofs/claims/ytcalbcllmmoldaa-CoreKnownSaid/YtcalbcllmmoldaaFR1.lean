/- What is around: the map of counts; enter, leave, has. -/
import Derived.Test.YtcalbcllmmoldaaSH
import Derived.Test.YtcalbcllmmoldaaA4
import Derived.Maps.OwnSet
import Derived.Maps.Views
namespace Go.Proofs.Ytcalbcllmmoldaa
open Go.RowKit
open Go.Maps
open Go.WideMaps (keyOf_string_mk)
set_option linter.unusedVariables false
set_option linter.unusedSimpArgs false
def cnt (s : ByteArray) (ns : List ByteArray) : Nat := ns.countP fun x => decide (x = s)
theorem cnt_snoc (s x : ByteArray) (l : List ByteArray) : cnt s (l ++ [x]) = cnt s l + if x = s then 1 else 0 := by
  unfold cnt; rw [List.countP_append]; simp [List.countP_cons]
theorem cnt_cons (s x : ByteArray) (l : List ByteArray) : cnt s (x :: l) = cnt s l + if x = s then 1 else 0 := by
  unfold cnt; simp [List.countP_cons]
theorem cnt_zero (s : ByteArray) (l : List ByteArray) : cnt s l = 0 ↔ s ∉ l := by
  unfold cnt
  rw [List.countP_eq_zero]
  constructor
  · intro h hs; have h1 := h s hs; simp at h1
  · intro h x hx; simp; rintro rfl; exact h hx
theorem cnt_le (s : ByteArray) (l : List ByteArray) : cnt s l ≤ l.length := List.countP_le_length
/-- Block ma is a map of counts. -/
def ArAt (w : World) (ma n : Nat) (c : ByteArray → Nat) : Prop :=
  ∃ D : DataW Unit, w.ownsMap Try.prog 9 (plainElem Try.prog 3) ma n D ∧ (∀ s, D.atKey (litS s) (.lit (.int .i64 0)) = .lit (.int .i64 (c s : Nat))) ∧ ∀ s, c s ≤ n
theorem ArAt.lt {w : World} {ma n : Nat} {c : ByteArray → Nat} (h : ArAt w ma n c) : ma < w.heap.size := by
  obtain ⟨D, h, _⟩ := h; exact h.lt
theorem ArAt.map {w : World} {ma n : Nat} {c : ByteArray → Nat} (h : ArAt w ma n c) : ∃ es clock, w.heap[ma]? = some (.map es clock) := by
  obtain ⟨D, ⟨es, clock, h, _⟩, _⟩ := h; exact ⟨es, clock, h⟩
theorem own_heap {w w' : World} {R : Value → Option (DataW Unit × List MemPlace)} {b n : Nat} {D : DataW Unit} (h : w.ownsMap Try.prog 9 R b n D) (hb : w'.heap[b]? = w.heap[b]?) : w'.ownsMap Try.prog 9 R b n D := by
  obtain ⟨es, clock, h1, r⟩ := h
  exact ⟨es, clock, by rw [hb]; exact h1, r⟩
theorem ArAt.heap {w w' : World} {ma n : Nat} {c : ByteArray → Nat} (h : ArAt w ma n c) (hb : w'.heap[ma]? = w.heap[ma]?) : ArAt w' ma n c := by
  obtain ⟨D, h1, h2, h3⟩ := h
  exact ⟨D, own_heap h1 hb, h2, h3⟩
theorem keeps_map {S : Nat → Prop} {w w' : World} {ma : Nat} (hm : ∃ es clock, w.heap[ma]? = some (.map es clock)) (h : But w.heap.size ma w w') : Keeps S w w' := by
  intro g c T fz _ hg _
  obtain ⟨es, clock, hm⟩ := hm
  refine ⟨fz, ?_⟩
  rw [h.block g (Array.getElem?_eq_some_iff.1 hg).1 (by rintro rfl; rw [hm] at hg; cases hg)]; exact hg
theorem lit_inj {a b : Int} (h : (DataW.lit (.int .i64 a) : DataW Unit) = .lit (.int .i64 b)) : a = b := by
  injection h with h
  injection h
theorem zero3 (w : World) : (zeroValue 3).run Try.prog w = .ok (.int .i64 0) w := by kernel_rfl
theorem litS_key (s : ByteArray) : WideAt.IsKeyLit (litS s) := trivial
/-- One count turned. -/
theorem ArAt.put {w w' : World} {ma n : Nat} {c c' : ByteArray → Nat} {D : DataW Unit} {x : ByteArray} {v : Nat} (hD : w.ownsMap Try.prog 9 (plainElem Try.prog 3) ma n D) (hc : ∀ s, D.atKey (litS s) (.lit (.int .i64 0)) = .lit (.int .i64 (c s : Nat)))
    (ho : w'.ownsMap Try.prog 9 (plainElem Try.prog 3) ma (n + 1) (D.put (litS x) (.lit (.int .i64 (v : Int))))) (h1 : c' x = v) (h2 : ∀ s, s ≠ x → c' s = c s) (h3 : ∀ s, c' s ≤ n + 1) : ArAt w' ma (n + 1) c' := by
  refine ⟨_, ho, fun s => ?_, h3⟩
  by_cases hs : s = x
  · subst hs; rw [atKey_put_same hD.isMap (litS_key _), h1]
  · rw [atKey_put_other (fun e => hs (litS_inj e)), hc, h2 s hs]
def RetAr (ma n : Nat) (c : ByteArray → Nat) (w : World) (e : Ending) (w' : World) : Prop := e = .returned (.tuple #[]) ∧ ArAt w' ma n c ∧ But w.heap.size ma w w'
def EnInv (ns : List ByteArray) (ma n : Nat) (c : ByteArray → Nat) (w : World) (iv : Value) (wr : World) : Prop :=
  ∃ j : Nat, j ≤ ns.length ∧ iv = .int .i64 (j : Int) ∧ ArAt wr ma (n + j) (fun s => c s + cnt s (ns.take j)) ∧ But w.heap.size ma w wr
def LvInv (ns : List ByteArray) (ma n : Nat) (c : ByteArray → Nat) (w : World) (iv : Value) (wr : World) : Prop :=
  ∃ j : Nat, j ≤ ns.length ∧ iv = .int .i64 (j : Int) ∧ ArAt wr ma (n + j) (fun s => c s + cnt s (ns.drop j)) ∧ But w.heap.size ma w wr
theorem but_grown {w w1 : World} {ma : Nat} {W : World} (h : But W.heap.size ma W w) (hg : w.grownBy w1 (some ma)) : But W.heap.size ma W w1 :=
  ⟨hg.os.trans h.os, hg.tape.trans h.tape, hg.output.trans h.output, Nat.le_trans h.size hg.size, fun k hk hne => by rw [hg.block k (Nat.lt_of_lt_of_le hk h.size) (fun e => hne (by injection e)), h.block k hk hne]⟩
set_option maxHeartbeats 4000000 in
set_option maxRecDepth 100000 in
theorem enter_any (ns : List ByteArray) (S : Nat → Prop) (nv : Value) (w : World) (ma n : Nat) (c : ByteArray → Nat) (h : NAt S w nv ns) (ha : ArAt w ma n c) (hs : ∀ s ∈ ns, s.size ≤ 1000000) (hn : n + ns.length ≤ 100000000) :
    Calls Try.prog 61 #[.map (some ma), nv] w (RetAr ma (n + ns.length) (fun s => c s + cnt s ns) w) := by
  obtain ⟨no, nc, rfl⟩ := h.form
  have HN := Lib.hid h
  have HA := Lib.hid ha
  have HS := Lib.hid hs
  clear h ha hs
  go_enter Try.func61, Try.ntmps61
  go_wp2_with fail
  go_loopw [8] (fun iv wr => EnInv ns ma n c w iv wr) (fun iv _ => ns.length - (intOf iv).toNat)
  case atStart => exact ⟨0, Nat.zero_le _, rfl, by simpa [cnt] using HA.out, But.refl _ _ _⟩
  case round =>
    obtain ⟨j, hj, rfl, har, hbu⟩ := hrel
    have HB := Lib.hid hbu
    have HNJ := Lib.hid (HN.out.keeps (keeps_map HA.out.map hbu))
    by_cases hlt : j < ns.length
    · have q1 : decide ((j : Int) < (ns.length : Int)) = true := decide_eq_true (by omega)
      obtain ⟨g, o, rfl, hS, e0⟩ := HNJ.out.get j hlt
      have hxs := HS.out ns[j] (List.getElem_mem hlt)
      have htk : ns.take (j + 1) = ns.take j ++ [ns[j]] := List.take_succ_eq_append_getElem hlt
      obtain ⟨x, hx⟩ : ∃ x, ns[j] = x := ⟨_, rfl⟩
      rw [hx] at e0 hxs htk
      obtain ⟨D, hown, hat0, hle⟩ := har
      obtain ⟨v, hv⟩ : ∃ v, v = c x + cnt x (ns.take j) := ⟨_, rfl⟩
      have hvn : v ≤ n + j := by rw [hv]; exact hle x
      have HDX : Hid (D.atKey (litS x) (.lit (.int .i64 0)) = .lit (.int .i64 (v : Int))) := (hat0 x).trans (by rw [hv])
      have hkey : keyOf Try.prog 9 (.string x) = some (litS x) := keyOf_string_mk Try.underlying9 (by unfold maxLen; omega)
      have hmax : n + j < maxLen := by unfold maxLen; omega
      have HNX : Hid (∀ w1, w1.ownsMap Try.prog 9 (plainElem Try.prog 3) ma (n + j + 1) (D.put (litS x) (.lit (.int .i64 ((v + 1 : Nat) : Int)))) → wr.grownBy w1 (some ma) → EnInv ns ma n c w (.int .i64 ((j : Int) + 1)) w1) := by
        show ∀ w1, _ → _ → _
        intro w1 h1 h2
        refine ⟨j + 1, by omega, by go_num, ArAt.put (n := n + j) hown hat0 h1 ?_ ?_ ?_, but_grown HB.out h2⟩
        · show c x + cnt x (ns.take (j + 1)) = v + 1
          rw [htk, cnt_snoc, if_pos rfl, hv]; omega
        · intro s hs
          show c s + cnt s (ns.take (j + 1)) = c s + cnt s (ns.take j)
          rw [htk, cnt_snoc, if_neg (fun e => hs e.symm)]; omega
        · intro s
          show c s + cnt s (ns.take (j + 1)) ≤ _
          have h9 : c s + cnt s (ns.take j) ≤ n + j := hle s
          rw [htk, cnt_snoc]; split <;> omega
      have e1 : wrap64 ((v : Int) + 1) = (v : Int) + 1 := by unfold wrap64; omega
      have HE1 := Lib.hid e1
      have hwf : (Lit.int .i64 ((v : Int) + 1)).wf = true := by rw [← e1]; exact wrap64_wf _
      clear htk hx hS hv hbu e1 hat0 hle
      go_wp2_with (first
        | (at_lookup; refine wpList_lookup_own_int _ rfl _ _ 67 rfl 9 3 .i64 law9 Try.underlying67 Try.underlying3 (zero3 _) ma (n + j) D rfl hown _ _ rfl hkey ?_; intro c' hat hwc; obtain rfl : c' = (v : Int) := (lit_inj (HDX.out.symm.trans hat)).symm; clear hat hwc)
        | (at_mapUpdate; refine wpList_mapUpdate_own _ rfl _ _ _ 67 rfl 9 3 law9 Try.underlying67 (plainElem Try.prog 3) ma (n + j) _ rfl hown hmax _ _ _ rfl rfl hkey _ [] (plainElem_int Try.underlying3 hwf) ?_; intro w1 hown1 hgrow1; have HN1 := Lib.hid (HNX.out w1 (by simpa using hown1) hgrow1); clear hown1 hgrow1)
        | go_in)
      go_roundw
      case rel => exact HN1.out
      case measure => simp [intOf]; omega
    · have q1 : decide ((j : Int) < (ns.length : Int)) = false := decide_eq_false (by omega)
      obtain rfl : j = ns.length := by omega
      have HAR : Hid (ArAt wr ma (n + ns.length) (fun s => c s + cnt s ns)) := by show ArAt wr ma (n + ns.length) (fun s => c s + cnt s ns); rw [List.take_length] at har; exact har
      clear har hbu
      go_wp2_with fail
      go_end0
      exact ⟨rfl, HAR.out, HB.out⟩
set_option maxHeartbeats 4000000 in
set_option maxRecDepth 100000 in
theorem leave_any (ns : List ByteArray) (S : Nat → Prop) (nv : Value) (w : World) (ma n : Nat) (c : ByteArray → Nat) (h : NAt S w nv ns) (ha : ArAt w ma n (fun s => c s + cnt s ns)) (hs : ∀ s ∈ ns, s.size ≤ 1000000) (hn : n + ns.length ≤ 100000000) :
    Calls Try.prog 62 #[.map (some ma), nv] w (RetAr ma (n + ns.length) c w) := by
  obtain ⟨no, nc, rfl⟩ := h.form
  have HN := Lib.hid h
  have HA := Lib.hid ha
  have HS := Lib.hid hs
  clear h ha hs
  go_enter Try.func62, Try.ntmps62
  go_wp2_with fail
  go_loopw [8] (fun iv wr => LvInv ns ma n c w iv wr) (fun iv _ => ns.length - (intOf iv).toNat)
  case atStart => exact ⟨0, Nat.zero_le _, rfl, by simpa using HA.out, But.refl _ _ _⟩
  case round =>
    obtain ⟨j, hj, rfl, har, hbu⟩ := hrel
    have HB := Lib.hid hbu
    have HNJ := Lib.hid (HN.out.keeps (keeps_map HA.out.map hbu))
    by_cases hlt : j < ns.length
    · have q1 : decide ((j : Int) < (ns.length : Int)) = true := decide_eq_true (by omega)
      obtain ⟨g, o, rfl, hS, e0⟩ := HNJ.out.get j hlt
      have hxs := HS.out ns[j] (List.getElem_mem hlt)
      have htk : ns.drop j = ns[j] :: ns.drop (j + 1) := List.drop_eq_getElem_cons hlt
      obtain ⟨x, hx⟩ : ∃ x, ns[j] = x := ⟨_, rfl⟩
      rw [hx] at e0 hxs htk
      obtain ⟨D, hown, hat0, hle⟩ := har
      obtain ⟨v, hv⟩ : ∃ v, v = c x + cnt x (ns.drop (j + 1)) := ⟨_, rfl⟩
      have hvx : c x + cnt x (ns.drop j) = v + 1 := by rw [htk, cnt_cons, if_pos rfl, hv]; omega
      have hvn : v + 1 ≤ n + j := by rw [← hvx]; exact hle x
      have HDX : Hid (D.atKey (litS x) (.lit (.int .i64 0)) = .lit (.int .i64 ((v + 1 : Nat) : Int))) := (hat0 x).trans (by show DataW.lit (Lit.int .i64 ((c x + cnt x (ns.drop j) : Nat) : Int)) = _; rw [hvx])
      have hkey : keyOf Try.prog 9 (.string x) = some (litS x) := keyOf_string_mk Try.underlying9 (by unfold maxLen; omega)
      have hmax : n + j < maxLen := by unfold maxLen; omega
      have HNX : Hid (∀ w1, w1.ownsMap Try.prog 9 (plainElem Try.prog 3) ma (n + j + 1) (D.put (litS x) (.lit (.int .i64 (v : Int)))) → wr.grownBy w1 (some ma) → LvInv ns ma n c w (.int .i64 ((j : Int) + 1)) w1) := by
        show ∀ w1, _ → _ → _
        intro w1 h1 h2
        refine ⟨j + 1, by omega, by go_num, ArAt.put (n := n + j) hown hat0 h1 ?_ ?_ ?_, but_grown HB.out h2⟩
        · exact hv.symm
        · intro s hs
          show c s + cnt s (ns.drop (j + 1)) = c s + cnt s (ns.drop j)
          rw [htk, cnt_cons, if_neg (fun e => hs e.symm)]; omega
        · intro s
          show c s + cnt s (ns.drop (j + 1)) ≤ _
          have h9 : c s + cnt s (ns.drop j) ≤ n + j := hle s
          rw [htk, cnt_cons] at h9
          split at h9 <;> omega
      have e1 : wrap64 (((v + 1 : Nat) : Int) - 1) = (v : Int) := by unfold wrap64; omega
      have e2 : wrap64 (v : Int) = (v : Int) := by unfold wrap64; omega
      have hwf : (Lit.int .i64 (v : Int)).wf = true := by rw [← e2]; exact wrap64_wf _
      clear htk hx hS hv hbu hat0 hle hvx
      go_wp2_with (first
        | (at_lookup; refine wpList_lookup_own_int _ rfl _ _ 67 rfl 9 3 .i64 law9 Try.underlying67 Try.underlying3 (zero3 _) ma (n + j) D rfl hown _ _ rfl hkey ?_; intro c' hat hwc; obtain rfl : c' = ((v + 1 : Nat) : Int) := (lit_inj (HDX.out.symm.trans hat)).symm; clear hat hwc)
        | (at_mapUpdate; refine wpList_mapUpdate_own _ rfl _ _ _ 67 rfl 9 3 law9 Try.underlying67 (plainElem Try.prog 3) ma (n + j) _ rfl hown hmax _ _ _ rfl rfl hkey _ [] (plainElem_int Try.underlying3 hwf) ?_; intro w1 hown1 hgrow1; have HN1 := Lib.hid (HNX.out w1 (by simpa using hown1) hgrow1); clear hown1 hgrow1)
        | go_in)
      go_roundw
      case rel => exact HN1.out
      case measure => simp [intOf]; omega
    · have q1 : decide ((j : Int) < (ns.length : Int)) = false := decide_eq_false (by omega)
      obtain rfl : j = ns.length := by omega
      have HAR : Hid (ArAt wr ma (n + ns.length) c) := by
        show ArAt wr ma (n + ns.length) c
        rw [List.drop_length] at har
        have e : (fun s => c s + cnt s []) = c := by funext s; simp [cnt]
        rw [e] at har; exact har
      clear har hbu
      go_wp2_with fail
      go_end0
      exact ⟨rfl, HAR.out, HB.out⟩
set_option maxHeartbeats 4000000 in
set_option maxRecDepth 100000 in
theorem has_any (x : ByteArray) (w : World) (ma n : Nat) (c : ByteArray → Nat) (ha : ArAt w ma n c) (hs : x.size ≤ 1000000) : Calls Try.prog 60 #[.map (some ma), .string x] w (RetBw (decide (0 < c x)) w) := by
  obtain ⟨D, hown, hat0, hle⟩ := ha
  obtain ⟨v, hv⟩ : ∃ v, v = c x := ⟨_, rfl⟩
  rw [← hv]
  have HDX : Hid (D.atKey (litS x) (.lit (.int .i64 0)) = .lit (.int .i64 (v : Int))) := (hat0 x).trans (by rw [hv])
  have hkey : keyOf Try.prog 9 (.string x) = some (litS x) := keyOf_string_mk Try.underlying9 (by unfold maxLen; omega)
  clear hat0 hle hv
  go_enter Try.func60, Try.ntmps60
  go_wp2_with (first
    | (at_lookup; refine wpList_lookup_own_int _ rfl _ _ 67 rfl 9 3 .i64 law9 Try.underlying67 Try.underlying3 (zero3 _) ma n D rfl hown _ _ rfl hkey ?_; intro c' hat hwc; obtain rfl : c' = (v : Int) := (lit_inj (HDX.out.symm.trans hat)).symm; clear hat hwc)
    | go_in)
  go_ret
  exact ⟨by simp, rfl⟩
end Go.Proofs.Ytcalbcllmmoldaa
