/- What is around: the map of counts; enter, leave, has. -/
import Derived.Test.YtpkcoplpfenliaaSH
import Derived.Test.YtpkcoplpfenliaaA4
import Derived.Maps.OwnSet
import Derived.Maps.Views
import Derived.Test.YtpkcoplpfenliaaMK3
import Derived.Test.YtpkcoplpfenliaaT0
import Derived.Test.YtpkcoplpfenliaaSHL
import Derived.Test.YtpkcoplpfenliaaMN0
import Derived.Sort.Walk0
import Derived.Test.YtpkcoplpfenliaaZT
namespace Go.Proofs.Ytpkcoplpfenliaa
open Go.RowKit
open Go.Maps
open Go.WideMaps (keyOf_string_mk)
set_option linter.unusedVariables false
set_option linter.unusedSimpArgs false
def cnt (s : ByteArray) (ns : List ByteArray) : Nat := ns.countP fun x => decide (x = s)
theorem cnt_snoc (s x : ByteArray) (l : List ByteArray) : cnt s (l ++ [x]) = cnt s l + if x = s then 1 else 0 := by
  unfold cnt; rw [List.countP_append]; simp [List.countP_cons]
theorem cnt_cons (s x : ByteArray) (l : List ByteArray) : cnt s (x :: l) = cnt s l + if x = s then 1 else 0 := by
  unfold cnt; simp [List.countP_cons]
theorem cnt_zero (s : ByteArray) (l : List ByteArray) : cnt s l = 0 ↔ s ∉ l := by
  unfold cnt
  rw [List.countP_eq_zero]
  constructor
  · intro h hs; have h1 := h s hs; simp at h1
  · intro h x hx; simp; rintro rfl; exact h hx
theorem cnt_le (s : ByteArray) (l : List ByteArray) : cnt s l ≤ l.length := List.countP_le_length
/-- Block ma is a map of counts. -/
def ArAt (w : World) (ma n : Nat) (c : ByteArray → Nat) : Prop :=
  ∃ D : DataW Unit, w.ownsMap Try.prog 9 (plainElem Try.prog 3) ma n D ∧ (∀ s, D.atKey (litS s) (.lit (.int .i64 0)) = .lit (.int .i64 (c s : Nat))) ∧ ∀ s, c s ≤ n
theorem ArAt.lt {w : World} {ma n : Nat} {c : ByteArray → Nat} (h : ArAt w ma n c) : ma < w.heap.size := by
  obtain ⟨D, h, _⟩ := h; exact h.lt
theorem ArAt.map {w : World} {ma n : Nat} {c : ByteArray → Nat} (h : ArAt w ma n c) : ∃ es clock, w.heap[ma]? = some (.map es clock) := by
  obtain ⟨D, ⟨es, clock, h, _⟩, _⟩ := h; exact ⟨es, clock, h⟩
theorem own_heap {w w' : World} {R : Value → Option (DataW Unit × List MemPlace)} {b n : Nat} {D : DataW Unit} (h : w.ownsMap Try.prog 9 R b n D) (hb : w'.heap[b]? = w.heap[b]?) : w'.ownsMap Try.prog 9 R b n D := by
  obtain ⟨es, clock, h1, r⟩ := h
  exact ⟨es, clock, by rw [hb]; exact h1, r⟩
theorem ArAt.heap {w w' : World} {ma n : Nat} {c : ByteArray → Nat} (h : ArAt w ma n c) (hb : w'.heap[ma]? = w.heap[ma]?) : ArAt w' ma n c := by
  obtain ⟨D, h1, h2, h3⟩ := h
  exact ⟨D, own_heap h1 hb, h2, h3⟩
theorem keeps_map {S : Nat → Prop} {w w' : World} {ma : Nat} (hm : ∃ es clock, w.heap[ma]? = some (.map es clock)) (h : But w.heap.size ma w w') : Keeps S w w' := by
  intro g c T fz _ hg _
  obtain ⟨es, clock, hm⟩ := hm
  refine ⟨fz, ?_⟩
  rw [h.block g (Array.getElem?_eq_some_iff.1 hg).1 (by rintro rfl; rw [hm] at hg; cases hg)]; exact hg
theorem lit_inj {a b : Int} (h : (DataW.lit (.int .i64 a) : DataW Unit) = .lit (.int .i64 b)) : a = b := by
  injection h with h
  injection h
theorem zero3 (w : World) : (zeroValue 3).run Try.prog w = .ok (.int .i64 0) w := by kernel_rfl
theorem litS_key (s : ByteArray) : WideAt.IsKeyLit (litS s) := trivial
/-- One count turned. -/
theorem ArAt.put {w w' : World} {ma n : Nat} {c c' : ByteArray → Nat} {D : DataW Unit} {x : ByteArray} {v : Nat} (hD : w.ownsMap Try.prog 9 (plainElem Try.prog 3) ma n D) (hc : ∀ s, D.atKey (litS s) (.lit (.int .i64 0)) = .lit (.int .i64 (c s : Nat)))
    (ho : w'.ownsMap Try.prog 9 (plainElem Try.prog 3) ma (n + 1) (D.put (litS x) (.lit (.int .i64 (v : Int))))) (h1 : c' x = v) (h2 : ∀ s, s ≠ x → c' s = c s) (h3 : ∀ s, c' s ≤ n + 1) : ArAt w' ma (n + 1) c' := by
  refine ⟨_, ho, fun s => ?_, h3⟩
  by_cases hs : s = x
  · subst hs; rw [atKey_put_same hD.isMap (litS_key _), h1]
  · rw [atKey_put_other (fun e => hs (litS_inj e)), hc, h2 s hs]
def RetAr (ma n : Nat) (c : ByteArray → Nat) (w : World) (e : Ending) (w' : World) : Prop := e = .returned (.tuple #[]) ∧ ArAt w' ma n c ∧ But w.heap.size ma w w'
def EnInv (ns : List ByteArray) (ma n : Nat) (c : ByteArray → Nat) (w : World) (iv : Value) (wr : World) : Prop :=
  ∃ j : Nat, j ≤ ns.length ∧ iv = .int .i64 (j : Int) ∧ ArAt wr ma (n + j) (fun s => c s + cnt s (ns.take j)) ∧ But w.heap.size ma w wr
def LvInv (ns : List ByteArray) (ma n : Nat) (c : ByteArray → Nat) (w : World) (iv : Value) (wr : World) : Prop :=
  ∃ j : Nat, j ≤ ns.length ∧ iv = .int .i64 (j : Int) ∧ ArAt wr ma (n + j) (fun s => c s + cnt s (ns.drop j)) ∧ But w.heap.size ma w wr
theorem but_grown {w w1 : World} {ma : Nat} {W : World} (h : But W.heap.size ma W w) (hg : w.grownBy w1 (some ma)) : But W.heap.size ma W w1 :=
  ⟨hg.os.trans h.os, hg.tape.trans h.tape, hg.output.trans h.output, Nat.le_trans h.size hg.size, fun k hk hne => by rw [hg.block k (Nat.lt_of_lt_of_le hk h.size) (fun e => hne (by injection e)), h.block k hk hne]⟩
set_option maxHeartbeats 4000000 in
set_option maxRecDepth 100000 in
theorem enter_any (ns : List ByteArray) (S : Nat → Prop) (nv : Value) (w : World) (ma n : Nat) (c : ByteArray → Nat) (h : NAt S w nv ns) (ha : ArAt w ma n c) (hs : ∀ s ∈ ns, s.size ≤ 1000000) (hn : n + ns.length ≤ 100000000) :
    Calls Try.prog 61 #[.map (some ma), nv] w (RetAr ma (n + ns.length) (fun s => c s + cnt s ns) w) := by
  obtain ⟨no, nc, rfl⟩ := h.form
  have HN := Lib.hid h
  have HA := Lib.hid ha
  have HS := Lib.hid hs
  clear h ha hs
  go_enter Try.func61, Try.ntmps61
  go_wp2_with fail
  go_loopw [8] (fun iv wr => EnInv ns ma n c w iv wr) (fun iv _ => ns.length - (intOf iv).toNat)
  case atStart => exact ⟨0, Nat.zero_le _, rfl, by simpa [cnt] using HA.out, But.refl _ _ _⟩
  case round =>
    obtain ⟨j, hj, rfl, har, hbu⟩ := hrel
    have HB := Lib.hid hbu
    have HNJ := Lib.hid (HN.out.keeps (keeps_map HA.out.map hbu))
    by_cases hlt : j < ns.length
    · have q1 : decide ((j : Int) < (ns.length : Int)) = true := decide_eq_true (by omega)
      obtain ⟨g, o, rfl, hS, e0⟩ := HNJ.out.get j hlt
      have hxs := HS.out ns[j] (List.getElem_mem hlt)
      have htk : ns.take (j + 1) = ns.take j ++ [ns[j]] := List.take_succ_eq_append_getElem hlt
      obtain ⟨x, hx⟩ : ∃ x, ns[j] = x := ⟨_, rfl⟩
      rw [hx] at e0 hxs htk
      obtain ⟨D, hown, hat0, hle⟩ := har
      obtain ⟨v, hv⟩ : ∃ v, v = c x + cnt x (ns.take j) := ⟨_, rfl⟩
      have hvn : v ≤ n + j := by rw [hv]; exact hle x
      have HDX : Hid (D.atKey (litS x) (.lit (.int .i64 0)) = .lit (.int .i64 (v : Int))) := (hat0 x).trans (by rw [hv])
      have hkey : keyOf Try.prog 9 (.string x) = some (litS x) := keyOf_string_mk Try.underlying9 (by unfold maxLen; omega)
      have hmax : n + j < maxLen := by unfold maxLen; omega
      have HNX : Hid (∀ w1, w1.ownsMap Try.prog 9 (plainElem Try.prog 3) ma (n + j + 1) (D.put (litS x) (.lit (.int .i64 ((v + 1 : Nat) : Int)))) → wr.grownBy w1 (some ma) → EnInv ns ma n c w (.int .i64 ((j : Int) + 1)) w1) := by
        show ∀ w1, _ → _ → _
        intro w1 h1 h2
        refine ⟨j + 1, by omega, by go_num, ArAt.put (n := n + j) hown hat0 h1 ?_ ?_ ?_, but_grown HB.out h2⟩
        · show c x + cnt x (ns.take (j + 1)) = v + 1
          rw [htk, cnt_snoc, if_pos rfl, hv]; omega
        · intro s hs
          show c s + cnt s (ns.take (j + 1)) = c s + cnt s (ns.take j)
          rw [htk, cnt_snoc, if_neg (fun e => hs e.symm)]; omega
        · intro s
          show c s + cnt s (ns.take (j + 1)) ≤ _
          have h9 : c s + cnt s (ns.take j) ≤ n + j := hle s
          rw [htk, cnt_snoc]; split <;> omega
      have e1 : wrap64 ((v : Int) + 1) = (v : Int) + 1 := by unfold wrap64; omega
      have HE1 := Lib.hid e1
      have hwf : (Lit.int .i64 ((v : Int) + 1)).wf = true := by rw [← e1]; exact wrap64_wf _
      clear htk hx hS hv hbu e1 hat0 hle
      go_wp2_with (first
        | (at_lookup; refine wpList_lookup_own_int _ rfl _ _ 67 rfl 9 3 .i64 law9 Try.underlying67 Try.underlying3 (zero3 _) ma (n + j) D rfl hown _ _ rfl hkey ?_; intro c' hat hwc; obtain rfl : c' = (v : Int) := (lit_inj (HDX.out.symm.trans hat)).symm; clear hat hwc)
        | (at_mapUpdate; refine wpList_mapUpdate_own _ rfl _ _ _ 67 rfl 9 3 law9 Try.underlying67 (plainElem Try.prog 3) ma (n + j) _ rfl hown hmax _ _ _ rfl rfl hkey _ [] (plainElem_int Try.underlying3 hwf) ?_; intro w1 hown1 hgrow1; have HN1 := Lib.hid (HNX.out w1 (by simpa using hown1) hgrow1); clear hown1 hgrow1)
        | go_in)
      go_roundw
      case rel => exact HN1.out
      case measure => simp [intOf]; omega
    · have q1 : decide ((j : Int) < (ns.length : Int)) = false := decide_eq_false (by omega)
      obtain rfl : j = ns.length := by omega
      have HAR : Hid (ArAt wr ma (n + ns.length) (fun s => c s + cnt s ns)) := by show ArAt wr ma (n + ns.length) (fun s => c s + cnt s ns); rw [List.take_length] at har; exact har
      clear har hbu
      go_wp2_with fail
      go_end0
      exact ⟨rfl, HAR.out, HB.out⟩
set_option maxHeartbeats 4000000 in
set_option maxRecDepth 100000 in
theorem leave_any (ns : List ByteArray) (S : Nat → Prop) (nv : Value) (w : World) (ma n : Nat) (c : ByteArray → Nat) (h : NAt S w nv ns) (ha : ArAt w ma n (fun s => c s + cnt s ns)) (hs : ∀ s ∈ ns, s.size ≤ 1000000) (hn : n + ns.length ≤ 100000000) :
    Calls Try.prog 62 #[.map (some ma), nv] w (RetAr ma (n + ns.length) c w) := by
  obtain ⟨no, nc, rfl⟩ := h.form
  have HN := Lib.hid h
  have HA := Lib.hid ha
  have HS := Lib.hid hs
  clear h ha hs
  go_enter Try.func62, Try.ntmps62
  go_wp2_with fail
  go_loopw [8] (fun iv wr => LvInv ns ma n c w iv wr) (fun iv _ => ns.length - (intOf iv).toNat)
  case atStart => exact ⟨0, Nat.zero_le _, rfl, by simpa using HA.out, But.refl _ _ _⟩
  case round =>
    obtain ⟨j, hj, rfl, har, hbu⟩ := hrel
    have HB := Lib.hid hbu
    have HNJ := Lib.hid (HN.out.keeps (keeps_map HA.out.map hbu))
    by_cases hlt : j < ns.length
    · have q1 : decide ((j : Int) < (ns.length : Int)) = true := decide_eq_true (by omega)
      obtain ⟨g, o, rfl, hS, e0⟩ := HNJ.out.get j hlt
      have hxs := HS.out ns[j] (List.getElem_mem hlt)
      have htk : ns.drop j = ns[j] :: ns.drop (j + 1) := List.drop_eq_getElem_cons hlt
      obtain ⟨x, hx⟩ : ∃ x, ns[j] = x := ⟨_, rfl⟩
      rw [hx] at e0 hxs htk
      obtain ⟨D, hown, hat0, hle⟩ := har
      obtain ⟨v, hv⟩ : ∃ v, v = c x + cnt x (ns.drop (j + 1)) := ⟨_, rfl⟩
      have hvx : c x + cnt x (ns.drop j) = v + 1 := by rw [htk, cnt_cons, if_pos rfl, hv]; omega
      have hvn : v + 1 ≤ n + j := by rw [← hvx]; exact hle x
      have HDX : Hid (D.atKey (litS x) (.lit (.int .i64 0)) = .lit (.int .i64 ((v + 1 : Nat) : Int))) := (hat0 x).trans (by show DataW.lit (Lit.int .i64 ((c x + cnt x (ns.drop j) : Nat) : Int)) = _; rw [hvx])
      have hkey : keyOf Try.prog 9 (.string x) = some (litS x) := keyOf_string_mk Try.underlying9 (by unfold maxLen; omega)
      have hmax : n + j < maxLen := by unfold maxLen; omega
      have HNX : Hid (∀ w1, w1.ownsMap Try.prog 9 (plainElem Try.prog 3) ma (n + j + 1) (D.put (litS x) (.lit (.int .i64 (v : Int)))) → wr.grownBy w1 (some ma) → LvInv ns ma n c w (.int .i64 ((j : Int) + 1)) w1) := by
        show ∀ w1, _ → _ → _
        intro w1 h1 h2
        refine ⟨j + 1, by omega, by go_num, ArAt.put (n := n + j) hown hat0 h1 ?_ ?_ ?_, but_grown HB.out h2⟩
        · exact hv.symm
        · intro s hs
          show c s + cnt s (ns.drop (j + 1)) = c s + cnt s (ns.drop j)
          rw [htk, cnt_cons, if_neg (fun e => hs e.symm)]; omega
        · intro s
          show c s + cnt s (ns.drop (j + 1)) ≤ _
          have h9 : c s + cnt s (ns.drop j) ≤ n + j := hle s
          rw [htk, cnt_cons] at h9
          split at h9 <;> omega
      have e1 : wrap64 (((v + 1 : Nat) : Int) - 1) = (v : Int) := by unfold wrap64; omega
      have e2 : wrap64 (v : Int) = (v : Int) := by unfold wrap64; omega
      have hwf : (Lit.int .i64 (v : Int)).wf = true := by rw [← e2]; exact wrap64_wf _
      clear htk hx hS hv hbu hat0 hle hvx
      go_wp2_with (first
        | (at_lookup; refine wpList_lookup_own_int _ rfl _ _ 67 rfl 9 3 .i64 law9 Try.underlying67 Try.underlying3 (zero3 _) ma (n + j) D rfl hown _ _ rfl hkey ?_; intro c' hat hwc; obtain rfl : c' = ((v + 1 : Nat) : Int) := (lit_inj (HDX.out.symm.trans hat)).symm; clear hat hwc)
        | (at_mapUpdate; refine wpList_mapUpdate_own _ rfl _ _ _ 67 rfl 9 3 law9 Try.underlying67 (plainElem Try.prog 3) ma (n + j) _ rfl hown hmax _ _ _ rfl rfl hkey _ [] (plainElem_int Try.underlying3 hwf) ?_; intro w1 hown1 hgrow1; have HN1 := Lib.hid (HNX.out w1 (by simpa using hown1) hgrow1); clear hown1 hgrow1)
        | go_in)
      go_roundw
      case rel => exact HN1.out
      case measure => simp [intOf]; omega
    · have q1 : decide ((j : Int) < (ns.length : Int)) = false := decide_eq_false (by omega)
      obtain rfl : j = ns.length := by omega
      have HAR : Hid (ArAt wr ma (n + ns.length) c) := by
        show ArAt wr ma (n + ns.length) c
        rw [List.drop_length] at har
        have e : (fun s => c s + cnt s []) = c := by funext s; simp [cnt]
        rw [e] at har; exact har
      clear har hbu
      go_wp2_with fail
      go_end0
      exact ⟨rfl, HAR.out, HB.out⟩
set_option maxHeartbeats 4000000 in
set_option maxRecDepth 100000 in
theorem has_any (x : ByteArray) (w : World) (ma n : Nat) (c : ByteArray → Nat) (ha : ArAt w ma n c) (hs : x.size ≤ 1000000) : Calls Try.prog 60 #[.map (some ma), .string x] w (RetBw (decide (0 < c x)) w) := by
  obtain ⟨D, hown, hat0, hle⟩ := ha
  obtain ⟨v, hv⟩ : ∃ v, v = c x := ⟨_, rfl⟩
  rw [← hv]
  have HDX : Hid (D.atKey (litS x) (.lit (.int .i64 0)) = .lit (.int .i64 (v : Int))) := (hat0 x).trans (by rw [hv])
  have hkey : keyOf Try.prog 9 (.string x) = some (litS x) := keyOf_string_mk Try.underlying9 (by unfold maxLen; omega)
  clear hat0 hle hv
  go_enter Try.func60, Try.ntmps60
  go_wp2_with (first
    | (at_lookup; refine wpList_lookup_own_int _ rfl _ _ 67 rfl 9 3 .i64 law9 Try.underlying67 Try.underlying3 (zero3 _) ma n D rfl hown _ _ rfl hkey ?_; intro c' hat hwc; obtain rfl : c' = (v : Int) := (lit_inj (HDX.out.symm.trans hat)).symm; clear hat hwc)
    | go_in)
  go_ret
  exact ⟨by simp, rfl⟩
end Go.Proofs.Ytpkcoplpfenliaa
/- The finder goes through a term. -/
namespace Go.Proofs.Ytpkcoplpfenliaa
open Go.RowKit
open Go.Maps
open Go.WideMaps (keyOf_string_mk)
set_option linter.unusedVariables false
set_option linter.unusedSimpArgs false
/-- Block mf is a set of names. -/
def FrAt (w : World) (mf n : Nat) (F : ByteArray → Prop) : Prop := ∃ D : DataW Unit, w.ownsMap Try.prog 9 (unitElem (H := Unit)) mf n D ∧ ∀ s, has D (litS s) = true ↔ F s
theorem FrAt.heap {w w' : World} {mf n : Nat} {F : ByteArray → Prop} (h : FrAt w mf n F) (hb : w'.heap[mf]? = w.heap[mf]?) : FrAt w' mf n F := by
  obtain ⟨D, h1, h2⟩ := h
  exact ⟨D, own_heap h1 hb, h2⟩
theorem FrAt.lt {w : World} {mf n : Nat} {F : ByteArray → Prop} (h : FrAt w mf n F) : mf < w.heap.size := by obtain ⟨D, h, _⟩ := h; exact h.lt
theorem FrAt.map {w : World} {mf n : Nat} {F : ByteArray → Prop} (h : FrAt w mf n F) : ∃ es clock, w.heap[mf]? = some (.map es clock) := by
  obtain ⟨D, ⟨es, clock, h, _⟩, _⟩ := h; exact ⟨es, clock, h⟩
theorem FrAt.mono {w : World} {mf n n' : Nat} {F F' : ByteArray → Prop} (h : FrAt w mf n F) (hn : n ≤ n') (hF : ∀ s, F s ↔ F' s) : FrAt w mf n' F' := by
  obtain ⟨D, h1, h2⟩ := h
  exact ⟨D, h1.mono hn, fun s => (h2 s).trans (hF s)⟩
theorem ArAt.mono {w : World} {ma n n' : Nat} {c c' : ByteArray → Nat} (h : ArAt w ma n c) (hn : n ≤ n') (hc : ∀ s, c s = c' s) : ArAt w ma n' c' := by
  obtain ⟨D, h1, h2, h3⟩ := h
  exact ⟨D, h1.mono hn, fun s => by rw [h2, hc], fun s => by rw [← hc]; exact Nat.le_trans (h3 s) hn⟩
theorem FrAt.put {w w' : World} {mf n : Nat} {F F' : ByteArray → Prop} {D : DataW Unit} {x : ByteArray} (hD : w.ownsMap Try.prog 9 (unitElem (H := Unit)) mf n D) (hc : ∀ s, has D (litS s) = true ↔ F s)
    (ho : w'.ownsMap Try.prog 9 (unitElem (H := Unit)) mf (n + 1) (D.put (litS x) (.agg []))) (h : ∀ s, F' s ↔ (s = x ∨ F s)) : FrAt w' mf (n + 1) F' := by
  refine ⟨_, ho, fun s => ?_⟩
  rw [h]
  by_cases hs : s = x
  · subst hs; rw [has_put_same hD.isMap (litS_key _)]; simp
  · rw [has_put_other (fun e => hs (litS_inj e)), hc]; simp [hs]
theorem keeps_maps {S : Nat → Prop} {w w' : World} {ma mf : Nat} (hm : ∃ es clock, w.heap[ma]? = some (.map es clock)) (hf : ∃ es clock, w.heap[mf]? = some (.map es clock)) (h : But2 w.heap.size ma mf w w') : Keeps S w w' := by
  intro g c T fz _ hg _
  obtain ⟨es, clock, hm⟩ := hm
  obtain ⟨es2, clock2, hf⟩ := hf
  refine ⟨fz, ?_⟩
  rw [h.block g (Array.getElem?_eq_some_iff.1 hg).1 (by rintro rfl; rw [hm] at hg; cases hg) (by rintro rfl; rw [hf] at hg; cases hg)]; exact hg
theorem row_but2 {w w' : World} {ma mf : Nat} (h : But2 w.heap.size ma mf w w') {g : Nat} {c : Array Value} {T : TypeId} {fz : Nat × Nat} (hg : w.heap[g]? = some (.cells c T fz)) (h1 : g ≠ ma) (h2 : g ≠ mf) : w'.heap[g]? = some (.cells c T fz) := by
  rw [h.block g (Array.getElem?_eq_some_iff.1 hg).1 h1 h2]; exact hg
def RetF (e : Et) (ma mf n : Nat) (c : ByteArray → Nat) (F : ByteArray → Prop) (w : World) (r : Ending) (w' : World) : Prop :=
  r = .returned (.tuple #[]) ∧ ArAt w' ma (n + 300 * e.size) c ∧ FrAt w' mf (n + 300 * e.size) (fun s => F s ∨ (e.fr s ∧ c s = 0)) ∧ But2 w.heap.size ma mf w w'
def FC (e : Et) : Prop := ∀ (S : Nat → Prop) (cs : Array Value) (w : World) (ma mf n : Nat) (c : ByteArray → Nat) (F : ByteArray → Prop), ArAt w ma n c → FrAt w mf n F → ma ≠ mf → Et.At S w e cs → n + 300 * e.size ≤ 100000000 →
  Calls Try.prog 45 #[.agg #[.map (some ma), .map (some mf)], .agg cs] w (RetF e ma mf n c F w)
/-- The loop over the parts. -/
def FnInv (a : List Et) (ma mf n : Nat) (c : ByteArray → Nat) (F : ByteArray → Prop) (w : World) (iv : Value) (wr : World) : Prop :=
  ∃ j : Nat, j ≤ a.length ∧ iv = .int .i64 (j : Int) ∧ ArAt wr ma (n + 300 * Et.sizes (a.take j)) c ∧ FrAt wr mf (n + 300 * Et.sizes (a.take j)) (fun s => F s ∨ (Et.frs s (a.take j) ∧ c s = 0)) ∧ But2 w.heap.size ma mf w wr
theorem frs_snoc (s : ByteArray) (l : List Et) (e : Et) : Et.frs s (l ++ [e]) ↔ Et.frs s l ∨ e.fr s := by
  rw [frs_iff, frs_iff]; simp [or_and_right, exists_or]
set_option maxHeartbeats 8000000 in
set_option maxRecDepth 100000 in
theorem finder_any (k : Int) (t : ByteArray) (ns : List ByteArray) (a : List Et) (ih : ∀ e ∈ a, FC e) (hl : a.length ≤ 100000) (hnl : ns.length ≤ 100) (hns : ∀ s ∈ ns, s.size ≤ 100) (hts : t.size ≤ 100) : FC (.mk k t ns a) := by
  intro S cs w ma mf n c F har hfr hmm hat hn
  simp only [Et.size] at hn
  rw [EAt_mk] at hat
  obtain ⟨nv, av, rfl, hm, hla⟩ := hat
  have o1 := hm.one
  have o2 := hla.one
  obtain ⟨no, nc, rfl⟩ := hm.form
  obtain ⟨ao, ac, rfl⟩ := hla.form
  have hma := har.lt
  have hmf := hfr.lt
  have A1 := (Below.refl w.heap.size w).alloc (Nat.le_refl _) (.cells #[.map (some ma), .map (some mf)] 70)
  have A2 := A1.alloc A1.size (.cells #[.int .i64 k, .string t, .slice no ns.length nc, .slice ao a.length ac] 28)
  have hs2 : (w.alloc (.cells #[.map (some ma), .map (some mf)] 70)).heap.size = w.heap.size + 1 := by simp
  have HBX : Hid (((w.alloc (.cells #[.map (some ma), .map (some mf)] 70)).alloc (.cells #[.int .i64 k, .string t, .slice no ns.length nc, .slice ao a.length ac] 28)).heap[w.heap.size]? = some (.cells #[.map (some ma), .map (some mf)] 70 (0, 0))) := (Lib.alloc_old _ _ _ (by simp)).trans (alloc_at w _)
  have HE : Hid (EB ((w.alloc (.cells #[.map (some ma), .map (some mf)] 70)).alloc (.cells #[.int .i64 k, .string t, .slice no ns.length nc, .slice ao a.length ac] 28)) (w.heap.size + 1) k t (.slice no ns.length nc) (.slice ao a.length ac)) := by
    show EB _ _ _ _ _ _
    have h := alloc_at (w.alloc (.cells #[.map (some ma), .map (some mf)] 70)) (.cells #[.int .i64 k, .string t, .slice no ns.length nc, .slice ao a.length ac] 28)
    rw [hs2] at h; exact h
  have HAR : Hid (ArAt ((w.alloc (.cells #[.map (some ma), .map (some mf)] 70)).alloc (.cells #[.int .i64 k, .string t, .slice no ns.length nc, .slice ao a.length ac] 28)) ma n c) := har.heap (A2.block ma hma)
  have HFR : Hid (FrAt ((w.alloc (.cells #[.map (some ma), .map (some mf)] 70)).alloc (.cells #[.int .i64 k, .string t, .slice no ns.length nc, .slice ao a.length ac] 28)) mf n F) := hfr.heap (A2.block mf hmf)
  have HM := Lib.hid (hm.keeps (Keeps.of_below A2))
  have HA := Lib.hid (hla.keeps (Keeps.of_below A2))
  have HU : Hid (But2 w.heap.size ma mf w ((w.alloc (.cells #[.map (some ma), .map (some mf)] 70)).alloc (.cells #[.int .i64 k, .string t, .slice no ns.length nc, .slice ao a.length ac] 28))) := But2.of (But.of A2)
  have hga : w.heap.size ≠ ma := by omega
  have hgf : w.heap.size ≠ mf := by omega
  have hea : w.heap.size + 1 ≠ ma := by omega
  have hef : w.heap.size + 1 ≠ mf := by omega
  have IH := Lib.hid ih
  have HNS := Lib.hid hns
  have HHAS := Lib.hid (fun w har => has_any t w ma n c har (by omega))
  clear har hfr hm hla A1 A2 hs2 ih hns hma hmf
  go_enter Try.func45, Try.ntmps45
  go_upto_region 1 with fail
  generalize (w.alloc (.cells #[.map (some ma), .map (some mf)] 70)).alloc (.cells #[.int .i64 k, .string t, .slice no ns.length nc, .slice ao a.length ac] 28) = W1 at HBX HE HAR HFR HM HA HU ⊢
  obtain ⟨gs, hgs⟩ : ∃ gs, gs = w.heap.size := ⟨_, rfl⟩
  obtain ⟨ge, hge⟩ : ∃ ge, ge = gs + 1 := ⟨_, rfl⟩
  rw [← hgs] at HBX HE hga hgf hea hef
  rw [← hge] at HE hea hef
  simp only [← hgs]
  simp only [← hge]
  clear hgs hge
  obtain ⟨c0, c1, c2, c3⟩ := EB.cell _ _ _ _ _ _ HE.out
  have b0 : W1.cell? ⟨gs, 0, none⟩ = some (.map (some ma)) := by rw [Lib.cell_of_heap HBX.out]; rfl
  have b1 : W1.cell? ⟨gs, 1, none⟩ = some (.map (some mf)) := by rw [Lib.cell_of_heap HBX.out]; rfl
  by_cases hk5 : k = 5
  · subst hk5
    have HH := Lib.hid (HHAS.out W1 HAR.out)
    by_cases hct : c t = 0
    · have q0 : decide (0 < c t) = false := decide_eq_false (by omega)
      rw [q0] at HH
      obtain ⟨D, hown, hD⟩ := HFR.out
      have hkey : keyOf Try.prog 9 (.string t) = some (litS t) := keyOf_string_mk Try.underlying9 (by unfold maxLen; omega)
      have hmax : n < maxLen := by unfold maxLen; omega
      obtain ⟨F1, hF1⟩ : ∃ F1 : ByteArray → Prop, F1 = fun s => F s ∨ ((t = s) ∧ c s = 0) := ⟨_, rfl⟩
      obtain ⟨n1, hn1⟩ : ∃ n1, n1 = n + 1 := ⟨_, rfl⟩
      have HPUT : Hid (∀ w1, w1.ownsMap Try.prog 9 (unitElem (H := Unit)) mf (n + 1) (D.put (litS t) (.agg [])) → FrAt w1 mf n1 F1) := by
        show ∀ w1, _ → _
        intro w1 h1
        rw [hn1]
        refine FrAt.put hown hD h1 (fun s => ?_)
        rw [hF1]
        constructor
        · rintro (h | ⟨rfl, h⟩)
          · exact .inr h
          · exact .inl rfl
        · rintro (rfl | h)
          · exact .inr ⟨rfl, hct⟩
          · exact .inl h
      have HF1 : Hid (∀ s, F1 s ↔ (F s ∨ (((5 : Int) = 5 ∧ t = s) ∧ c s = 0))) := by show ∀ s, _; intro s; rw [hF1]; simp
      have hn1' : n1 + 300 * Et.sizes a + 250 ≤ 100000000 := by omega
      have hnn : n1 ≤ n + 1 := by omega
      have hnn2 : n ≤ n1 := by omega
      clear hF1 hD hct hn1
      go_wp2_with fail
      refine HH.out.mono ?_
      rintro e' w2 ⟨rfl, rfl⟩
      go_upto_region 3 with (first
        | (at_mapUpdate; refine wpList_mapUpdate_own _ rfl _ _ _ 68 rfl 9 75 law9 Try.underlying68 (unitElem (H := Unit)) mf n _ rfl hown hmax _ _ _ rfl rfl hkey _ [] unitElem_mk ?_; intro W3 hown1 hgrow1)
        | go_in)
      have HFR3 := Lib.hid (HPUT.out W3 hown1)
      have HAR3 : Hid (ArAt W3 ma n1 c) := (HAR.out.heap (hgrow1.block ma HAR.out.lt (fun e => by injection e with e; exact hmm e))).mono (by omega) (fun _ => rfl)
      have hu3 : But2 W1.heap.size ma mf W1 W3 := ⟨hgrow1.os, hgrow1.tape, hgrow1.output, hgrow1.size, fun i hi _ h2 => hgrow1.block i hi (fun e => by injection e with e; exact h2 e)⟩
      have HU3 := Lib.hid (HU.out.trans ⟨hu3.os, hu3.tape, hu3.output, hu3.size, fun i hi h1 h2 => hu3.block i (Nat.lt_of_lt_of_le hi HU.out.size) h1 h2⟩)
      have HBX3 := Lib.hid (row_but2 hu3 HBX.out hga hgf)
      have HE3 : Hid (EB W3 ge 5 t (.slice no ns.length nc) (.slice ao a.length ac)) := row_but2 hu3 HE.out hea hef
      have HM3 := Lib.hid (HM.out.keeps (keeps_maps HAR.out.map HFR.out.map hu3))
      have HA3 := Lib.hid (HA.out.keeps (keeps_maps HAR.out.map HFR.out.map hu3))
      clear hown1 hgrow1 hu3 hown HPUT HFR HAR HBX HE HM HA HU c0 c1 c2 c3 b0 b1 HH hkey hmax
      have HEN := Lib.hid (enter_any ns S (.slice no ns.length nc) W3 ma n1 c HM3.out HAR3.out (fun s hs => by have := HNS.out s hs; omega) (by omega))
      obtain ⟨d0, d1, d2, d3⟩ := EB.cell _ _ _ _ _ _ HE3.out
      have b0 : W3.cell? ⟨gs, 0, none⟩ = some (.map (some ma)) := by rw [Lib.cell_of_heap HBX3.out]; rfl
      go_wp2_with fail
      refine HEN.out.mono ?_
      rintro e' w4 ⟨rfl, har4, hbu4⟩
      have hu4 : But2 W3.heap.size ma mf W3 w4 := But2.of hbu4
      have HAR4 := Lib.hid har4
      have HFR4 := Lib.hid (HFR3.out.heap (hbu4.block mf HFR3.out.lt (fun e => hmm e.symm)))
      have HBX4 := Lib.hid (row_but2 hu4 HBX3.out hga hgf)
      have HE4 : Hid (EB w4 ge 5 t (.slice no ns.length nc) (.slice ao a.length ac)) := row_but2 hu4 HE3.out hea hef
      have HM4 := Lib.hid (HM3.out.keeps (keeps_maps HAR3.out.map HFR3.out.map hu4))
      have HA4 := Lib.hid (HA3.out.keeps (keeps_maps HAR3.out.map HFR3.out.map hu4))
      have HU4 := Lib.hid (HU3.out.trans ⟨hu4.os, hu4.tape, hu4.output, hu4.size, fun i hi h1 h2 => hu4.block i (Nat.lt_of_lt_of_le hi HU3.out.size) h1 h2⟩)
      clear har4 hbu4 hu4 HEN d0 d1 d2 d3 b0
      obtain ⟨c', hc'⟩ : ∃ c' : ByteArray → Nat, c' = fun s => c s + cnt s ns := ⟨_, rfl⟩
      have HCC := Lib.hid hc'
      rw [← hc'] at HAR4
      clear hc'
      obtain ⟨d0, d1, d2, d3⟩ := EB.cell _ _ _ _ _ _ HE4.out
      go_wp2_with fail
      go_loopw [30] (fun iv wr => FnInv a ma mf (n1 + ns.length) c' F1 w4 iv wr) (fun iv _ => a.length - (intOf iv).toNat)
      case atStart => exact ⟨0, Nat.zero_le _, rfl, by simpa [Et.sizes] using HAR4.out, HFR4.out.mono (by omega) (fun s => by simp [Et.frs]), But2.refl _ _ _ _⟩
      case round =>
        clear d0 d1 d2 d3
        obtain ⟨j, hj, rfl, harj, hfrj, hbuj⟩ := hrel
        have HARJ := Lib.hid harj
        have HFRJ := Lib.hid hfrj
        have HBJ := Lib.hid hbuj
        have HBXJ := Lib.hid (row_but2 hbuj HBX4.out hga hgf)
        have HEJ : Hid (EB wr ge 5 t (.slice no ns.length nc) (.slice ao a.length ac)) := row_but2 hbuj HE4.out hea hef
        have HAJ := Lib.hid (HA4.out.keeps (keeps_maps HAR4.out.map HFR4.out.map hbuj))
        have HMJ := Lib.hid (HM4.out.keeps (keeps_maps HAR4.out.map HFR4.out.map hbuj))
        have hle := esizes_take_le a j
        clear harj hfrj hbuj
        by_cases hlt : j < a.length
        · have q1 : decide ((j : Int) < (a.length : Int)) = true := decide_eq_true (by omega)
          obtain ⟨g, o, k5, t5, nv5, av5, rfl, hS5, -, hat5, e0, e1, e2, e3, o5, o6⟩ := HAJ.out.get j hlt
          have z0 : (#[.int .i64 k5, .string t5, nv5, av5] : Array Value).all (·.oneCell') = true := by simp [Value.oneCell'] at o5 o6 ⊢; exact ⟨o5, o6⟩
          have hst := esizes_take a j hlt
          have hle2 := esizes_take_le a (j + 1)
          have HST := Lib.hid hst
          have A5 := Lib.hid ((Below.refl wr.heap.size wr).alloc (Nat.le_refl _) (.cells #[.int .i64 k5, .string t5, nv5, av5] 28))
          have HAR5 : Hid (ArAt (wr.alloc (.cells #[.int .i64 k5, .string t5, nv5, av5] 28)) ma (n1 + ns.length + 300 * Et.sizes (a.take j)) c') := HARJ.out.heap (A5.out.block ma HARJ.out.lt)
          have HFR5 : Hid (FrAt (wr.alloc (.cells #[.int .i64 k5, .string t5, nv5, av5] 28)) mf (n1 + ns.length + 300 * Et.sizes (a.take j)) (fun s => F1 s ∨ (Et.frs s (a.take j) ∧ c' s = 0))) := HFRJ.out.heap (A5.out.block mf HFRJ.out.lt)
          have HP5 : Hid (EB (wr.alloc (.cells #[.int .i64 k5, .string t5, nv5, av5] 28)) wr.heap.size k5 t5 nv5 av5) := alloc_at _ _
          have HBX5 := Lib.hid (row_below A5.out HBXJ.out)
          have HC := Lib.hid (IH.out _ (List.getElem_mem hlt) S _ (wr.alloc (.cells #[.int .i64 k5, .string t5, nv5, av5] 28)) ma mf (n1 + ns.length + 300 * Et.sizes (a.take j)) c' _ HAR5.out HFR5.out hmm (Et.At.keeps (Keeps.of_below A5.out) _ _ hat5) (by omega))
          have HNX : Hid (∀ w6, RetF a[j] ma mf (n1 + ns.length + 300 * Et.sizes (a.take j)) c' (fun s => F1 s ∨ (Et.frs s (a.take j) ∧ c' s = 0)) (wr.alloc (.cells #[.int .i64 k5, .string t5, nv5, av5] 28)) (.returned (.tuple #[])) w6 → FnInv a ma mf (n1 + ns.length) c' F1 w4 (.int .i64 ((j : Int) + 1)) w6) := by
            show ∀ w6, _ → _
            rintro w6 ⟨-, h1, h2, h3⟩
            have hw := A5.out.size
            refine ⟨j + 1, by omega, by go_num, h1.mono (by rw [HST.out]; omega) (fun _ => rfl), h2.mono (by rw [HST.out]; omega) (fun s => ?_), HBJ.out.trans ⟨h3.os.trans A5.out.os, h3.tape.trans A5.out.tape, h3.output.trans A5.out.output, Nat.le_trans hw h3.size, fun i hi h5 h6 => ?_⟩⟩
            · rw [take_snoc_et a j hlt, frs_snoc, or_and_right, or_assoc]
            · have hs4 := HBJ.out.size
              rw [h3.block i (by omega) h5 h6, A5.out.block i (by omega)]
          have hgp : wr.heap.size < (wr.alloc (.cells #[.int .i64 k5, .string t5, nv5, av5] 28)).heap.size := by simp
          clear hst hat5 hS5 hle2
          go_upto_region 7 with (refine wpList_store_row rfl 28 _ _ rfl wr.heap.size #[.int .i64 k5, .string t5, nv5, av5] rfl rfl 28 Z4 (alloc_at _ _) info28 rfl z0 ?_)
          try simp only [Act.put]
          have E0 : (wr.alloc (.cells #[.int .i64 0, .string ⟨#[]⟩, .slice none 0 0, .slice none 0 0] 28)).setRow wr.heap.size #[.int .i64 k5, .string t5, nv5, av5] = wr.alloc (.cells #[.int .i64 k5, .string t5, nv5, av5] 28) := setRow_new _ _ _ _
          try rw [E0]
          clear E0 e0 e1 e2 e3
          generalize wr.alloc (.cells #[.int .i64 k5, .string t5, nv5, av5] 28) = W5 at A5 HAR5 HFR5 HP5 HBX5 HC HNX hgp ⊢
          have b0 : W5.cell? ⟨gs, 0, none⟩ = some (.map (some ma)) := by rw [Lib.cell_of_heap HBX5.out]; rfl
          have b1 : W5.cell? ⟨gs, 1, none⟩ = some (.map (some mf)) := by rw [Lib.cell_of_heap HBX5.out]; rfl
          have A6 := Lib.hid A5.out
          clear A5
          generalize wr.heap.size = gp at HP5 hgp A6 ⊢
          go_wp2_with (refine wpList_load_row rfl 28 _ rfl gp rfl 28 #[.int .i64 k5, .string t5, nv5, av5] (0, 0) _ HP5.out Try.underlying28 rfl info28 ?_)
          refine HC.out.mono ?_
          rintro e' w6 hret
          have HN6 := Lib.hid (HNX.out w6 (by have h := hret; rw [hret.1] at h; exact h))
          obtain ⟨rfl, -⟩ := hret
          clear HC HNX
          go_wp2_with fail
          go_roundw
          case rel => exact HN6.out
          case measure => simp [intOf]; omega
        · have q1 : decide ((j : Int) < (a.length : Int)) = false := decide_eq_false (by omega)
          obtain rfl : j = a.length := by omega
          have hta : a.take a.length = a := List.take_length
          rw [hta] at hle
          have HARE : Hid (ArAt wr ma (n1 + ns.length + 300 * Et.sizes a) (fun s => c s + cnt s ns)) := by
            show ArAt wr ma (n1 + ns.length + 300 * Et.sizes a) (fun s => c s + cnt s ns)
            have h := HARJ.out; rw [hta, HCC.out] at h; exact h
          have HFRE : Hid (FrAt wr mf (n1 + ns.length + 300 * Et.sizes a) (fun s => F1 s ∨ (Et.frs s a ∧ c' s = 0))) := by
            show FrAt wr mf (n1 + ns.length + 300 * Et.sizes a) (fun s => F1 s ∨ (Et.frs s a ∧ c' s = 0))
            have h := HFRJ.out; rw [hta] at h; exact h
          have HLV := Lib.hid (leave_any ns S (.slice no ns.length nc) wr ma (n1 + ns.length + 300 * Et.sizes a) c HMJ.out HARE.out (fun s hs => by have := HNS.out s hs; omega) (by omega))
          have b0 : wr.cell? ⟨gs, 0, none⟩ = some (.map (some ma)) := by rw [Lib.cell_of_heap HBXJ.out]; rfl
          obtain ⟨d0, d1, d2, d3⟩ := EB.cell _ _ _ _ _ _ HEJ.out
          have HEND : Hid (∀ w9, RetAr ma (n1 + ns.length + 300 * Et.sizes a + ns.length) c wr (.returned (.tuple #[])) w9 → RetF (.mk 5 t ns a) ma mf n c F w (.returned (.tuple #[])) w9) := by
            show ∀ w9, _ → _
            rintro w9 ⟨-, h1, h2⟩
            have hs4 := HBJ.out.size
            have hs3 := HU4.out.size
            refine ⟨rfl, h1.mono (by simp only [Et.size]; omega) (fun _ => rfl), (HFRE.out.heap (h2.block mf HFRE.out.lt (fun e => hmm e.symm))).mono (by simp only [Et.size]; omega) (fun s => ?_), (HU4.out.trans ⟨HBJ.out.os, HBJ.out.tape, HBJ.out.output, HBJ.out.size, fun i hi h5 h6 => HBJ.out.block i (by omega) h5 h6⟩).trans ⟨h2.os, h2.tape, h2.output, h2.size, fun i hi h5 h6 => h2.block i (by omega) h5⟩⟩
            rw [HF1.out s, HCC.out]
            unfold Et.fr
            have h9 : c s + cnt s ns = 0 ↔ c s = 0 ∧ s ∉ ns := by rw [← cnt_zero]; omega
            rw [h9]
            constructor
            · rintro ((h | ⟨h5, h6⟩) | ⟨h5, h6, h7⟩)
              · exact .inl h
              · exact .inr ⟨.inl ⟨by first | exact h5.1 | rfl, h5.2⟩, h6⟩
              · exact .inr ⟨.inr ⟨h5, h7⟩, h6⟩
            · rintro (h | ⟨h5 | ⟨h5, h7⟩, h6⟩)
              · exact .inl (.inl h)
              · exact .inl (.inr ⟨⟨by first | exact h5.1 | trivial, h5.2⟩, h6⟩)
              · exact .inr ⟨h5, h6, h7⟩
          clear hta hle HAJ HMJ HARJ HFRJ
          go_wp2_with fail
          refine HLV.out.mono ?_
          rintro e' w9 hret
          have HFIN := Lib.hid (HEND.out w9 (by have h := hret; rw [hret.1] at h; exact h))
          obtain ⟨rfl, -⟩ := hret
          go_wp2_with fail
          go_end0
          exact HFIN.out
    · have q0 : decide (0 < c t) = true := decide_eq_true (by omega)
      rw [q0] at HH
      obtain ⟨F1, hF1⟩ : ∃ F1 : ByteArray → Prop, F1 = F := ⟨_, rfl⟩
      obtain ⟨n1, hn1⟩ : ∃ n1, n1 = n := ⟨_, rfl⟩
      have HF1 : Hid (∀ s, F1 s ↔ (F s ∨ (((5 : Int) = 5 ∧ t = s) ∧ c s = 0))) := by
        show ∀ s, _
        intro s
        rw [hF1]
        constructor
        · exact .inl
        · rintro (h | ⟨⟨_, rfl⟩, h⟩)
          · exact h
          · exact absurd h hct
      have hn1' : n1 + 300 * Et.sizes a + 250 ≤ 100000000 := by omega
      have hnn : n1 ≤ n + 1 := by omega
      rw [← hF1] at HFR
      rw [← hn1] at HFR HAR
      clear hF1 hct hn1
      go_wp2_with fail
      refine HH.out.mono ?_
      rintro e' w2 ⟨rfl, rfl⟩
      go_upto_region 3 with fail
      obtain ⟨W3, hW3⟩ : ∃ W3, W3 = W1 := ⟨_, rfl⟩
      rw [← hW3] at HFR HAR HBX HE HM HA HU ⊢
      have HFR3 := HFR
      have HAR3 := HAR
      have HU3 := HU
      have HBX3 := HBX
      have HE3 := HE
      have HM3 := HM
      have HA3 := HA
      clear hW3 HFR HAR HBX HE HM HA HU c0 c1 c2 c3 b0 b1 HH
      have HEN := Lib.hid (enter_any ns S (.slice no ns.length nc) W3 ma n1 c HM3.out HAR3.out (fun s hs => by have := HNS.out s hs; omega) (by omega))
      obtain ⟨d0, d1, d2, d3⟩ := EB.cell _ _ _ _ _ _ HE3.out
      have b0 : W3.cell? ⟨gs, 0, none⟩ = some (.map (some ma)) := by rw [Lib.cell_of_heap HBX3.out]; rfl
      go_wp2_with fail
      refine HEN.out.mono ?_
      rintro e' w4 ⟨rfl, har4, hbu4⟩
      have hu4 : But2 W3.heap.size ma mf W3 w4 := But2.of hbu4
      have HAR4 := Lib.hid har4
      have HFR4 := Lib.hid (HFR3.out.heap (hbu4.block mf HFR3.out.lt (fun e => hmm e.symm)))
      have HBX4 := Lib.hid (row_but2 hu4 HBX3.out hga hgf)
      have HE4 : Hid (EB w4 ge 5 t (.slice no ns.length nc) (.slice ao a.length ac)) := row_but2 hu4 HE3.out hea hef
      have HM4 := Lib.hid (HM3.out.keeps (keeps_maps HAR3.out.map HFR3.out.map hu4))
      have HA4 := Lib.hid (HA3.out.keeps (keeps_maps HAR3.out.map HFR3.out.map hu4))
      have HU4 := Lib.hid (HU3.out.trans ⟨hu4.os, hu4.tape, hu4.output, hu4.size, fun i hi h1 h2 => hu4.block i (Nat.lt_of_lt_of_le hi HU3.out.size) h1 h2⟩)
      clear har4 hbu4 hu4 HEN d0 d1 d2 d3 b0
      obtain ⟨c', hc'⟩ : ∃ c' : ByteArray → Nat, c' = fun s => c s + cnt s ns := ⟨_, rfl⟩
      have HCC := Lib.hid hc'
      rw [← hc'] at HAR4
      clear hc'
      obtain ⟨d0, d1, d2, d3⟩ := EB.cell _ _ _ _ _ _ HE4.out
      go_wp2_with fail
      go_loopw [30] (fun iv wr => FnInv a ma mf (n1 + ns.length) c' F1 w4 iv wr) (fun iv _ => a.length - (intOf iv).toNat)
      case atStart => exact ⟨0, Nat.zero_le _, rfl, by simpa [Et.sizes] using HAR4.out, HFR4.out.mono (by omega) (fun s => by simp [Et.frs]), But2.refl _ _ _ _⟩
      case round =>
        clear d0 d1 d2 d3
        obtain ⟨j, hj, rfl, harj, hfrj, hbuj⟩ := hrel
        have HARJ := Lib.hid harj
        have HFRJ := Lib.hid hfrj
        have HBJ := Lib.hid hbuj
        have HBXJ := Lib.hid (row_but2 hbuj HBX4.out hga hgf)
        have HEJ : Hid (EB wr ge 5 t (.slice no ns.length nc) (.slice ao a.length ac)) := row_but2 hbuj HE4.out hea hef
        have HAJ := Lib.hid (HA4.out.keeps (keeps_maps HAR4.out.map HFR4.out.map hbuj))
        have HMJ := Lib.hid (HM4.out.keeps (keeps_maps HAR4.out.map HFR4.out.map hbuj))
        have hle := esizes_take_le a j
        clear harj hfrj hbuj
        by_cases hlt : j < a.length
        · have q1 : decide ((j : Int) < (a.length : Int)) = true := decide_eq_true (by omega)
          obtain ⟨g, o, k5, t5, nv5, av5, rfl, hS5, -, hat5, e0, e1, e2, e3, o5, o6⟩ := HAJ.out.get j hlt
          have z0 : (#[.int .i64 k5, .string t5, nv5, av5] : Array Value).all (·.oneCell') = true := by simp [Value.oneCell'] at o5 o6 ⊢; exact ⟨o5, o6⟩
          have hst := esizes_take a j hlt
          have hle2 := esizes_take_le a (j + 1)
          have HST := Lib.hid hst
          have A5 := Lib.hid ((Below.refl wr.heap.size wr).alloc (Nat.le_refl _) (.cells #[.int .i64 k5, .string t5, nv5, av5] 28))
          have HAR5 : Hid (ArAt (wr.alloc (.cells #[.int .i64 k5, .string t5, nv5, av5] 28)) ma (n1 + ns.length + 300 * Et.sizes (a.take j)) c') := HARJ.out.heap (A5.out.block ma HARJ.out.lt)
          have HFR5 : Hid (FrAt (wr.alloc (.cells #[.int .i64 k5, .string t5, nv5, av5] 28)) mf (n1 + ns.length + 300 * Et.sizes (a.take j)) (fun s => F1 s ∨ (Et.frs s (a.take j) ∧ c' s = 0))) := HFRJ.out.heap (A5.out.block mf HFRJ.out.lt)
          have HP5 : Hid (EB (wr.alloc (.cells #[.int .i64 k5, .string t5, nv5, av5] 28)) wr.heap.size k5 t5 nv5 av5) := alloc_at _ _
          have HBX5 := Lib.hid (row_below A5.out HBXJ.out)
          have HC := Lib.hid (IH.out _ (List.getElem_mem hlt) S _ (wr.alloc (.cells #[.int .i64 k5, .string t5, nv5, av5] 28)) ma mf (n1 + ns.length + 300 * Et.sizes (a.take j)) c' _ HAR5.out HFR5.out hmm (Et.At.keeps (Keeps.of_below A5.out) _ _ hat5) (by omega))
          have HNX : Hid (∀ w6, RetF a[j] ma mf (n1 + ns.length + 300 * Et.sizes (a.take j)) c' (fun s => F1 s ∨ (Et.frs s (a.take j) ∧ c' s = 0)) (wr.alloc (.cells #[.int .i64 k5, .string t5, nv5, av5] 28)) (.returned (.tuple #[])) w6 → FnInv a ma mf (n1 + ns.length) c' F1 w4 (.int .i64 ((j : Int) + 1)) w6) := by
            show ∀ w6, _ → _
            rintro w6 ⟨-, h1, h2, h3⟩
            have hw := A5.out.size
            refine ⟨j + 1, by omega, by go_num, h1.mono (by rw [HST.out]; omega) (fun _ => rfl), h2.mono (by rw [HST.out]; omega) (fun s => ?_), HBJ.out.trans ⟨h3.os.trans A5.out.os, h3.tape.trans A5.out.tape, h3.output.trans A5.out.output, Nat.le_trans hw h3.size, fun i hi h5 h6 => ?_⟩⟩
            · rw [take_snoc_et a j hlt, frs_snoc, or_and_right, or_assoc]
            · have hs4 := HBJ.out.size
              rw [h3.block i (by omega) h5 h6, A5.out.block i (by omega)]
          have hgp : wr.heap.size < (wr.alloc (.cells #[.int .i64 k5, .string t5, nv5, av5] 28)).heap.size := by simp
          clear hst hat5 hS5 hle2
          go_upto_region 7 with (refine wpList_store_row rfl 28 _ _ rfl wr.heap.size #[.int .i64 k5, .string t5, nv5, av5] rfl rfl 28 Z4 (alloc_at _ _) info28 rfl z0 ?_)
          try simp only [Act.put]
          have E0 : (wr.alloc (.cells #[.int .i64 0, .string ⟨#[]⟩, .slice none 0 0, .slice none 0 0] 28)).setRow wr.heap.size #[.int .i64 k5, .string t5, nv5, av5] = wr.alloc (.cells #[.int .i64 k5, .string t5, nv5, av5] 28) := setRow_new _ _ _ _
          try rw [E0]
          clear E0 e0 e1 e2 e3
          generalize wr.alloc (.cells #[.int .i64 k5, .string t5, nv5, av5] 28) = W5 at A5 HAR5 HFR5 HP5 HBX5 HC HNX hgp ⊢
          have b0 : W5.cell? ⟨gs, 0, none⟩ = some (.map (some ma)) := by rw [Lib.cell_of_heap HBX5.out]; rfl
          have b1 : W5.cell? ⟨gs, 1, none⟩ = some (.map (some mf)) := by rw [Lib.cell_of_heap HBX5.out]; rfl
          have A6 := Lib.hid A5.out
          clear A5
          generalize wr.heap.size = gp at HP5 hgp A6 ⊢
          go_wp2_with (refine wpList_load_row rfl 28 _ rfl gp rfl 28 #[.int .i64 k5, .string t5, nv5, av5] (0, 0) _ HP5.out Try.underlying28 rfl info28 ?_)
          refine HC.out.mono ?_
          rintro e' w6 hret
          have HN6 := Lib.hid (HNX.out w6 (by have h := hret; rw [hret.1] at h; exact h))
          obtain ⟨rfl, -⟩ := hret
          clear HC HNX
          go_wp2_with fail
          go_roundw
          case rel => exact HN6.out
          case measure => simp [intOf]; omega
        · have q1 : decide ((j : Int) < (a.length : Int)) = false := decide_eq_false (by omega)
          obtain rfl : j = a.length := by omega
          have hta : a.take a.length = a := List.take_length
          rw [hta] at hle
          have HARE : Hid (ArAt wr ma (n1 + ns.length + 300 * Et.sizes a) (fun s => c s + cnt s ns)) := by
            show ArAt wr ma (n1 + ns.length + 300 * Et.sizes a) (fun s => c s + cnt s ns)
            have h := HARJ.out; rw [hta, HCC.out] at h; exact h
          have HFRE : Hid (FrAt wr mf (n1 + ns.length + 300 * Et.sizes a) (fun s => F1 s ∨ (Et.frs s a ∧ c' s = 0))) := by
            show FrAt wr mf (n1 + ns.length + 300 * Et.sizes a) (fun s => F1 s ∨ (Et.frs s a ∧ c' s = 0))
            have h := HFRJ.out; rw [hta] at h; exact h
          have HLV := Lib.hid (leave_any ns S (.slice no ns.length nc) wr ma (n1 + ns.length + 300 * Et.sizes a) c HMJ.out HARE.out (fun s hs => by have := HNS.out s hs; omega) (by omega))
          have b0 : wr.cell? ⟨gs, 0, none⟩ = some (.map (some ma)) := by rw [Lib.cell_of_heap HBXJ.out]; rfl
          obtain ⟨d0, d1, d2, d3⟩ := EB.cell _ _ _ _ _ _ HEJ.out
          have HEND : Hid (∀ w9, RetAr ma (n1 + ns.length + 300 * Et.sizes a + ns.length) c wr (.returned (.tuple #[])) w9 → RetF (.mk 5 t ns a) ma mf n c F w (.returned (.tuple #[])) w9) := by
            show ∀ w9, _ → _
            rintro w9 ⟨-, h1, h2⟩
            have hs4 := HBJ.out.size
            have hs3 := HU4.out.size
            refine ⟨rfl, h1.mono (by simp only [Et.size]; omega) (fun _ => rfl), (HFRE.out.heap (h2.block mf HFRE.out.lt (fun e => hmm e.symm))).mono (by simp only [Et.size]; omega) (fun s => ?_), (HU4.out.trans ⟨HBJ.out.os, HBJ.out.tape, HBJ.out.output, HBJ.out.size, fun i hi h5 h6 => HBJ.out.block i (by omega) h5 h6⟩).trans ⟨h2.os, h2.tape, h2.output, h2.size, fun i hi h5 h6 => h2.block i (by omega) h5⟩⟩
            rw [HF1.out s, HCC.out]
            unfold Et.fr
            have h9 : c s + cnt s ns = 0 ↔ c s = 0 ∧ s ∉ ns := by rw [← cnt_zero]; omega
            rw [h9]
            constructor
            · rintro ((h | ⟨h5, h6⟩) | ⟨h5, h6, h7⟩)
              · exact .inl h
              · exact .inr ⟨.inl ⟨by first | exact h5.1 | rfl, h5.2⟩, h6⟩
              · exact .inr ⟨.inr ⟨h5, h7⟩, h6⟩
            · rintro (h | ⟨h5 | ⟨h5, h7⟩, h6⟩)
              · exact .inl (.inl h)
              · exact .inl (.inr ⟨⟨by first | exact h5.1 | trivial, h5.2⟩, h6⟩)
              · exact .inr ⟨h5, h6, h7⟩
          clear hta hle HAJ HMJ HARJ HFRJ
          go_wp2_with fail
          refine HLV.out.mono ?_
          rintro e' w9 hret
          have HFIN := Lib.hid (HEND.out w9 (by have h := hret; rw [hret.1] at h; exact h))
          obtain ⟨rfl, -⟩ := hret
          go_wp2_with fail
          go_end0
          exact HFIN.out
  · have q0 : ((k : Int) == 5) = false := by simpa using hk5
    obtain ⟨F1, hF1⟩ : ∃ F1 : ByteArray → Prop, F1 = F := ⟨_, rfl⟩
    obtain ⟨n1, hn1⟩ : ∃ n1, n1 = n := ⟨_, rfl⟩
    have HF1 : Hid (∀ s, F1 s ↔ (F s ∨ (((k : Int) = 5 ∧ t = s) ∧ c s = 0))) := by
      show ∀ s, _
      intro s
      rw [hF1]
      simp [hk5]
    have hn1' : n1 + 300 * Et.sizes a + 250 ≤ 100000000 := by omega
    have hnn : n1 ≤ n + 1 := by omega
    rw [← hF1] at HFR
    rw [← hn1] at HFR HAR
    clear hF1 hn1
    go_upto_region 3 with fail
    obtain ⟨W3, hW3⟩ : ∃ W3, W3 = W1 := ⟨_, rfl⟩
    rw [← hW3] at HFR HAR HBX HE HM HA HU ⊢
    have HFR3 := HFR
    have HAR3 := HAR
    have HU3 := HU
    have HBX3 := HBX
    have HE3 := HE
    have HM3 := HM
    have HA3 := HA
    clear hW3 HFR HAR HBX HE HM HA HU c0 c1 c2 c3 b0 b1
    have HEN := Lib.hid (enter_any ns S (.slice no ns.length nc) W3 ma n1 c HM3.out HAR3.out (fun s hs => by have := HNS.out s hs; omega) (by omega))
    obtain ⟨d0, d1, d2, d3⟩ := EB.cell _ _ _ _ _ _ HE3.out
    have b0 : W3.cell? ⟨gs, 0, none⟩ = some (.map (some ma)) := by rw [Lib.cell_of_heap HBX3.out]; rfl
    go_wp2_with fail
    refine HEN.out.mono ?_
    rintro e' w4 ⟨rfl, har4, hbu4⟩
    have hu4 : But2 W3.heap.size ma mf W3 w4 := But2.of hbu4
    have HAR4 := Lib.hid har4
    have HFR4 := Lib.hid (HFR3.out.heap (hbu4.block mf HFR3.out.lt (fun e => hmm e.symm)))
    have HBX4 := Lib.hid (row_but2 hu4 HBX3.out hga hgf)
    have HE4 : Hid (EB w4 ge k t (.slice no ns.length nc) (.slice ao a.length ac)) := row_but2 hu4 HE3.out hea hef
    have HM4 := Lib.hid (HM3.out.keeps (keeps_maps HAR3.out.map HFR3.out.map hu4))
    have HA4 := Lib.hid (HA3.out.keeps (keeps_maps HAR3.out.map HFR3.out.map hu4))
    have HU4 := Lib.hid (HU3.out.trans ⟨hu4.os, hu4.tape, hu4.output, hu4.size, fun i hi h1 h2 => hu4.block i (Nat.lt_of_lt_of_le hi HU3.out.size) h1 h2⟩)
    clear har4 hbu4 hu4 HEN d0 d1 d2 d3 b0
    obtain ⟨c', hc'⟩ : ∃ c' : ByteArray → Nat, c' = fun s => c s + cnt s ns := ⟨_, rfl⟩
    have HCC := Lib.hid hc'
    rw [← hc'] at HAR4
    clear hc'
    obtain ⟨d0, d1, d2, d3⟩ := EB.cell _ _ _ _ _ _ HE4.out
    go_wp2_with fail
    go_loopw [30] (fun iv wr => FnInv a ma mf (n1 + ns.length) c' F1 w4 iv wr) (fun iv _ => a.length - (intOf iv).toNat)
    case atStart => exact ⟨0, Nat.zero_le _, rfl, by simpa [Et.sizes] using HAR4.out, HFR4.out.mono (by omega) (fun s => by simp [Et.frs]), But2.refl _ _ _ _⟩
    case round =>
      clear d0 d1 d2 d3
      obtain ⟨j, hj, rfl, harj, hfrj, hbuj⟩ := hrel
      have HARJ := Lib.hid harj
      have HFRJ := Lib.hid hfrj
      have HBJ := Lib.hid hbuj
      have HBXJ := Lib.hid (row_but2 hbuj HBX4.out hga hgf)
      have HEJ : Hid (EB wr ge k t (.slice no ns.length nc) (.slice ao a.length ac)) := row_but2 hbuj HE4.out hea hef
      have HAJ := Lib.hid (HA4.out.keeps (keeps_maps HAR4.out.map HFR4.out.map hbuj))
      have HMJ := Lib.hid (HM4.out.keeps (keeps_maps HAR4.out.map HFR4.out.map hbuj))
      have hle := esizes_take_le a j
      clear harj hfrj hbuj
      by_cases hlt : j < a.length
      · have q1 : decide ((j : Int) < (a.length : Int)) = true := decide_eq_true (by omega)
        obtain ⟨g, o, k5, t5, nv5, av5, rfl, hS5, -, hat5, e0, e1, e2, e3, o5, o6⟩ := HAJ.out.get j hlt
        have z0 : (#[.int .i64 k5, .string t5, nv5, av5] : Array Value).all (·.oneCell') = true := by simp [Value.oneCell'] at o5 o6 ⊢; exact ⟨o5, o6⟩
        have hst := esizes_take a j hlt
        have hle2 := esizes_take_le a (j + 1)
        have HST := Lib.hid hst
        have A5 := Lib.hid ((Below.refl wr.heap.size wr).alloc (Nat.le_refl _) (.cells #[.int .i64 k5, .string t5, nv5, av5] 28))
        have HAR5 : Hid (ArAt (wr.alloc (.cells #[.int .i64 k5, .string t5, nv5, av5] 28)) ma (n1 + ns.length + 300 * Et.sizes (a.take j)) c') := HARJ.out.heap (A5.out.block ma HARJ.out.lt)
        have HFR5 : Hid (FrAt (wr.alloc (.cells #[.int .i64 k5, .string t5, nv5, av5] 28)) mf (n1 + ns.length + 300 * Et.sizes (a.take j)) (fun s => F1 s ∨ (Et.frs s (a.take j) ∧ c' s = 0))) := HFRJ.out.heap (A5.out.block mf HFRJ.out.lt)
        have HP5 : Hid (EB (wr.alloc (.cells #[.int .i64 k5, .string t5, nv5, av5] 28)) wr.heap.size k5 t5 nv5 av5) := alloc_at _ _
        have HBX5 := Lib.hid (row_below A5.out HBXJ.out)
        have HC := Lib.hid (IH.out _ (List.getElem_mem hlt) S _ (wr.alloc (.cells #[.int .i64 k5, .string t5, nv5, av5] 28)) ma mf (n1 + ns.length + 300 * Et.sizes (a.take j)) c' _ HAR5.out HFR5.out hmm (Et.At.keeps (Keeps.of_below A5.out) _ _ hat5) (by omega))
        have HNX : Hid (∀ w6, RetF a[j] ma mf (n1 + ns.length + 300 * Et.sizes (a.take j)) c' (fun s => F1 s ∨ (Et.frs s (a.take j) ∧ c' s = 0)) (wr.alloc (.cells #[.int .i64 k5, .string t5, nv5, av5] 28)) (.returned (.tuple #[])) w6 → FnInv a ma mf (n1 + ns.length) c' F1 w4 (.int .i64 ((j : Int) + 1)) w6) := by
          show ∀ w6, _ → _
          rintro w6 ⟨-, h1, h2, h3⟩
          have hw := A5.out.size
          refine ⟨j + 1, by omega, by go_num, h1.mono (by rw [HST.out]; omega) (fun _ => rfl), h2.mono (by rw [HST.out]; omega) (fun s => ?_), HBJ.out.trans ⟨h3.os.trans A5.out.os, h3.tape.trans A5.out.tape, h3.output.trans A5.out.output, Nat.le_trans hw h3.size, fun i hi h5 h6 => ?_⟩⟩
          · rw [take_snoc_et a j hlt, frs_snoc, or_and_right, or_assoc]
          · have hs4 := HBJ.out.size
            rw [h3.block i (by omega) h5 h6, A5.out.block i (by omega)]
        have hgp : wr.heap.size < (wr.alloc (.cells #[.int .i64 k5, .string t5, nv5, av5] 28)).heap.size := by simp
        clear hst hat5 hS5 hle2
        go_upto_region 7 with (refine wpList_store_row rfl 28 _ _ rfl wr.heap.size #[.int .i64 k5, .string t5, nv5, av5] rfl rfl 28 Z4 (alloc_at _ _) info28 rfl z0 ?_)
        try simp only [Act.put]
        have E0 : (wr.alloc (.cells #[.int .i64 0, .string ⟨#[]⟩, .slice none 0 0, .slice none 0 0] 28)).setRow wr.heap.size #[.int .i64 k5, .string t5, nv5, av5] = wr.alloc (.cells #[.int .i64 k5, .string t5, nv5, av5] 28) := setRow_new _ _ _ _
        try rw [E0]
        clear E0 e0 e1 e2 e3
        generalize wr.alloc (.cells #[.int .i64 k5, .string t5, nv5, av5] 28) = W5 at A5 HAR5 HFR5 HP5 HBX5 HC HNX hgp ⊢
        have b0 : W5.cell? ⟨gs, 0, none⟩ = some (.map (some ma)) := by rw [Lib.cell_of_heap HBX5.out]; rfl
        have b1 : W5.cell? ⟨gs, 1, none⟩ = some (.map (some mf)) := by rw [Lib.cell_of_heap HBX5.out]; rfl
        have A6 := Lib.hid A5.out
        clear A5
        generalize wr.heap.size = gp at HP5 hgp A6 ⊢
        go_wp2_with (refine wpList_load_row rfl 28 _ rfl gp rfl 28 #[.int .i64 k5, .string t5, nv5, av5] (0, 0) _ HP5.out Try.underlying28 rfl info28 ?_)
        refine HC.out.mono ?_
        rintro e' w6 hret
        have HN6 := Lib.hid (HNX.out w6 (by have h := hret; rw [hret.1] at h; exact h))
        obtain ⟨rfl, -⟩ := hret
        clear HC HNX
        go_wp2_with fail
        go_roundw
        case rel => exact HN6.out
        case measure => simp [intOf]; omega
      · have q1 : decide ((j : Int) < (a.length : Int)) = false := decide_eq_false (by omega)
        obtain rfl : j = a.length := by omega
        have hta : a.take a.length = a := List.take_length
        rw [hta] at hle
        have HARE : Hid (ArAt wr ma (n1 + ns.length + 300 * Et.sizes a) (fun s => c s + cnt s ns)) := by
          show ArAt wr ma (n1 + ns.length + 300 * Et.sizes a) (fun s => c s + cnt s ns)
          have h := HARJ.out; rw [hta, HCC.out] at h; exact h
        have HFRE : Hid (FrAt wr mf (n1 + ns.length + 300 * Et.sizes a) (fun s => F1 s ∨ (Et.frs s a ∧ c' s = 0))) := by
          show FrAt wr mf (n1 + ns.length + 300 * Et.sizes a) (fun s => F1 s ∨ (Et.frs s a ∧ c' s = 0))
          have h := HFRJ.out; rw [hta] at h; exact h
        have HLV := Lib.hid (leave_any ns S (.slice no ns.length nc) wr ma (n1 + ns.length + 300 * Et.sizes a) c HMJ.out HARE.out (fun s hs => by have := HNS.out s hs; omega) (by omega))
        have b0 : wr.cell? ⟨gs, 0, none⟩ = some (.map (some ma)) := by rw [Lib.cell_of_heap HBXJ.out]; rfl
        obtain ⟨d0, d1, d2, d3⟩ := EB.cell _ _ _ _ _ _ HEJ.out
        have HEND : Hid (∀ w9, RetAr ma (n1 + ns.length + 300 * Et.sizes a + ns.length) c wr (.returned (.tuple #[])) w9 → RetF (.mk k t ns a) ma mf n c F w (.returned (.tuple #[])) w9) := by
          show ∀ w9, _ → _
          rintro w9 ⟨-, h1, h2⟩
          have hs4 := HBJ.out.size
          have hs3 := HU4.out.size
          refine ⟨rfl, h1.mono (by simp only [Et.size]; omega) (fun _ => rfl), (HFRE.out.heap (h2.block mf HFRE.out.lt (fun e => hmm e.symm))).mono (by simp only [Et.size]; omega) (fun s => ?_), (HU4.out.trans ⟨HBJ.out.os, HBJ.out.tape, HBJ.out.output, HBJ.out.size, fun i hi h5 h6 => HBJ.out.block i (by omega) h5 h6⟩).trans ⟨h2.os, h2.tape, h2.output, h2.size, fun i hi h5 h6 => h2.block i (by omega) h5⟩⟩
          rw [HF1.out s, HCC.out]
          unfold Et.fr
          have h9 : c s + cnt s ns = 0 ↔ c s = 0 ∧ s ∉ ns := by rw [← cnt_zero]; omega
          rw [h9]
          constructor
          · rintro ((h | ⟨h5, h6⟩) | ⟨h5, h6, h7⟩)
            · exact .inl h
            · exact .inr ⟨.inl ⟨by first | exact h5.1 | rfl, h5.2⟩, h6⟩
            · exact .inr ⟨.inr ⟨h5, h7⟩, h6⟩
          · rintro (h | ⟨h5 | ⟨h5, h7⟩, h6⟩)
            · exact .inl (.inl h)
            · exact .inl (.inr ⟨⟨by first | exact h5.1 | trivial, h5.2⟩, h6⟩)
            · exact .inr ⟨h5, h6, h7⟩
        clear hta hle HAJ HMJ HARJ HFRJ
        go_wp2_with fail
        refine HLV.out.mono ?_
        rintro e' w9 hret
        have HFIN := Lib.hid (HEND.out w9 (by have h := hret; rw [hret.1] at h; exact h))
        obtain ⟨rfl, -⟩ := hret
        go_wp2_with fail
        go_end0
        exact HFIN.out
theorem finder_tree (N : Nat) : ∀ (e : Et), e.size ≤ N → N ≤ 100000 → e.fine → FC e := by
  induction N with
  | zero => intro e he; cases e; simp [Et.size] at he
  | succ N IH =>
    intro e he hN hf
    obtain ⟨k, t, ns, a⟩ := e
    have hsz : Et.sizes a ≤ N := by simp only [Et.size] at he; omega
    have hl := length_esizes a
    rw [fine_mk] at hf
    obtain ⟨hf1, hf2, hf3, hf4⟩ := hf
    refine finder_any k t ns a ?_ (by omega) hf2 hf3 hf1
    intro e hm
    obtain ⟨j, hj, rfl⟩ := List.getElem_of_mem hm
    exact IH _ (by have := esize_get a j hj; omega) (by omega) (hf4 _ hm)
end Go.Proofs.Ytpkcoplpfenliaa
/- Free's contract. -/
namespace Go.Proofs.Ytpkcoplpfenliaa
open Go.RowKit
open Go.Maps
set_option linter.unusedVariables false
set_option linter.unusedSimpArgs false
/-- Names in rising order of bytes, none twice. -/
def Srt (l : List ByteArray) : Prop := l.Pairwise fun a b => a.data.toList < b.data.toList
theorem srt_ext : ∀ {a b : List ByteArray}, Srt a → Srt b → (∀ s, s ∈ a ↔ s ∈ b) → a = b := by
  intro a b ha hb h
  have h1 : ∀ {l : List ByteArray}, Srt l → l.Nodup := fun {l} hl => hl.imp fun {x y} hxy e => by subst e; exact absurd hxy (List.lt_irrefl _)
  exact List.Perm.eq_of_pairwise (le := fun (a b : ByteArray) => a.data.toList < b.data.toList) (fun x y _ _ hx hy => absurd (List.lt_trans (show x.data.toList < y.data.toList from hx) (show y.data.toList < x.data.toList from hy)) (List.lt_irrefl _)) ha hb ((List.perm_ext_iff_of_nodup (h1 ha) (h1 hb)).2 h)
def RetFree (e : Et) (w : World) (r : Ending) (w' : World) : Prop :=
  ∃ v L, r = .returned v ∧ NAt (fun g => w.heap.size ≤ g) w' v L ∧ Srt L ∧ (∀ s, s ∈ L ↔ e.fr s) ∧ Below w.heap.size w w'
theorem ba_of (x : List UInt8) : (⟨x.toArray⟩ : ByteArray).data.toList = x := by simp
theorem free_list {w W : World} {mf n B : Nat} {F : ByteArray → Prop} {D : DataW Unit} {v : Value} {ss : List (List UInt8)} (hown : w.ownsMap Try.prog 9 (unitElem (H := Unit)) mf n D) (hD : ∀ s, has D (litS s) = true ↔ F s) (hp : ss.Perm (strKeys D))
    (hrow : W.ownsRow B 9 1 v ss.length ((ss.mergeSort (fun x y => decide (x ≤ y))).map encStr)) : ∃ L, NAt (fun g => B ≤ g) W v L ∧ Srt L ∧ ∀ s, s ∈ L ↔ F s := by
  obtain ⟨es, hDe, hpw, _⟩ := hown.entries law9
  obtain ⟨es', hDe', hko⟩ := hown.keysOf
  obtain rfl : es = es' := by rw [hDe] at hDe'; simpa using hDe'
  have hmem : ∀ x, x ∈ strKeys D ↔ has D (.string x) = true := by
    intro x
    rw [hDe, has_eq, List.any_eq_true]
    show x ∈ es.map (fun p => strOf p.1) ↔ _
    rw [List.mem_map]
    constructor
    · rintro ⟨p, hp', rfl⟩
      obtain ⟨v, hv⟩ := hko p hp'
      obtain ⟨y, _, hy, _⟩ := Maps.keyOf_str Try.underlying9 hv
      exact ⟨p, hp', by rw [hy]; simp [Lit.sameKey, strOf]⟩
    · rintro ⟨p, hp', h⟩
      obtain ⟨v, hv⟩ := hko p hp'
      obtain ⟨y, _, hy, _⟩ := Maps.keyOf_str Try.underlying9 hv
      rw [hy] at h
      exact ⟨p, hp', by rw [hy]; simpa [Lit.sameKey, strOf] using h⟩
  have hnd : (strKeys D).Nodup := by
    rw [hDe]
    show (es.map fun p => strOf p.1).Nodup
    refine List.pairwise_map.2 (hpw.imp_of_mem fun {p q} hp' hq' hne e => hne ?_)
    obtain ⟨v, hv⟩ := hko p hp'
    obtain ⟨y, _, hy, _⟩ := Maps.keyOf_str Try.underlying9 hv
    obtain ⟨v2, hv2⟩ := hko q hq'
    obtain ⟨y2, _, hy2, _⟩ := Maps.keyOf_str Try.underlying9 hv2
    rw [hy, hy2] at e ⊢
    exact congrArg _ e
  obtain ⟨so, hso⟩ : ∃ so, so = ss.mergeSort (fun x y => decide (x ≤ y)) := ⟨_, rfl⟩
  have hsp : so.Perm ss := by rw [hso]; exact List.mergeSort_perm _ _
  have hlen : so.length = ss.length := hsp.length_eq
  have tr : ∀ a b c : List UInt8, decide (a ≤ b) = true → decide (b ≤ c) = true → decide (a ≤ c) = true := fun a b c h1 h2 => by simp only [decide_eq_true_eq] at *; exact List.le_trans h1 h2
  have to : ∀ a b : List UInt8, (decide (a ≤ b) || decide (b ≤ a)) = true := fun a b => by simp only [Bool.or_eq_true, decide_eq_true_eq]; exact List.le_total a b
  have hsorted : so.Pairwise (fun a b => decide (a ≤ b) = true) := by rw [hso]; exact List.pairwise_mergeSort tr to ss
  have hson : so.Nodup := (hsp.trans hp).nodup_iff.2 hnd
  rw [← hso] at hrow
  refine ⟨so.map (fun x => ⟨x.toArray⟩), ?_, ?_, ?_⟩
  · rcases hrow.2 with ⟨rfl, hz⟩ | ⟨g, cap, cur, rfl, hbg, hg, hnc, hcm, hcs, htake⟩
    · exact .inl ⟨rfl, by rw [List.map_eq_nil_iff]; exact List.length_eq_zero_iff.1 (by omega)⟩
    · refine .inr ⟨g, 0, cap, cur, (0, 0), by rw [List.length_map, hlen], hbg, hg, fun j hj => ?_, by rw [List.length_map]; omega⟩
      rw [List.length_map] at hj
      have h5 : (cur.toList.take (ss.length * 1))[j]? = (so.map encStr)[j]? := by rw [htake]
      rw [List.getElem?_take, if_pos (by omega), List.getElem?_map, List.getElem?_eq_getElem hj] at h5
      rw [Nat.zero_add, List.getElem_map]
      simpa [encStr] using h5
  · unfold Srt
    rw [List.pairwise_map]
    refine (List.Pairwise.and hsorted hson).imp fun {a b} h => ?_
    simp only [decide_eq_true_eq] at h
    rw [ba_of, ba_of]
    exact Classical.byContradiction fun hn => h.2 (List.le_antisymm h.1 (List.not_lt.1 hn))
  · intro s
    rw [List.mem_map, ← hD s]
    constructor
    · rintro ⟨x, hx, rfl⟩
      have h1 := (hmem x).1 ((hsp.trans hp).mem_iff.1 hx)
      unfold litS; rw [ba_of]; exact h1
    · intro h
      refine ⟨s.data.toList, (hsp.trans hp).mem_iff.2 ((hmem _).2 h), ?_⟩
      exact ByteArray.ext (Array.toList_inj.1 (by simp))
/-- What the finder starts with. -/
theorem free_start (w : World) (k : Int) (t : ByteArray) (nv av : Value) :
    Below w.heap.size w ((((w.alloc (.cells #[.int .i64 k, .string t, nv, av] 28)).alloc (.map #[] 0)).alloc (.map #[] 0)).alloc (.cells #[.map (some (w.heap.size + 1)), .map (some (w.heap.size + 1 + 1))] 70)) ∧
    EB ((((w.alloc (.cells #[.int .i64 k, .string t, nv, av] 28)).alloc (.map #[] 0)).alloc (.map #[] 0)).alloc (.cells #[.map (some (w.heap.size + 1)), .map (some (w.heap.size + 1 + 1))] 70)) w.heap.size k t nv av ∧
    ArAt ((((w.alloc (.cells #[.int .i64 k, .string t, nv, av] 28)).alloc (.map #[] 0)).alloc (.map #[] 0)).alloc (.cells #[.map (some (w.heap.size + 1)), .map (some (w.heap.size + 1 + 1))] 70)) (w.heap.size + 1) 0 (fun _ => 0) ∧
    FrAt ((((w.alloc (.cells #[.int .i64 k, .string t, nv, av] 28)).alloc (.map #[] 0)).alloc (.map #[] 0)).alloc (.cells #[.map (some (w.heap.size + 1)), .map (some (w.heap.size + 1 + 1))] 70)) (w.heap.size + 1 + 1) 0 (fun _ => False) ∧
    ((((w.alloc (.cells #[.int .i64 k, .string t, nv, av] 28)).alloc (.map #[] 0)).alloc (.map #[] 0)).alloc (.cells #[.map (some (w.heap.size + 1)), .map (some (w.heap.size + 1 + 1))] 70)).heap[w.heap.size + 1 + 1 + 1]? = some (.cells #[.map (some (w.heap.size + 1)), .map (some (w.heap.size + 1 + 1))] 70 (0, 0)) := by
  have e1 : (w.alloc (.cells #[.int .i64 k, .string t, nv, av] 28)).heap.size = w.heap.size + 1 := by simp
  have e2 : ((w.alloc (.cells #[.int .i64 k, .string t, nv, av] 28)).alloc (.map #[] 0)).heap.size = w.heap.size + 1 + 1 := by simp
  have e3 : (((w.alloc (.cells #[.int .i64 k, .string t, nv, av] 28)).alloc (.map #[] 0)).alloc (.map #[] 0)).heap.size = w.heap.size + 1 + 1 + 1 := by simp
  have b1 := (Below.refl w.heap.size w).alloc (Nat.le_refl _) (.cells #[.int .i64 k, .string t, nv, av] 28)
  have b2 := b1.alloc b1.size (.map #[] 0)
  have b3 := b2.alloc b2.size (.map #[] 0)
  have b4 := b3.alloc b3.size (.cells #[.map (some (w.heap.size + 1)), .map (some (w.heap.size + 1 + 1))] 70)
  have m1 := World.ownsMap_made (w.alloc (.cells #[.int .i64 k, .string t, nv, av] 28)) Try.prog 9 (plainElem (H := Unit) Try.prog 3)
  have m2 := World.ownsMap_made ((w.alloc (.cells #[.int .i64 k, .string t, nv, av] 28)).alloc (.map #[] 0)) Try.prog 9 (unitElem (H := Unit))
  rw [e1] at m1
  rw [e2] at m2
  refine ⟨b4, ?_, ⟨_, (m1.alloc _).alloc _, fun s => rfl, fun s => Nat.le_refl _⟩, ⟨_, m2.alloc _, fun s => by simp [has]⟩, ?_⟩
  · exact (Lib.alloc_old _ _ _ (by rw [e3]; omega)).trans ((Lib.alloc_old _ _ _ (by rw [e2]; omega)).trans ((Lib.alloc_old _ _ _ (by rw [e1]; omega)).trans (alloc_at w _)))
  · have h := alloc_at (((w.alloc (.cells #[.int .i64 k, .string t, nv, av] 28)).alloc (.map #[] 0)).alloc (.map #[] 0)) (.cells #[.map (some (w.heap.size + 1)), .map (some (w.heap.size + 1 + 1))] 70)
    rw [e3] at h; exact h
set_option maxHeartbeats 8000000 in
set_option maxRecDepth 100000 in
theorem free_any (e : Et) (hf : e.fine) (hs : e.size ≤ 10000) (S : Nat → Prop) (cs : Array Value) (w : World) (hat : Et.At S w e cs) : Calls Try.prog 22 #[.agg cs] w (RetFree e w) := by
  obtain ⟨k, t, nv, av, rfl, o1, o2⟩ := EAt_form hat
  have z0 : (#[.int .i64 k, .string t, nv, av] : Array Value).all (·.oneCell') = true := by simp [Value.oneCell'] at o1 o2 ⊢; exact ⟨o1, o2⟩
  obtain ⟨hb, hE, hAR, hFR, hBX⟩ := free_start w k t nv av
  have HB := Lib.hid hb
  have HE := Lib.hid hE
  have HAR := Lib.hid hAR
  have HFR := Lib.hid hFR
  have HBX := Lib.hid hBX
  have HAT := Lib.hid (Et.At.keeps (Keeps.of_below hb) _ _ hat)
  have HFC := Lib.hid (finder_tree e.size e (Nat.le_refl _) (by omega) hf)
  have hm1 := @run_makeMap Try.prog
  clear hat hb hE hAR hFR hBX
  go_enter Try.func22, Try.ntmps22
  go_upto_region 2 with fail
  clear hm1
  obtain ⟨ga, hga⟩ : ∃ ga, ga = w.heap.size := ⟨_, rfl⟩
  obtain ⟨ma, hma⟩ : ∃ ma, ma = ga + 1 := ⟨_, rfl⟩
  obtain ⟨mf, hmf⟩ : ∃ mf, mf = ma + 1 := ⟨_, rfl⟩
  obtain ⟨gb, hgb⟩ : ∃ gb, gb = mf + 1 := ⟨_, rfl⟩
  simp only [← hga, ← hma, ← hmf, ← hgb] at HB HE HAR HFR HBX HAT ⊢
  generalize (((w.alloc (.cells #[.int .i64 k, .string t, nv, av] 28)).alloc (.map #[] 0)).alloc (.map #[] 0)).alloc (.cells #[.map (some ma), .map (some mf)] 70) = W at HB HE HAR HFR HBX HAT ⊢
  have hmm : ma ≠ mf := by omega
  have hwa : w.heap.size ≤ ma := by omega
  have hwf : w.heap.size ≤ mf := by omega
  have hgbm : gb ≠ ma := by omega
  have hgbf : gb ≠ mf := by omega
  have HWF := Lib.hid hwf
  have HWA := Lib.hid hwa
  have HB0 : Hid (Below w.heap.size w W) := by show Below w.heap.size w W; rw [← hga]; exact HB.out
  clear HB
  have HB := HB0
  clear HB0 hga hma hmf hgb hwa hwf
  have b0 : W.cell? ⟨gb, 0, none⟩ = some (.map (some ma)) := by rw [Lib.cell_of_heap HBX.out]; rfl
  have b1 : W.cell? ⟨gb, 1, none⟩ = some (.map (some mf)) := by rw [Lib.cell_of_heap HBX.out]; rfl
  have HC := Lib.hid (HFC.out S _ W ma mf 0 _ _ HAR.out HFR.out hmm HAT.out (by omega))
  go_wp2_with (refine wpList_load_row rfl 28 _ rfl ga rfl 28 #[.int .i64 k, .string t, nv, av] (0, 0) _ HE.out Try.underlying28 rfl info28 ?_)
  refine HC.out.mono ?_
  rintro r w1 ⟨rfl, har, hfr, hbu⟩
  have HBX1 := Lib.hid (row_but2 hbu HBX.out hgbm hgbf)
  have hb1 : Below w.heap.size w w1 := HB.out.trans ⟨hbu.os, hbu.tape, hbu.output, hbu.size, fun i hi => hbu.block i (Nat.lt_of_lt_of_le hi HB.out.size) (fun e => by have := HWA.out; omega) (fun e => by have := HWF.out; omega)⟩
  have HB1 := Lib.hid hb1
  obtain ⟨D, hown, hD⟩ := hfr
  have hsz := hown.size_le
  have b2 : w1.cell? ⟨gb, 1, none⟩ = some (.map (some mf)) := by rw [Lib.cell_of_heap HBX1.out]; rfl
  have HKEY := Lib.hid ((callsIn_wide.1 (Try.maps_Keys_47 (some mf) w1)))
  have HSRT := Lib.hid ((callsIn_wide.1 (Try.slices_Sorted_keys_46_47 mf _ D (unitElem (H := Unit)) w1 hown (by unfold maxLen; omega) (by omega))))
  have HLS := Lib.hid (fun (W : World) (B : Nat) (v : Value) (ss : List (List UInt8)) (hp : ss.Perm (strKeys D)) hrow => free_list (W := W) (B := B) (v := v) hown hD hp hrow)
  clear har hbu hb1 hown hD hsz b0 b1 HC
  go_wp2_with fail
  refine HKEY.out.mono ?_
  rintro r w2 ⟨rfl, rfl⟩
  go_wp2_with fail
  refine HSRT.out.mono ?_
  rintro r w3 ⟨v, ss, rfl, hp, hrow, -, hb3⟩
  obtain ⟨L, hL1, hL2, hL3⟩ := HLS.out w3 _ v ss hp hrow
  have A2 := (Below.refl w1.heap.size w1).alloc (Nat.le_refl _) (.cells #[.map (some mf)] 68)
  have hs1 := HB1.out.size
  have HFIN : Hid (RetFree e w (.returned v) w3) := ⟨v, L, rfl, hL1.mono (fun g hg => by have : (w1.alloc (.cells #[.map (some mf)] 68)).heap.size ≤ g := hg; simp at this; omega), hL2, fun s => (hL3 s).trans (by simp), HB1.out.trans ((A2.trans (hb3.mono A2.size)).mono hs1)⟩
  obtain ⟨vo, vc, rfl⟩ := hL1.form
  clear hp hrow hb3 hL1 hL2 hL3 A2
  go_wp2_with fail
  go_ret
  exact HFIN.out
end Go.Proofs.Ytpkcoplpfenliaa
/- The document's sets of names: With, Without, Texts. -/
namespace Go.Proofs.Ytpkcoplpfenliaa
open Go.RowKit
set_option linter.unusedVariables false
set_option linter.unusedSimpArgs false
theorem blt_not {a b : ByteArray} (h : ¬ a.data.toList < b.data.toList) (hne : a ≠ b) : b.data.toList < a.data.toList :=
  Classical.byContradiction fun hn => hne (ByteArray.ext (Array.toList_inj.1 (List.le_antisymm (List.not_lt.1 hn) (List.not_lt.1 h))))
theorem srt_ins {l : List ByteArray} {s : ByteArray} {k : Nat} (hl : Srt l) (hs : s ∉ l) (hk : k ≤ l.length) (h1 : ∀ i (h : i < l.length), i < k → l[i].data.toList < s.data.toList) (h2 : ∀ h : k < l.length, ¬ l[k].data.toList < s.data.toList) :
    Srt (l.take k ++ [s] ++ l.drop k) ∧ ∀ x, x ∈ l.take k ++ [s] ++ l.drop k ↔ x = s ∨ x ∈ l := by
  have ht : ∀ x ∈ l.take k, x.data.toList < s.data.toList := by
    intro x hx
    obtain ⟨i, hi, rfl⟩ := List.getElem_of_mem hx
    rw [List.length_take] at hi
    rw [List.getElem_take]
    exact h1 i (by omega) (by omega)
  have hd : ∀ x ∈ l.drop k, s.data.toList < x.data.toList := by
    intro x hx
    obtain ⟨i, hi, rfl⟩ := List.getElem_of_mem hx
    rw [List.length_drop] at hi
    rw [List.getElem_drop]
    have hkl : k < l.length := by omega
    have h3 := blt_not (h2 hkl) (fun e => hs (by rw [← e]; exact List.getElem_mem hkl))
    by_cases hi0 : i = 0
    · subst hi0; exact h3
    · exact List.lt_trans h3 (List.pairwise_iff_getElem.1 hl k (k + i) hkl (by omega) (by omega))
  refine ⟨?_, fun x => ?_⟩
  · unfold Srt
    rw [List.append_assoc, List.pairwise_append]
    refine ⟨hl.sublist (List.take_sublist _ _), ?_, fun a ha b hb => ?_⟩
    · rw [List.singleton_append, List.pairwise_cons]
      exact ⟨hd, hl.sublist (List.drop_sublist _ _)⟩
    · rcases List.mem_append.1 hb with hb | hb
      · simp at hb; subst hb; exact ht a ha
      · exact List.lt_trans (ht a ha) (hd b hb)
  · simp only [List.mem_append, List.mem_singleton]
    have h3 : x ∈ l ↔ x ∈ l.take k ∨ x ∈ l.drop k := by rw [← List.mem_append, List.take_append_drop]
    rw [h3]
    constructor
    · rintro ((h | h) | h)
      · exact .inr (.inl h)
      · exact .inl h
      · exact .inr (.inr h)
    · rintro (h | h | h)
      · exact .inl (.inr h)
      · exact .inl (.inl h)
      · exact .inr h
theorem NAt.drop {S : Nat → Prop} {w : World} {g o cap : Nat} {n : Nat} {ns : List ByteArray} (h : NAt S w (.slice (some ⟨g, o, none⟩) n cap) ns) (k : Nat) (hk : k ≤ ns.length) (o' c' : Nat) (ho : c' = 0 ∨ o' = o + k) (hc : c' + k = cap) : NAt S w (.slice (some ⟨g, o', none⟩) (ns.length - k) c') (ns.drop k) := by
  rcases h with ⟨h, _⟩ | ⟨g2, o2, cap2, arr, fz, e, hS, hg, hd, hc2⟩
  · cases h
  · injection e with e1 e2 e3
    injection e1 with e1
    injection e1 with e4 e5
    subst e4 e5 e3
    refine .inr ⟨g, o', c', arr, fz, by rw [List.length_drop], hS, hg, fun i hi => ?_, by rw [List.length_drop]; omega⟩
    rw [List.length_drop] at hi
    rw [List.getElem_drop]
    have ho' : o' = o + k := by rcases ho with h | h <;> omega
    rw [ho', Nat.add_assoc]
    exact hd (k + i) (by omega)
/-- append of many names to a row that the call owns. -/
theorem wp_appNm {o : Oper} {a : Act} {w : World} {K : Act → World → Prop} {Q : Exit → Act → World → Prop} (s x : Operand)
    (ho : o.op = .call { callee := .builtin .append, args := #[s, x], argTypes := #[25, 25] }) (B : Nat) (v : Value) (L : List ByteArray) (hs : a.eval s = v) (hown : OwnN B w v L) (hL : 0 < L.length)
    {S : Nat → Prop} (u : Value) (R : List ByteArray) (hx : a.eval x = u) (hu : NAt S w u R) (hb : L.length + R.length ≤ 100000) (hB : B ≤ w.heap.size)
    (h : ∀ v' w', OwnN B w' v' (L ++ R) → w.grownBy w' v.ownBlock → K (a.put o.dst v') w') : o.wp Try.prog a w K Q := by
  obtain ⟨i, hi, hz, hsz, hby⟩ := info_parts infoS
  rcases hu with ⟨rfl, rfl⟩ | ⟨g1, o1, cap, arr, fz, rfl, h1, h2, h3, h4⟩
  · rcases hown.2 with ⟨_, h0⟩ | ⟨g, c, cur, rfl, hbg, hg, hnc, hcm, hcs, htake⟩
    · omega
    · have hr := run_append_room_src (P := Try.prog) w 25 25 o.type 9 i Try.underlying25 hi g 0 L.length c (.slice none 0 0) 0 [] (Src.ofNil w Try.underlying25 0) (by omega) (fun j hj => by simp at hj) (fun j hj => by simp at hj)
      unfold Oper.wp execOp
      simp only [ho, resolve, invoke, builtin, Sem.run_bind, Sem.run_pure, Result.andThen_ok, List.map_toArray, List.map_cons, List.map_nil, hs, hx, hr]
      exact h _ _ (by rw [List.append_nil]; exact hown) ⟨rfl, rfl, rfl, Nat.le_refl _, fun _ _ _ => rfl⟩
  · refine wp_append_own w s x 25 ho B 9 i (.string ⟨#[]⟩) 1 16 Try.underlying25 hi hz hsz hby rfl (by decide) v L.length _ hs hown ⟨g1, o1, none⟩ R.length cap (R.map Value.string) hx (by simp) (fun j t hj => ?_) (fun t ht => ?_) (by unfold maxLen; omega) (by omega) hB ?_
    · have hl : j < R.length := by
        rcases Nat.lt_or_ge j R.length with h | h
        · exact h
        · rw [List.getElem?_eq_none (by simpa using h)] at hj; cases hj
      rw [List.getElem?_map, List.getElem?_eq_getElem hl] at hj
      simp only [Option.map_some, Option.some.injEq] at hj
      subst hj
      have e2 : (⟨g1, o1, none⟩ : Addr).add j = ⟨g1, o1 + j, none⟩ := by unfold Addr.add; split <;> simp_all
      rw [e2, Lib.cell_of_heap h2]; exact h3 j hl
    · obtain ⟨_, _, rfl⟩ := List.mem_map.1 ht; rfl
    · intro v' w' h5 h6 _
      refine h v' w' ?_ h6
      unfold OwnN
      rw [List.map_append, List.length_append]; exact h5
/-- A set with one name more. -/
def RetWith (B : Nat) (l : List ByteArray) (s : ByteArray) (w : World) (r : Ending) (w' : World) : Prop :=
  ∃ v L, r = .returned v ∧ NAt (fun g => B ≤ g) w' v L ∧ Srt L ∧ (∀ x, x ∈ L ↔ x = s ∨ x ∈ l) ∧ L.length ≤ l.length + 1 ∧ Below w.heap.size w w'
def WhInv (l : List ByteArray) (s : ByteArray) (w : World) (iv : Value) (wr : World) : Prop :=
  ∃ k : Nat, k ≤ l.length ∧ iv = .int .i64 (k : Int) ∧ (∀ i (h : i < l.length), i < k → l[i].data.toList < s.data.toList) ∧ w = wr
theorem less_eq (a b : ByteArray) : Op.bytesLess a.toList b.toList = decide (a.data.toList < b.data.toList) := by rw [bytesLess_eq, Lib.toList_data, Lib.toList_data]
set_option maxHeartbeats 8000000 in
set_option maxRecDepth 100000 in
theorem with_any (l : List ByteArray) (hl : Srt l) (s : ByteArray) (B : Nat) (lv : Value) (w : World) (h : NAt (fun g => B ≤ g) w lv l) (hn : l.length ≤ 50000) (hB : B ≤ w.heap.size) : Calls Try.prog 48 #[lv, .string s] w (RetWith B l s w) := by
  obtain ⟨S, hS⟩ : ∃ S : Nat → Prop, S = fun g => B ≤ g := ⟨_, rfl⟩
  rw [← hS] at h
  have HIN := Lib.hid (in_any s l S lv w h (by omega))
  by_cases hin : s ∈ l
  · have HRET : Hid (RetWith B l s w (.returned lv) w) := ⟨lv, l, rfl, hS ▸ h, hl, fun x => ⟨.inr, fun h => h.elim (fun e => e ▸ hin) id⟩, by omega, Below.refl _ _⟩
    rw [decide_eq_true hin] at HIN
    obtain ⟨no, nc, rfl⟩ := h.form
    clear h hS
    go_enter Try.func48, Try.ntmps48
    go_wp2_with fail
    refine HIN.out.mono ?_
    rintro e w' ⟨rfl, rfl⟩
    go_wp2_with fail
    go_ret
    exact HRET.out
  · rw [decide_eq_false hin] at HIN
    have HRS : Hid (∀ k, k ≤ l.length → (∀ i (h : i < l.length), i < k → l[i].data.toList < s.data.toList) → (∀ h : k < l.length, ¬ l[k].data.toList < s.data.toList) → ∀ v' w', OwnN w.heap.size w' v' (l.take k ++ [s] ++ l.drop k) → Below w.heap.size w w' → RetWith B l s w (.returned v') w') := by
      show ∀ k, _
      intro k hk h1 h2 v' w' ho hb
      obtain ⟨h3, h4⟩ := srt_ins hl hin hk h1 h2
      refine ⟨v', _, rfl, ho.at.mono (fun g hg => by have := hg.1; omega), h3, h4, ?_, hb⟩
      simp; omega
    have HN := Lib.hid h
    rcases h with ⟨rfl, rfl⟩ | ⟨g, o, nc, arr, fz, rfl, hSg, hg, hd, hc⟩
    · have HRES := Lib.hid (HRS.out 0 (Nat.le_refl _) (fun i h => by simp at h) (fun h => by simp at h))
      simp only [List.take_nil, List.drop_nil] at HRES
      clear HRS
      go_enter Try.func48, Try.ntmps48
      go_wp2_with fail
      refine HIN.out.mono ?_
      rintro e w' ⟨rfl, rfl⟩
      go_wp2_with fail
      go_loopw [5] (fun iv wr => iv = .int .i64 0 ∧ w = wr) (fun iv _ => 0)
      case atStart => exact ⟨rfl, rfl⟩
      case round =>
        obtain ⟨rfl, rfl⟩ := hrel
        go_upto_region 6 with fail
        have HS0 : Hid (Below w.heap.size w w.drew) := (Below.refl _ _).drew
        refine wp_region_noPanic ?_
        refine wp_region_held_drew (S := Below w.heap.size w) (by kernel_rfl) HS0.out (fun hHeld => ?_)
        generalize w.drew = X at HS0 hHeld ⊢
        refine wpAnyH_take (i := 1) (v := Value.slice none 0 0) rfl (by kernel_rfl) (by kernel_rfl) (by kernel_rfl) (fun _ _ _ h => h) (Or.inl ⟨rfl, fun w' hw' => ?_⟩) hHeld ?_
        · go_simp
        simp only [List.getElem_toArray, List.getElem_cons_succ, List.getElem_cons_zero, Act.put, List.setIfInBounds_toArray, List.set_cons_zero, List.set_cons_succ]
        refine wpAnyH_take (i := 2) (v := Value.int .i64 0) rfl (by kernel_rfl) (by kernel_rfl) (by kernel_rfl) (fun _ _ _ h => h) (Or.inl ⟨rfl, fun w' hw' => ?_⟩) hHeld ?_
        · go_simp
        simp only [List.getElem_toArray, List.getElem_cons_succ, List.getElem_cons_zero, Act.put, List.setIfInBounds_toArray, List.set_cons_zero, List.set_cons_succ]
        refine wpAnyH_take (i := 3) (v := Value.slice none 0 0) rfl (by kernel_rfl) (by kernel_rfl) (by kernel_rfl) (fun _ _ _ h => h) (Or.inl ⟨rfl, fun w' hw' => ?_⟩) hHeld ?_
        · go_simp
        simp only [List.getElem_toArray, List.getElem_cons_succ, List.getElem_cons_zero, Act.put, List.setIfInBounds_toArray, List.set_cons_zero, List.set_cons_succ]
        refine wpAnyH_take (i := 5) (v := Value.string s) rfl (by kernel_rfl) (by kernel_rfl) (by kernel_rfl) (fun _ _ _ h => h) (Or.inl ⟨rfl, fun w' hw' => ?_⟩) hHeld ?_
        · go_simp
        simp only [List.getElem_toArray, List.getElem_cons_succ, List.getElem_cons_zero, Act.put, List.setIfInBounds_toArray, List.set_cons_zero, List.set_cons_succ]
        refine wpAnyH_take (i := 8) (v := Value.slice none 0 0) rfl (by kernel_rfl) (by kernel_rfl) (by kernel_rfl) (fun _ _ _ h => h) (Or.inl ⟨rfl, fun w' hw' => ?_⟩) hHeld ?_
        · go_simp
        simp only [List.getElem_toArray, List.getElem_cons_succ, List.getElem_cons_zero, Act.put, List.setIfInBounds_toArray, List.set_cons_zero, List.set_cons_succ]
        refine wpAnyH_take (i := 9) (v := Value.int .i64 0) rfl (by kernel_rfl) (by kernel_rfl) (by kernel_rfl) (fun _ _ _ h => h) (Or.inl ⟨rfl, fun w' hw' => ?_⟩) hHeld ?_
        · go_simp
        simp only [List.getElem_toArray, List.getElem_cons_succ, List.getElem_cons_zero, Act.put, List.setIfInBounds_toArray, List.set_cons_zero, List.set_cons_succ]
        refine wpAnyH_take (i := 10) (v := Value.slice none 0 0) rfl (by kernel_rfl) (by kernel_rfl) (by kernel_rfl) (fun _ _ _ h => h) (Or.inl ⟨rfl, fun w' hw' => ?_⟩) hHeld ?_
        · go_simp
        simp only [List.getElem_toArray, List.getElem_cons_succ, List.getElem_cons_zero, Act.put, List.setIfInBounds_toArray, List.set_cons_zero, List.set_cons_succ]
        refine wpAnyH_ready (rs := [0, 6]) (by kernel_rfl) (by simp) ?_
        refine (AllReadyH.cons rfl (fun K hK => ?_) (AllReadyH.cons rfl (fun K hK => ?_) AllReadyH.nil))
        · skip
          go_simp
          have HS0a : Hid (Below w.heap.size w (X.alloc (.cells #[] 9))) := HS0.out.alloc HS0.out.size _
          have HO0 := Lib.hid (OwnN.lit w.heap.size X HS0.out.size)
          refine hK.out _ _ HS0a.out (fun hHeld => ?_)
          clear hK K
          try simp only [List.getElem_toArray, List.getElem_cons_succ, List.getElem_cons_zero, Act.put, List.setIfInBounds_toArray, List.set_cons_zero, List.set_cons_succ]
          generalize X.alloc (.cells #[] 9) = w0 at HS0a HO0 hHeld ⊢
          have hg0 : w.heap.size ≤ X.heap.size := HS0.out.size
          have hgl0 : X.heap.size < w0.heap.size := (HO0.out.lt rfl).2
          have HS0 := HS0a
          obtain ⟨g0, hg0e⟩ : ∃ g0, g0 = X.heap.size := ⟨_, rfl⟩
          rw [← hg0e] at HO0 hg0 hgl0
          simp only [← hg0e]
          have HG0 := Lib.hid hg0e
          clear hg0e
          refine wpAnyH_ready (rs := [4, 6]) (by kernel_rfl) (by simp) ?_
          refine (AllReadyH.cons rfl (fun K hK => ?_) (AllReadyH.cons rfl (fun K hK => ?_) AllReadyH.nil))
          · skip
            refine wp_appNs (S := S) (Operand.tmp 24) (Operand.tmp 27) rfl w.heap.size g0 0 (by go_simp) HO0.out _ [] rfl (.inl ⟨rfl, rfl⟩) (by simp) HS0.out.size ?_
            intro v' w4 hown4 hg4
            have HS4 : Hid (Below w.heap.size w w4) := HS0.out.grown hg4 HS0.out.size (fun x hx => by injection hx with hx; subst hx; exact hg0)
            have HO4 := Lib.hid hown4
            obtain ⟨ao4, ac4, rfl⟩ := own_form hown4
            clear hown4 hg4
            refine hK.out _ _ HS4.out (fun hHeld => ?_)
            clear hK K
            try simp only [List.getElem_toArray, List.getElem_cons_succ, List.getElem_cons_zero, Act.put, List.setIfInBounds_toArray, List.set_cons_zero, List.set_cons_succ]
            refine wpAnyH_ready (rs := [6]) (by kernel_rfl) (by simp) ?_
            refine (AllReadyH.cons rfl (fun K hK => ?_) AllReadyH.nil)
            go_simp
            have HS6a : Hid (Below w.heap.size w (w4.alloc (.cells #[.string s] 9))) := HS4.out.alloc HS4.out.size _
            have HC6 : Hid ((w4.alloc (.cells #[.string s] 9)).cell? ⟨w4.heap.size, 0, none⟩ = some (.string s)) := (by show _ = _; rw [Lib.cell_of_heap (alloc_at _ _)]; rfl)
            have A6 := Lib.hid ((Below.refl w4.heap.size w4).alloc (Nat.le_refl _) (.cells #[.string s] 9))
            have HO4b := Lib.hid (HO4.out.below A6.out)
            refine hK.out _ _ HS6a.out (fun hHeld => ?_)
            clear hK K
            try simp only [List.getElem_toArray, List.getElem_cons_succ, List.getElem_cons_zero, Act.put, List.setIfInBounds_toArray, List.set_cons_zero, List.set_cons_succ]
            generalize w4.alloc (.cells #[.string s] 9) = w6 at HS6a HC6 A6 HO4b hHeld ⊢
            have hg6 : w4.heap.size < w6.heap.size := (World.block_lt_of_cell? w6 ⟨w4.heap.size, 0, none⟩ HC6.out)
            have HS6 := HS6a
            obtain ⟨g6, hg6e⟩ : ∃ g6, g6 = w4.heap.size := ⟨_, rfl⟩
            rw [← hg6e] at HC6 hg6
            simp only [← hg6e]
            clear hg6e
            refine wpAnyH_ready (rs := [7]) (by kernel_rfl) (by simp) ?_
            refine (AllReadyH.cons rfl (fun K hK => ?_) AllReadyH.nil)
            refine wp_appN1 (Operand.tmp 28) (Operand.tmp 30) rfl w.heap.size (.slice ao4 ([] : List ByteArray).length ac4) [] (by go_simp) HO4b.out g6 (by go_simp) s HC6.out (by simp) HS6.out.size ?_
            intro v' w7 hown7 hg7
            have HS7 : Hid (Below w.heap.size w w7) := HS6.out.grown hg7 HS6.out.size (fun x hx => (HO4b.out.lt hx).1)
            have HO7 := Lib.hid hown7
            obtain ⟨ao7, ac7, rfl⟩ := own_form hown7
            clear hown7 hg7
            refine hK.out _ _ HS7.out (fun hHeld => ?_)
            clear hK K
            try simp only [List.getElem_toArray, List.getElem_cons_succ, List.getElem_cons_zero, Act.put, List.setIfInBounds_toArray, List.set_cons_zero, List.set_cons_succ]
            refine wpAnyH_ready (rs := [11]) (by kernel_rfl) (by simp) ?_
            refine (AllReadyH.cons rfl (fun K hK => ?_) AllReadyH.nil)
            refine wp_appNm (S := S) (Operand.tmp 31) (Operand.tmp 34) rfl w.heap.size (.slice ao7 ([] ++ [s]).length ac7) ([] ++ [s]) (by go_simp) HO7.out (by simp) _ [] (by go_simp) (.inl ⟨rfl, rfl⟩) (by simp) HS7.out.size ?_
            intro v' w11 hown11 hg11
            have HS11 : Hid (Below w.heap.size w w11) := HS7.out.grown hg11 HS7.out.size (fun x hx => (HO7.out.lt hx).1)
            have HFIN := Lib.hid (HRES.out v' w11 hown11 HS11.out)
            obtain ⟨n9, hn9⟩ : ∃ n9, n9 = (([] ++ [s]) ++ []).length := ⟨_, rfl⟩
            obtain ⟨ao9, ac9, e9⟩ := own_form hown11
            rw [← hn9] at e9
            subst e9
            clear hown11 hg11 hn9
            refine hK.out _ _ HS11.out (fun hHeld => ?_)
            clear hK K
            try simp only [List.getElem_toArray, List.getElem_cons_succ, List.getElem_cons_zero, Act.put, List.setIfInBounds_toArray, List.set_cons_zero, List.set_cons_succ]
            refine wpAnyH_take (i := 12) (v := Value.slice ao9 n9 ac9) rfl (by kernel_rfl) (by kernel_rfl) (by kernel_rfl) (fun _ _ _ h => h) (Or.inl ⟨rfl, fun w' hw' => ?_⟩) hHeld ?_
            · go_simp
            simp only [List.getElem_toArray, List.getElem_cons_succ, List.getElem_cons_zero, Act.put, List.setIfInBounds_toArray, List.set_cons_zero, List.set_cons_succ]
            refine wpAnyH_done (by kernel_rfl) ?_ _
            refine NoPanic.normal ?_
            clear hHeld
            go_wp2_with fail
            go_ret
            exact HFIN.out
          · skip
            go_simp
            have HS6a : Hid (Below w.heap.size w (w0.alloc (.cells #[.string s] 9))) := HS0.out.alloc HS0.out.size _
            have HC6 : Hid ((w0.alloc (.cells #[.string s] 9)).cell? ⟨w0.heap.size, 0, none⟩ = some (.string s)) := (by show _ = _; rw [Lib.cell_of_heap (alloc_at _ _)]; rfl)
            have A6 := Lib.hid ((Below.refl w0.heap.size w0).alloc (Nat.le_refl _) (.cells #[.string s] 9))
            have HO0b := Lib.hid (HO0.out.below A6.out)
            refine hK.out _ _ HS6a.out (fun hHeld => ?_)
            clear hK K
            try simp only [List.getElem_toArray, List.getElem_cons_succ, List.getElem_cons_zero, Act.put, List.setIfInBounds_toArray, List.set_cons_zero, List.set_cons_succ]
            generalize w0.alloc (.cells #[.string s] 9) = w6 at HS6a HC6 A6 HO0b hHeld ⊢
            have hg6 : w0.heap.size < w6.heap.size := (World.block_lt_of_cell? w6 ⟨w0.heap.size, 0, none⟩ HC6.out)
            have HS6 := HS6a
            obtain ⟨g6, hg6e⟩ : ∃ g6, g6 = w0.heap.size := ⟨_, rfl⟩
            rw [← hg6e] at HC6 hg6
            simp only [← hg6e]
            have hne : g6 ≠ g0 := by omega
            clear hg6e
            refine wpAnyH_ready (rs := [4]) (by kernel_rfl) (by simp) ?_
            refine (AllReadyH.cons rfl (fun K hK => ?_) AllReadyH.nil)
            refine wp_appNs (S := S) (Operand.tmp 24) (Operand.tmp 27) rfl w.heap.size g0 0 (by go_simp) HO0b.out _ [] rfl (.inl ⟨rfl, rfl⟩) (by simp) HS6.out.size ?_
            intro v' w4 hown4 hg4
            have HS4 : Hid (Below w.heap.size w w4) := HS6.out.grown hg4 HS6.out.size (fun x hx => by injection hx with hx; subst hx; exact hg0)
            have HO4 := Lib.hid hown4
            obtain ⟨ao4, ac4, rfl⟩ := own_form hown4
            have HC6b : Hid (w4.cell? ⟨g6, 0, none⟩ = some (.string s)) := (World.cell?_of_block (a := ⟨g6, 0, none⟩) (hg4.block g6 hg6 (fun e => by injection e with e; exact hne e))).trans HC6.out
            clear hown4 hg4
            refine hK.out _ _ HS4.out (fun hHeld => ?_)
            clear hK K
            try simp only [List.getElem_toArray, List.getElem_cons_succ, List.getElem_cons_zero, Act.put, List.setIfInBounds_toArray, List.set_cons_zero, List.set_cons_succ]
            refine wpAnyH_ready (rs := [7]) (by kernel_rfl) (by simp) ?_
            refine (AllReadyH.cons rfl (fun K hK => ?_) AllReadyH.nil)
            refine wp_appN1 (Operand.tmp 28) (Operand.tmp 30) rfl w.heap.size (.slice ao4 ([] : List ByteArray).length ac4) [] (by go_simp) HO4.out g6 (by go_simp) s HC6b.out (by simp) HS4.out.size ?_
            intro v' w7 hown7 hg7
            have HS7 : Hid (Below w.heap.size w w7) := HS4.out.grown hg7 HS4.out.size (fun x hx => (HO4.out.lt hx).1)
            have HO7 := Lib.hid hown7
            obtain ⟨ao7, ac7, rfl⟩ := own_form hown7
            clear hown7 hg7
            refine hK.out _ _ HS7.out (fun hHeld => ?_)
            clear hK K
            try simp only [List.getElem_toArray, List.getElem_cons_succ, List.getElem_cons_zero, Act.put, List.setIfInBounds_toArray, List.set_cons_zero, List.set_cons_succ]
            refine wpAnyH_ready (rs := [11]) (by kernel_rfl) (by simp) ?_
            refine (AllReadyH.cons rfl (fun K hK => ?_) AllReadyH.nil)
            refine wp_appNm (S := S) (Operand.tmp 31) (Operand.tmp 34) rfl w.heap.size (.slice ao7 ([] ++ [s]).length ac7) ([] ++ [s]) (by go_simp) HO7.out (by simp) _ [] (by go_simp) (.inl ⟨rfl, rfl⟩) (by simp) HS7.out.size ?_
            intro v' w11 hown11 hg11
            have HS11 : Hid (Below w.heap.size w w11) := HS7.out.grown hg11 HS7.out.size (fun x hx => (HO7.out.lt hx).1)
            have HFIN := Lib.hid (HRES.out v' w11 hown11 HS11.out)
            obtain ⟨n9, hn9⟩ : ∃ n9, n9 = (([] ++ [s]) ++ []).length := ⟨_, rfl⟩
            obtain ⟨ao9, ac9, e9⟩ := own_form hown11
            rw [← hn9] at e9
            subst e9
            clear hown11 hg11 hn9
            refine hK.out _ _ HS11.out (fun hHeld => ?_)
            clear hK K
            try simp only [List.getElem_toArray, List.getElem_cons_succ, List.getElem_cons_zero, Act.put, List.setIfInBounds_toArray, List.set_cons_zero, List.set_cons_succ]
            refine wpAnyH_take (i := 12) (v := Value.slice ao9 n9 ac9) rfl (by kernel_rfl) (by kernel_rfl) (by kernel_rfl) (fun _ _ _ h => h) (Or.inl ⟨rfl, fun w' hw' => ?_⟩) hHeld ?_
            · go_simp
            simp only [List.getElem_toArray, List.getElem_cons_succ, List.getElem_cons_zero, Act.put, List.setIfInBounds_toArray, List.set_cons_zero, List.set_cons_succ]
            refine wpAnyH_done (by kernel_rfl) ?_ _
            refine NoPanic.normal ?_
            clear hHeld
            go_wp2_with fail
            go_ret
            exact HFIN.out
        · skip
          go_simp
          have HS6a : Hid (Below w.heap.size w (X.alloc (.cells #[.string s] 9))) := HS0.out.alloc HS0.out.size _
          have HC6 : Hid ((X.alloc (.cells #[.string s] 9)).cell? ⟨X.heap.size, 0, none⟩ = some (.string s)) := (by show _ = _; rw [Lib.cell_of_heap (alloc_at _ _)]; rfl)
          have A6 := Lib.hid ((Below.refl X.heap.size X).alloc (Nat.le_refl _) (.cells #[.string s] 9))
          refine hK.out _ _ HS6a.out (fun hHeld => ?_)
          clear hK K
          try simp only [List.getElem_toArray, List.getElem_cons_succ, List.getElem_cons_zero, Act.put, List.setIfInBounds_toArray, List.set_cons_zero, List.set_cons_succ]
          generalize X.alloc (.cells #[.string s] 9) = w6 at HS6a HC6 A6 hHeld ⊢
          have hg6 : X.heap.size < w6.heap.size := (World.block_lt_of_cell? w6 ⟨X.heap.size, 0, none⟩ HC6.out)
          have HS6 := HS6a
          obtain ⟨g6, hg6e⟩ : ∃ g6, g6 = X.heap.size := ⟨_, rfl⟩
          rw [← hg6e] at HC6 hg6
          simp only [← hg6e]
          clear hg6e
          refine wpAnyH_ready (rs := [0]) (by kernel_rfl) (by simp) ?_
          refine (AllReadyH.cons rfl (fun K hK => ?_) AllReadyH.nil)
          go_simp
          have HS0a : Hid (Below w.heap.size w (w6.alloc (.cells #[] 9))) := HS6.out.alloc HS6.out.size _
          have HO0 := Lib.hid (OwnN.lit w.heap.size w6 HS6.out.size)
          have HC60 : Hid ((w6.alloc (.cells #[] 9)).cell? ⟨g6, 0, none⟩ = some (.string s)) := cell_below ((Below.refl w6.heap.size w6).alloc (Nat.le_refl _) _) HC6.out
          have hg60 : g6 < (w6.alloc (.cells #[] 9)).heap.size := World.block_lt_of_cell? _ ⟨g6, 0, none⟩ HC60.out
          refine hK.out _ _ HS0a.out (fun hHeld => ?_)
          clear hK K
          try simp only [List.getElem_toArray, List.getElem_cons_succ, List.getElem_cons_zero, Act.put, List.setIfInBounds_toArray, List.set_cons_zero, List.set_cons_succ]
          generalize w6.alloc (.cells #[] 9) = w0 at HS0a HO0 HC60 hg60 hHeld ⊢
          have hg0 : w.heap.size ≤ w6.heap.size := HS6.out.size
          have hgl0 : w6.heap.size < w0.heap.size := (HO0.out.lt rfl).2
          have HS0 := HS0a
          obtain ⟨g0, hg0e⟩ : ∃ g0, g0 = w6.heap.size := ⟨_, rfl⟩
          rw [← hg0e] at HO0 hg0 hgl0
          simp only [← hg0e]
          have HG0 := Lib.hid hg0e
          have hne : g6 ≠ g0 := by have := HG0.out; omega
          clear hg0e
          refine wpAnyH_ready (rs := [4]) (by kernel_rfl) (by simp) ?_
          refine (AllReadyH.cons rfl (fun K hK => ?_) AllReadyH.nil)
          refine wp_appNs (S := S) (Operand.tmp 24) (Operand.tmp 27) rfl w.heap.size g0 0 (by go_simp) HO0.out _ [] rfl (.inl ⟨rfl, rfl⟩) (by simp) HS0.out.size ?_
          intro v' w4 hown4 hg4
          have HS4 : Hid (Below w.heap.size w w4) := HS0.out.grown hg4 HS0.out.size (fun x hx => by injection hx with hx; subst hx; exact hg0)
          have HO4 := Lib.hid hown4
          obtain ⟨ao4, ac4, rfl⟩ := own_form hown4
          have HC6b : Hid (w4.cell? ⟨g6, 0, none⟩ = some (.string s)) := (World.cell?_of_block (a := ⟨g6, 0, none⟩) (hg4.block g6 hg60 (fun e => by injection e with e; exact hne e))).trans HC60.out
          clear hown4 hg4
          refine hK.out _ _ HS4.out (fun hHeld => ?_)
          clear hK K
          try simp only [List.getElem_toArray, List.getElem_cons_succ, List.getElem_cons_zero, Act.put, List.setIfInBounds_toArray, List.set_cons_zero, List.set_cons_succ]
          refine wpAnyH_ready (rs := [7]) (by kernel_rfl) (by simp) ?_
          refine (AllReadyH.cons rfl (fun K hK => ?_) AllReadyH.nil)
          refine wp_appN1 (Operand.tmp 28) (Operand.tmp 30) rfl w.heap.size (.slice ao4 ([] : List ByteArray).length ac4) [] (by go_simp) HO4.out g6 (by go_simp) s HC6b.out (by simp) HS4.out.size ?_
          intro v' w7 hown7 hg7
          have HS7 : Hid (Below w.heap.size w w7) := HS4.out.grown hg7 HS4.out.size (fun x hx => (HO4.out.lt hx).1)
          have HO7 := Lib.hid hown7
          obtain ⟨ao7, ac7, rfl⟩ := own_form hown7
          clear hown7 hg7
          refine hK.out _ _ HS7.out (fun hHeld => ?_)
          clear hK K
          try simp only [List.getElem_toArray, List.getElem_cons_succ, List.getElem_cons_zero, Act.put, List.setIfInBounds_toArray, List.set_cons_zero, List.set_cons_succ]
          refine wpAnyH_ready (rs := [11]) (by kernel_rfl) (by simp) ?_
          refine (AllReadyH.cons rfl (fun K hK => ?_) AllReadyH.nil)
          refine wp_appNm (S := S) (Operand.tmp 31) (Operand.tmp 34) rfl w.heap.size (.slice ao7 ([] ++ [s]).length ac7) ([] ++ [s]) (by go_simp) HO7.out (by simp) _ [] (by go_simp) (.inl ⟨rfl, rfl⟩) (by simp) HS7.out.size ?_
          intro v' w11 hown11 hg11
          have HS11 : Hid (Below w.heap.size w w11) := HS7.out.grown hg11 HS7.out.size (fun x hx => (HO7.out.lt hx).1)
          have HFIN := Lib.hid (HRES.out v' w11 hown11 HS11.out)
          obtain ⟨n9, hn9⟩ : ∃ n9, n9 = (([] ++ [s]) ++ []).length := ⟨_, rfl⟩
          obtain ⟨ao9, ac9, e9⟩ := own_form hown11
          rw [← hn9] at e9
          subst e9
          clear hown11 hg11 hn9
          refine hK.out _ _ HS11.out (fun hHeld => ?_)
          clear hK K
          try simp only [List.getElem_toArray, List.getElem_cons_succ, List.getElem_cons_zero, Act.put, List.setIfInBounds_toArray, List.set_cons_zero, List.set_cons_succ]
          refine wpAnyH_take (i := 12) (v := Value.slice ao9 n9 ac9) rfl (by kernel_rfl) (by kernel_rfl) (by kernel_rfl) (fun _ _ _ h => h) (Or.inl ⟨rfl, fun w' hw' => ?_⟩) hHeld ?_
          · go_simp
          simp only [List.getElem_toArray, List.getElem_cons_succ, List.getElem_cons_zero, Act.put, List.setIfInBounds_toArray, List.set_cons_zero, List.set_cons_succ]
          refine wpAnyH_done (by kernel_rfl) ?_ _
          refine NoPanic.normal ?_
          clear hHeld
          go_wp2_with fail
          go_ret
          exact HFIN.out
    · have hlt0 := hc
      clear hSg hg hd
      go_enter Try.func48, Try.ntmps48
      go_wp2_with fail
      refine HIN.out.mono ?_
      rintro e w' ⟨rfl, rfl⟩
      go_wp2_with fail
      go_loopw [5] (fun iv wr => WhInv l s w iv wr) (fun iv _ => l.length - (intOf iv).toNat)
      case atStart => exact ⟨0, Nat.zero_le _, rfl, fun i h hi => by omega, rfl⟩
      case round =>
        obtain ⟨k, hkl, rfl, hlow, rfl⟩ := hrel
        have HLOW := Lib.hid hlow
        clear hlow
        by_cases hlt : k < l.length
        · have q1 : decide ((k : Int) < (l.length : Int)) = true := decide_eq_true (by omega)
          obtain ⟨g2, o2, e2, -, e0⟩ := HN.out.get k hlt
          injection e2 with e2
          injection e2 with e3 e4
          subst e3 e4
          have hle := less_eq l[k] s
          obtain ⟨x, hx⟩ : ∃ x, x = l[k] := ⟨_, rfl⟩
          rw [← hx] at e0 hle
          by_cases hxs : x.data.toList < s.data.toList
          · rw [decide_eq_true hxs] at hle
            have HNX : Hid (WhInv l s w (.int .i64 ((k : Int) + 1)) w) := ⟨k + 1, by omega, by go_num, fun i h hi => by
              by_cases hik : i = k
              · subst hik; rw [← hx]; exact hxs
              · exact HLOW.out i h (by omega), rfl⟩
            clear hx hxs
            go_wp2_with fail
            go_roundw
            case rel => exact HNX.out
            case measure => simp [intOf]; omega
          · rw [decide_eq_false hxs] at hle
            have HRES := Lib.hid (HRS.out k hkl HLOW.out (fun h => by rw [← hx]; exact hxs))
            obtain ⟨od, hod, hodv⟩ : ∃ od, (nc - k = 0 ∨ od = o + k) ∧ (if nc = k then o else o + k) = od := ⟨_, by by_cases h : nc = k <;> simp [h], rfl⟩
            have hnk : ¬ nc = k := by omega
            have hknc : k ≤ nc := by omega
            have hod2 : od = o + k := by rcases hod with h | h <;> omega
            subst hod2
            clear hx hxs HRS hodv
            go_upto_region 6 with fail
            have HS0 : Hid (Below w.heap.size w w.drew) := (Below.refl _ _).drew
            refine wp_region_noPanic ?_
            refine wp_region_held_drew (S := Below w.heap.size w) (by kernel_rfl) HS0.out (fun hHeld => ?_)
            generalize w.drew = X at HS0 hHeld ⊢
            refine wpAnyH_take (i := 1) (v := Value.slice (some ⟨g, o, none⟩) l.length nc) rfl (by kernel_rfl) (by kernel_rfl) (by kernel_rfl) (fun _ _ _ h => h) (Or.inl ⟨rfl, fun w' hw' => ?_⟩) hHeld ?_
            · go_simp
            simp only [List.getElem_toArray, List.getElem_cons_succ, List.getElem_cons_zero, Act.put, List.setIfInBounds_toArray, List.set_cons_zero, List.set_cons_succ]
            refine wpAnyH_take (i := 2) (v := Value.int .i64 (k : Int)) rfl (by kernel_rfl) (by kernel_rfl) (by kernel_rfl) (fun _ _ _ h => h) (Or.inl ⟨rfl, fun w' hw' => ?_⟩) hHeld ?_
            · go_simp
            simp only [List.getElem_toArray, List.getElem_cons_succ, List.getElem_cons_zero, Act.put, List.setIfInBounds_toArray, List.set_cons_zero, List.set_cons_succ]
            refine wpAnyH_take (i := 3) (v := Value.slice (some ⟨g, o, none⟩) k nc) rfl (by kernel_rfl) (by kernel_rfl) (by kernel_rfl) (fun _ _ _ h => h) (Or.inl ⟨rfl, fun w' hw' => ?_⟩) hHeld ?_
            · go_simp
            simp only [List.getElem_toArray, List.getElem_cons_succ, List.getElem_cons_zero, Act.put, List.setIfInBounds_toArray, List.set_cons_zero, List.set_cons_succ]
            refine wpAnyH_take (i := 5) (v := Value.string s) rfl (by kernel_rfl) (by kernel_rfl) (by kernel_rfl) (fun _ _ _ h => h) (Or.inl ⟨rfl, fun w' hw' => ?_⟩) hHeld ?_
            · go_simp
            simp only [List.getElem_toArray, List.getElem_cons_succ, List.getElem_cons_zero, Act.put, List.setIfInBounds_toArray, List.set_cons_zero, List.set_cons_succ]
            refine wpAnyH_take (i := 8) (v := Value.slice (some ⟨g, o, none⟩) l.length nc) rfl (by kernel_rfl) (by kernel_rfl) (by kernel_rfl) (fun _ _ _ h => h) (Or.inl ⟨rfl, fun w' hw' => ?_⟩) hHeld ?_
            · go_simp
            simp only [List.getElem_toArray, List.getElem_cons_succ, List.getElem_cons_zero, Act.put, List.setIfInBounds_toArray, List.set_cons_zero, List.set_cons_succ]
            refine wpAnyH_take (i := 9) (v := Value.int .i64 (k : Int)) rfl (by kernel_rfl) (by kernel_rfl) (by kernel_rfl) (fun _ _ _ h => h) (Or.inl ⟨rfl, fun w' hw' => ?_⟩) hHeld ?_
            · go_simp
            simp only [List.getElem_toArray, List.getElem_cons_succ, List.getElem_cons_zero, Act.put, List.setIfInBounds_toArray, List.set_cons_zero, List.set_cons_succ]
            refine wpAnyH_take (i := 10) (v := Value.slice (some ⟨g, o + k, none⟩) (l.length - k) (nc - k)) rfl (by kernel_rfl) (by kernel_rfl) (by kernel_rfl) (fun _ _ _ h => h) (Or.inl ⟨rfl, fun w' hw' => ?_⟩) hHeld ?_
            · go_simp
            simp only [List.getElem_toArray, List.getElem_cons_succ, List.getElem_cons_zero, Act.put, List.setIfInBounds_toArray, List.set_cons_zero, List.set_cons_succ]
            refine wpAnyH_ready (rs := [0, 6]) (by kernel_rfl) (by simp) ?_
            refine (AllReadyH.cons rfl (fun K hK => ?_) (AllReadyH.cons rfl (fun K hK => ?_) AllReadyH.nil))
            · skip
              go_simp
              have HS0a : Hid (Below w.heap.size w (X.alloc (.cells #[] 9))) := HS0.out.alloc HS0.out.size _
              have HO0 := Lib.hid (OwnN.lit w.heap.size X HS0.out.size)
              refine hK.out _ _ HS0a.out (fun hHeld => ?_)
              clear hK K
              try simp only [List.getElem_toArray, List.getElem_cons_succ, List.getElem_cons_zero, Act.put, List.setIfInBounds_toArray, List.set_cons_zero, List.set_cons_succ]
              generalize X.alloc (.cells #[] 9) = w0 at HS0a HO0 hHeld ⊢
              have hg0 : w.heap.size ≤ X.heap.size := HS0.out.size
              have hgl0 : X.heap.size < w0.heap.size := (HO0.out.lt rfl).2
              have HS0 := HS0a
              obtain ⟨g0, hg0e⟩ : ∃ g0, g0 = X.heap.size := ⟨_, rfl⟩
              rw [← hg0e] at HO0 hg0 hgl0
              simp only [← hg0e]
              have HG0 := Lib.hid hg0e
              clear hg0e
              refine wpAnyH_ready (rs := [4, 6]) (by kernel_rfl) (by simp) ?_
              refine (AllReadyH.cons rfl (fun K hK => ?_) (AllReadyH.cons rfl (fun K hK => ?_) AllReadyH.nil))
              · skip
                refine wp_appNs (S := S) (Operand.tmp 24) (Operand.tmp 27) rfl w.heap.size g0 0 (by go_simp) HO0.out _ (l.take k) rfl ((HN.out.keeps (Keeps.of_below HS0.out)).take k hkl) (by rw [List.length_take]; omega) HS0.out.size ?_
                intro v' w4 hown4 hg4
                have HS4 : Hid (Below w.heap.size w w4) := HS0.out.grown hg4 HS0.out.size (fun x hx => by injection hx with hx; subst hx; exact hg0)
                have HO4 := Lib.hid hown4
                obtain ⟨ao4, ac4, rfl⟩ := own_form hown4
                clear hown4 hg4
                refine hK.out _ _ HS4.out (fun hHeld => ?_)
                clear hK K
                try simp only [List.getElem_toArray, List.getElem_cons_succ, List.getElem_cons_zero, Act.put, List.setIfInBounds_toArray, List.set_cons_zero, List.set_cons_succ]
                refine wpAnyH_ready (rs := [6]) (by kernel_rfl) (by simp) ?_
                refine (AllReadyH.cons rfl (fun K hK => ?_) AllReadyH.nil)
                go_simp
                have HS6a : Hid (Below w.heap.size w (w4.alloc (.cells #[.string s] 9))) := HS4.out.alloc HS4.out.size _
                have HC6 : Hid ((w4.alloc (.cells #[.string s] 9)).cell? ⟨w4.heap.size, 0, none⟩ = some (.string s)) := (by show _ = _; rw [Lib.cell_of_heap (alloc_at _ _)]; rfl)
                have A6 := Lib.hid ((Below.refl w4.heap.size w4).alloc (Nat.le_refl _) (.cells #[.string s] 9))
                have HO4b := Lib.hid (HO4.out.below A6.out)
                refine hK.out _ _ HS6a.out (fun hHeld => ?_)
                clear hK K
                try simp only [List.getElem_toArray, List.getElem_cons_succ, List.getElem_cons_zero, Act.put, List.setIfInBounds_toArray, List.set_cons_zero, List.set_cons_succ]
                generalize w4.alloc (.cells #[.string s] 9) = w6 at HS6a HC6 A6 HO4b hHeld ⊢
                have hg6 : w4.heap.size < w6.heap.size := (World.block_lt_of_cell? w6 ⟨w4.heap.size, 0, none⟩ HC6.out)
                have HS6 := HS6a
                obtain ⟨g6, hg6e⟩ : ∃ g6, g6 = w4.heap.size := ⟨_, rfl⟩
                rw [← hg6e] at HC6 hg6
                simp only [← hg6e]
                clear hg6e
                refine wpAnyH_ready (rs := [7]) (by kernel_rfl) (by simp) ?_
                refine (AllReadyH.cons rfl (fun K hK => ?_) AllReadyH.nil)
                refine wp_appN1 (Operand.tmp 28) (Operand.tmp 30) rfl w.heap.size (.slice ao4 (l.take k).length ac4) (l.take k) (by go_simp) HO4b.out g6 (by go_simp) s HC6.out (by rw [List.length_take]; omega) HS6.out.size ?_
                intro v' w7 hown7 hg7
                have HS7 : Hid (Below w.heap.size w w7) := HS6.out.grown hg7 HS6.out.size (fun x hx => (HO4b.out.lt hx).1)
                have HO7 := Lib.hid hown7
                obtain ⟨ao7, ac7, rfl⟩ := own_form hown7
                clear hown7 hg7
                refine hK.out _ _ HS7.out (fun hHeld => ?_)
                clear hK K
                try simp only [List.getElem_toArray, List.getElem_cons_succ, List.getElem_cons_zero, Act.put, List.setIfInBounds_toArray, List.set_cons_zero, List.set_cons_succ]
                refine wpAnyH_ready (rs := [11]) (by kernel_rfl) (by simp) ?_
                refine (AllReadyH.cons rfl (fun K hK => ?_) AllReadyH.nil)
                refine wp_appNm (S := S) (Operand.tmp 31) (Operand.tmp 34) rfl w.heap.size (.slice ao7 (l.take k ++ [s]).length ac7) (l.take k ++ [s]) (by go_simp) HO7.out (by simp) _ (l.drop k) (by go_simp) ((HN.out.keeps (Keeps.of_below HS7.out)).drop k hkl (o + k) (nc - k) hod (by omega)) (by simp; omega) HS7.out.size ?_
                intro v' w11 hown11 hg11
                have HS11 : Hid (Below w.heap.size w w11) := HS7.out.grown hg11 HS7.out.size (fun x hx => (HO7.out.lt hx).1)
                have HFIN := Lib.hid (HRES.out v' w11 hown11 HS11.out)
                obtain ⟨n9, hn9⟩ : ∃ n9, n9 = ((l.take k ++ [s]) ++ (l.drop k)).length := ⟨_, rfl⟩
                obtain ⟨ao9, ac9, e9⟩ := own_form hown11
                rw [← hn9] at e9
                subst e9
                clear hown11 hg11 hn9
                refine hK.out _ _ HS11.out (fun hHeld => ?_)
                clear hK K
                try simp only [List.getElem_toArray, List.getElem_cons_succ, List.getElem_cons_zero, Act.put, List.setIfInBounds_toArray, List.set_cons_zero, List.set_cons_succ]
                refine wpAnyH_take (i := 12) (v := Value.slice ao9 n9 ac9) rfl (by kernel_rfl) (by kernel_rfl) (by kernel_rfl) (fun _ _ _ h => h) (Or.inl ⟨rfl, fun w' hw' => ?_⟩) hHeld ?_
                · go_simp
                simp only [List.getElem_toArray, List.getElem_cons_succ, List.getElem_cons_zero, Act.put, List.setIfInBounds_toArray, List.set_cons_zero, List.set_cons_succ]
                refine wpAnyH_done (by kernel_rfl) ?_ _
                refine NoPanic.normal ?_
                clear hHeld
                go_wp2_with fail
                go_ret
                exact HFIN.out
              · skip
                go_simp
                have HS6a : Hid (Below w.heap.size w (w0.alloc (.cells #[.string s] 9))) := HS0.out.alloc HS0.out.size _
                have HC6 : Hid ((w0.alloc (.cells #[.string s] 9)).cell? ⟨w0.heap.size, 0, none⟩ = some (.string s)) := (by show _ = _; rw [Lib.cell_of_heap (alloc_at _ _)]; rfl)
                have A6 := Lib.hid ((Below.refl w0.heap.size w0).alloc (Nat.le_refl _) (.cells #[.string s] 9))
                have HO0b := Lib.hid (HO0.out.below A6.out)
                refine hK.out _ _ HS6a.out (fun hHeld => ?_)
                clear hK K
                try simp only [List.getElem_toArray, List.getElem_cons_succ, List.getElem_cons_zero, Act.put, List.setIfInBounds_toArray, List.set_cons_zero, List.set_cons_succ]
                generalize w0.alloc (.cells #[.string s] 9) = w6 at HS6a HC6 A6 HO0b hHeld ⊢
                have hg6 : w0.heap.size < w6.heap.size := (World.block_lt_of_cell? w6 ⟨w0.heap.size, 0, none⟩ HC6.out)
                have HS6 := HS6a
                obtain ⟨g6, hg6e⟩ : ∃ g6, g6 = w0.heap.size := ⟨_, rfl⟩
                rw [← hg6e] at HC6 hg6
                simp only [← hg6e]
                have hne : g6 ≠ g0 := by omega
                clear hg6e
                refine wpAnyH_ready (rs := [4]) (by kernel_rfl) (by simp) ?_
                refine (AllReadyH.cons rfl (fun K hK => ?_) AllReadyH.nil)
                refine wp_appNs (S := S) (Operand.tmp 24) (Operand.tmp 27) rfl w.heap.size g0 0 (by go_simp) HO0b.out _ (l.take k) rfl ((HN.out.keeps (Keeps.of_below HS6.out)).take k hkl) (by rw [List.length_take]; omega) HS6.out.size ?_
                intro v' w4 hown4 hg4
                have HS4 : Hid (Below w.heap.size w w4) := HS6.out.grown hg4 HS6.out.size (fun x hx => by injection hx with hx; subst hx; exact hg0)
                have HO4 := Lib.hid hown4
                obtain ⟨ao4, ac4, rfl⟩ := own_form hown4
                have HC6b : Hid (w4.cell? ⟨g6, 0, none⟩ = some (.string s)) := (World.cell?_of_block (a := ⟨g6, 0, none⟩) (hg4.block g6 hg6 (fun e => by injection e with e; exact hne e))).trans HC6.out
                clear hown4 hg4
                refine hK.out _ _ HS4.out (fun hHeld => ?_)
                clear hK K
                try simp only [List.getElem_toArray, List.getElem_cons_succ, List.getElem_cons_zero, Act.put, List.setIfInBounds_toArray, List.set_cons_zero, List.set_cons_succ]
                refine wpAnyH_ready (rs := [7]) (by kernel_rfl) (by simp) ?_
                refine (AllReadyH.cons rfl (fun K hK => ?_) AllReadyH.nil)
                refine wp_appN1 (Operand.tmp 28) (Operand.tmp 30) rfl w.heap.size (.slice ao4 (l.take k).length ac4) (l.take k) (by go_simp) HO4.out g6 (by go_simp) s HC6b.out (by rw [List.length_take]; omega) HS4.out.size ?_
                intro v' w7 hown7 hg7
                have HS7 : Hid (Below w.heap.size w w7) := HS4.out.grown hg7 HS4.out.size (fun x hx => (HO4.out.lt hx).1)
                have HO7 := Lib.hid hown7
                obtain ⟨ao7, ac7, rfl⟩ := own_form hown7
                clear hown7 hg7
                refine hK.out _ _ HS7.out (fun hHeld => ?_)
                clear hK K
                try simp only [List.getElem_toArray, List.getElem_cons_succ, List.getElem_cons_zero, Act.put, List.setIfInBounds_toArray, List.set_cons_zero, List.set_cons_succ]
                refine wpAnyH_ready (rs := [11]) (by kernel_rfl) (by simp) ?_
                refine (AllReadyH.cons rfl (fun K hK => ?_) AllReadyH.nil)
                refine wp_appNm (S := S) (Operand.tmp 31) (Operand.tmp 34) rfl w.heap.size (.slice ao7 (l.take k ++ [s]).length ac7) (l.take k ++ [s]) (by go_simp) HO7.out (by simp) _ (l.drop k) (by go_simp) ((HN.out.keeps (Keeps.of_below HS7.out)).drop k hkl (o + k) (nc - k) hod (by omega)) (by simp; omega) HS7.out.size ?_
                intro v' w11 hown11 hg11
                have HS11 : Hid (Below w.heap.size w w11) := HS7.out.grown hg11 HS7.out.size (fun x hx => (HO7.out.lt hx).1)
                have HFIN := Lib.hid (HRES.out v' w11 hown11 HS11.out)
                obtain ⟨n9, hn9⟩ : ∃ n9, n9 = ((l.take k ++ [s]) ++ (l.drop k)).length := ⟨_, rfl⟩
                obtain ⟨ao9, ac9, e9⟩ := own_form hown11
                rw [← hn9] at e9
                subst e9
                clear hown11 hg11 hn9
                refine hK.out _ _ HS11.out (fun hHeld => ?_)
                clear hK K
                try simp only [List.getElem_toArray, List.getElem_cons_succ, List.getElem_cons_zero, Act.put, List.setIfInBounds_toArray, List.set_cons_zero, List.set_cons_succ]
                refine wpAnyH_take (i := 12) (v := Value.slice ao9 n9 ac9) rfl (by kernel_rfl) (by kernel_rfl) (by kernel_rfl) (fun _ _ _ h => h) (Or.inl ⟨rfl, fun w' hw' => ?_⟩) hHeld ?_
                · go_simp
                simp only [List.getElem_toArray, List.getElem_cons_succ, List.getElem_cons_zero, Act.put, List.setIfInBounds_toArray, List.set_cons_zero, List.set_cons_succ]
                refine wpAnyH_done (by kernel_rfl) ?_ _
                refine NoPanic.normal ?_
                clear hHeld
                go_wp2_with fail
                go_ret
                exact HFIN.out
            · skip
              go_simp
              have HS6a : Hid (Below w.heap.size w (X.alloc (.cells #[.string s] 9))) := HS0.out.alloc HS0.out.size _
              have HC6 : Hid ((X.alloc (.cells #[.string s] 9)).cell? ⟨X.heap.size, 0, none⟩ = some (.string s)) := (by show _ = _; rw [Lib.cell_of_heap (alloc_at _ _)]; rfl)
              have A6 := Lib.hid ((Below.refl X.heap.size X).alloc (Nat.le_refl _) (.cells #[.string s] 9))
              refine hK.out _ _ HS6a.out (fun hHeld => ?_)
              clear hK K
              try simp only [List.getElem_toArray, List.getElem_cons_succ, List.getElem_cons_zero, Act.put, List.setIfInBounds_toArray, List.set_cons_zero, List.set_cons_succ]
              generalize X.alloc (.cells #[.string s] 9) = w6 at HS6a HC6 A6 hHeld ⊢
              have hg6 : X.heap.size < w6.heap.size := (World.block_lt_of_cell? w6 ⟨X.heap.size, 0, none⟩ HC6.out)
              have HS6 := HS6a
              obtain ⟨g6, hg6e⟩ : ∃ g6, g6 = X.heap.size := ⟨_, rfl⟩
              rw [← hg6e] at HC6 hg6
              simp only [← hg6e]
              clear hg6e
              refine wpAnyH_ready (rs := [0]) (by kernel_rfl) (by simp) ?_
              refine (AllReadyH.cons rfl (fun K hK => ?_) AllReadyH.nil)
              go_simp
              have HS0a : Hid (Below w.heap.size w (w6.alloc (.cells #[] 9))) := HS6.out.alloc HS6.out.size _
              have HO0 := Lib.hid (OwnN.lit w.heap.size w6 HS6.out.size)
              have HC60 : Hid ((w6.alloc (.cells #[] 9)).cell? ⟨g6, 0, none⟩ = some (.string s)) := cell_below ((Below.refl w6.heap.size w6).alloc (Nat.le_refl _) _) HC6.out
              have hg60 : g6 < (w6.alloc (.cells #[] 9)).heap.size := World.block_lt_of_cell? _ ⟨g6, 0, none⟩ HC60.out
              refine hK.out _ _ HS0a.out (fun hHeld => ?_)
              clear hK K
              try simp only [List.getElem_toArray, List.getElem_cons_succ, List.getElem_cons_zero, Act.put, List.setIfInBounds_toArray, List.set_cons_zero, List.set_cons_succ]
              generalize w6.alloc (.cells #[] 9) = w0 at HS0a HO0 HC60 hg60 hHeld ⊢
              have hg0 : w.heap.size ≤ w6.heap.size := HS6.out.size
              have hgl0 : w6.heap.size < w0.heap.size := (HO0.out.lt rfl).2
              have HS0 := HS0a
              obtain ⟨g0, hg0e⟩ : ∃ g0, g0 = w6.heap.size := ⟨_, rfl⟩
              rw [← hg0e] at HO0 hg0 hgl0
              simp only [← hg0e]
              have HG0 := Lib.hid hg0e
              have hne : g6 ≠ g0 := by have := HG0.out; omega
              clear hg0e
              refine wpAnyH_ready (rs := [4]) (by kernel_rfl) (by simp) ?_
              refine (AllReadyH.cons rfl (fun K hK => ?_) AllReadyH.nil)
              refine wp_appNs (S := S) (Operand.tmp 24) (Operand.tmp 27) rfl w.heap.size g0 0 (by go_simp) HO0.out _ (l.take k) rfl ((HN.out.keeps (Keeps.of_below HS0.out)).take k hkl) (by rw [List.length_take]; omega) HS0.out.size ?_
              intro v' w4 hown4 hg4
              have HS4 : Hid (Below w.heap.size w w4) := HS0.out.grown hg4 HS0.out.size (fun x hx => by injection hx with hx; subst hx; exact hg0)
              have HO4 := Lib.hid hown4
              obtain ⟨ao4, ac4, rfl⟩ := own_form hown4
              have HC6b : Hid (w4.cell? ⟨g6, 0, none⟩ = some (.string s)) := (World.cell?_of_block (a := ⟨g6, 0, none⟩) (hg4.block g6 hg60 (fun e => by injection e with e; exact hne e))).trans HC60.out
              clear hown4 hg4
              refine hK.out _ _ HS4.out (fun hHeld => ?_)
              clear hK K
              try simp only [List.getElem_toArray, List.getElem_cons_succ, List.getElem_cons_zero, Act.put, List.setIfInBounds_toArray, List.set_cons_zero, List.set_cons_succ]
              refine wpAnyH_ready (rs := [7]) (by kernel_rfl) (by simp) ?_
              refine (AllReadyH.cons rfl (fun K hK => ?_) AllReadyH.nil)
              refine wp_appN1 (Operand.tmp 28) (Operand.tmp 30) rfl w.heap.size (.slice ao4 (l.take k).length ac4) (l.take k) (by go_simp) HO4.out g6 (by go_simp) s HC6b.out (by rw [List.length_take]; omega) HS4.out.size ?_
              intro v' w7 hown7 hg7
              have HS7 : Hid (Below w.heap.size w w7) := HS4.out.grown hg7 HS4.out.size (fun x hx => (HO4.out.lt hx).1)
              have HO7 := Lib.hid hown7
              obtain ⟨ao7, ac7, rfl⟩ := own_form hown7
              clear hown7 hg7
              refine hK.out _ _ HS7.out (fun hHeld => ?_)
              clear hK K
              try simp only [List.getElem_toArray, List.getElem_cons_succ, List.getElem_cons_zero, Act.put, List.setIfInBounds_toArray, List.set_cons_zero, List.set_cons_succ]
              refine wpAnyH_ready (rs := [11]) (by kernel_rfl) (by simp) ?_
              refine (AllReadyH.cons rfl (fun K hK => ?_) AllReadyH.nil)
              refine wp_appNm (S := S) (Operand.tmp 31) (Operand.tmp 34) rfl w.heap.size (.slice ao7 (l.take k ++ [s]).length ac7) (l.take k ++ [s]) (by go_simp) HO7.out (by simp) _ (l.drop k) (by go_simp) ((HN.out.keeps (Keeps.of_below HS7.out)).drop k hkl (o + k) (nc - k) hod (by omega)) (by simp; omega) HS7.out.size ?_
              intro v' w11 hown11 hg11
              have HS11 : Hid (Below w.heap.size w w11) := HS7.out.grown hg11 HS7.out.size (fun x hx => (HO7.out.lt hx).1)
              have HFIN := Lib.hid (HRES.out v' w11 hown11 HS11.out)
              obtain ⟨n9, hn9⟩ : ∃ n9, n9 = ((l.take k ++ [s]) ++ (l.drop k)).length := ⟨_, rfl⟩
              obtain ⟨ao9, ac9, e9⟩ := own_form hown11
              rw [← hn9] at e9
              subst e9
              clear hown11 hg11 hn9
              refine hK.out _ _ HS11.out (fun hHeld => ?_)
              clear hK K
              try simp only [List.getElem_toArray, List.getElem_cons_succ, List.getElem_cons_zero, Act.put, List.setIfInBounds_toArray, List.set_cons_zero, List.set_cons_succ]
              refine wpAnyH_take (i := 12) (v := Value.slice ao9 n9 ac9) rfl (by kernel_rfl) (by kernel_rfl) (by kernel_rfl) (fun _ _ _ h => h) (Or.inl ⟨rfl, fun w' hw' => ?_⟩) hHeld ?_
              · go_simp
              simp only [List.getElem_toArray, List.getElem_cons_succ, List.getElem_cons_zero, Act.put, List.setIfInBounds_toArray, List.set_cons_zero, List.set_cons_succ]
              refine wpAnyH_done (by kernel_rfl) ?_ _
              refine NoPanic.normal ?_
              clear hHeld
              go_wp2_with fail
              go_ret
              exact HFIN.out
        · have q1 : decide ((k : Int) < (l.length : Int)) = false := decide_eq_false (by omega)
          have HRES := Lib.hid (HRS.out k hkl HLOW.out (fun h => absurd h hlt))
          clear HRS
          by_cases hnk : nc = k
          · subst hnk
            go_upto_region 6 with fail
            have HS0 : Hid (Below w.heap.size w w.drew) := (Below.refl _ _).drew
            refine wp_region_noPanic ?_
            refine wp_region_held_drew (S := Below w.heap.size w) (by kernel_rfl) HS0.out (fun hHeld => ?_)
            generalize w.drew = X at HS0 hHeld ⊢
            refine wpAnyH_take (i := 1) (v := Value.slice (some ⟨g, o, none⟩) l.length nc) rfl (by kernel_rfl) (by kernel_rfl) (by kernel_rfl) (fun _ _ _ h => h) (Or.inl ⟨rfl, fun w' hw' => ?_⟩) hHeld ?_
            · go_simp
            simp only [List.getElem_toArray, List.getElem_cons_succ, List.getElem_cons_zero, Act.put, List.setIfInBounds_toArray, List.set_cons_zero, List.set_cons_succ]
            refine wpAnyH_take (i := 2) (v := Value.int .i64 (nc : Int)) rfl (by kernel_rfl) (by kernel_rfl) (by kernel_rfl) (fun _ _ _ h => h) (Or.inl ⟨rfl, fun w' hw' => ?_⟩) hHeld ?_
            · go_simp
            simp only [List.getElem_toArray, List.getElem_cons_succ, List.getElem_cons_zero, Act.put, List.setIfInBounds_toArray, List.set_cons_zero, List.set_cons_succ]
            refine wpAnyH_take (i := 3) (v := Value.slice (some ⟨g, o, none⟩) nc nc) rfl (by kernel_rfl) (by kernel_rfl) (by kernel_rfl) (fun _ _ _ h => h) (Or.inl ⟨rfl, fun w' hw' => ?_⟩) hHeld ?_
            · go_simp
            simp only [List.getElem_toArray, List.getElem_cons_succ, List.getElem_cons_zero, Act.put, List.setIfInBounds_toArray, List.set_cons_zero, List.set_cons_succ]
            refine wpAnyH_take (i := 5) (v := Value.string s) rfl (by kernel_rfl) (by kernel_rfl) (by kernel_rfl) (fun _ _ _ h => h) (Or.inl ⟨rfl, fun w' hw' => ?_⟩) hHeld ?_
            · go_simp
            simp only [List.getElem_toArray, List.getElem_cons_succ, List.getElem_cons_zero, Act.put, List.setIfInBounds_toArray, List.set_cons_zero, List.set_cons_succ]
            refine wpAnyH_take (i := 8) (v := Value.slice (some ⟨g, o, none⟩) l.length nc) rfl (by kernel_rfl) (by kernel_rfl) (by kernel_rfl) (fun _ _ _ h => h) (Or.inl ⟨rfl, fun w' hw' => ?_⟩) hHeld ?_
            · go_simp
            simp only [List.getElem_toArray, List.getElem_cons_succ, List.getElem_cons_zero, Act.put, List.setIfInBounds_toArray, List.set_cons_zero, List.set_cons_succ]
            refine wpAnyH_take (i := 9) (v := Value.int .i64 (nc : Int)) rfl (by kernel_rfl) (by kernel_rfl) (by kernel_rfl) (fun _ _ _ h => h) (Or.inl ⟨rfl, fun w' hw' => ?_⟩) hHeld ?_
            · go_simp
            simp only [List.getElem_toArray, List.getElem_cons_succ, List.getElem_cons_zero, Act.put, List.setIfInBounds_toArray, List.set_cons_zero, List.set_cons_succ]
            refine wpAnyH_take (i := 10) (v := Value.slice (some ⟨g, o, none⟩) (l.length - nc) 0) rfl (by kernel_rfl) (by kernel_rfl) (by kernel_rfl) (fun _ _ _ h => h) (Or.inl ⟨rfl, fun w' hw' => ?_⟩) hHeld ?_
            · go_simp
            simp only [List.getElem_toArray, List.getElem_cons_succ, List.getElem_cons_zero, Act.put, List.setIfInBounds_toArray, List.set_cons_zero, List.set_cons_succ]
            refine wpAnyH_ready (rs := [0, 6]) (by kernel_rfl) (by simp) ?_
            refine (AllReadyH.cons rfl (fun K hK => ?_) (AllReadyH.cons rfl (fun K hK => ?_) AllReadyH.nil))
            · skip
              go_simp
              have HS0a : Hid (Below w.heap.size w (X.alloc (.cells #[] 9))) := HS0.out.alloc HS0.out.size _
              have HO0 := Lib.hid (OwnN.lit w.heap.size X HS0.out.size)
              refine hK.out _ _ HS0a.out (fun hHeld => ?_)
              clear hK K
              try simp only [List.getElem_toArray, List.getElem_cons_succ, List.getElem_cons_zero, Act.put, List.setIfInBounds_toArray, List.set_cons_zero, List.set_cons_succ]
              generalize X.alloc (.cells #[] 9) = w0 at HS0a HO0 hHeld ⊢
              have hg0 : w.heap.size ≤ X.heap.size := HS0.out.size
              have hgl0 : X.heap.size < w0.heap.size := (HO0.out.lt rfl).2
              have HS0 := HS0a
              obtain ⟨g0, hg0e⟩ : ∃ g0, g0 = X.heap.size := ⟨_, rfl⟩
              rw [← hg0e] at HO0 hg0 hgl0
              simp only [← hg0e]
              have HG0 := Lib.hid hg0e
              clear hg0e
              refine wpAnyH_ready (rs := [4, 6]) (by kernel_rfl) (by simp) ?_
              refine (AllReadyH.cons rfl (fun K hK => ?_) (AllReadyH.cons rfl (fun K hK => ?_) AllReadyH.nil))
              · skip
                refine wp_appNs (S := S) (Operand.tmp 24) (Operand.tmp 27) rfl w.heap.size g0 0 (by go_simp) HO0.out _ (l.take nc) rfl ((HN.out.keeps (Keeps.of_below HS0.out)).take nc hkl) (by rw [List.length_take]; omega) HS0.out.size ?_
                intro v' w4 hown4 hg4
                have HS4 : Hid (Below w.heap.size w w4) := HS0.out.grown hg4 HS0.out.size (fun x hx => by injection hx with hx; subst hx; exact hg0)
                have HO4 := Lib.hid hown4
                obtain ⟨ao4, ac4, rfl⟩ := own_form hown4
                clear hown4 hg4
                refine hK.out _ _ HS4.out (fun hHeld => ?_)
                clear hK K
                try simp only [List.getElem_toArray, List.getElem_cons_succ, List.getElem_cons_zero, Act.put, List.setIfInBounds_toArray, List.set_cons_zero, List.set_cons_succ]
                refine wpAnyH_ready (rs := [6]) (by kernel_rfl) (by simp) ?_
                refine (AllReadyH.cons rfl (fun K hK => ?_) AllReadyH.nil)
                go_simp
                have HS6a : Hid (Below w.heap.size w (w4.alloc (.cells #[.string s] 9))) := HS4.out.alloc HS4.out.size _
                have HC6 : Hid ((w4.alloc (.cells #[.string s] 9)).cell? ⟨w4.heap.size, 0, none⟩ = some (.string s)) := (by show _ = _; rw [Lib.cell_of_heap (alloc_at _ _)]; rfl)
                have A6 := Lib.hid ((Below.refl w4.heap.size w4).alloc (Nat.le_refl _) (.cells #[.string s] 9))
                have HO4b := Lib.hid (HO4.out.below A6.out)
                refine hK.out _ _ HS6a.out (fun hHeld => ?_)
                clear hK K
                try simp only [List.getElem_toArray, List.getElem_cons_succ, List.getElem_cons_zero, Act.put, List.setIfInBounds_toArray, List.set_cons_zero, List.set_cons_succ]
                generalize w4.alloc (.cells #[.string s] 9) = w6 at HS6a HC6 A6 HO4b hHeld ⊢
                have hg6 : w4.heap.size < w6.heap.size := (World.block_lt_of_cell? w6 ⟨w4.heap.size, 0, none⟩ HC6.out)
                have HS6 := HS6a
                obtain ⟨g6, hg6e⟩ : ∃ g6, g6 = w4.heap.size := ⟨_, rfl⟩
                rw [← hg6e] at HC6 hg6
                simp only [← hg6e]
                clear hg6e
                refine wpAnyH_ready (rs := [7]) (by kernel_rfl) (by simp) ?_
                refine (AllReadyH.cons rfl (fun K hK => ?_) AllReadyH.nil)
                refine wp_appN1 (Operand.tmp 28) (Operand.tmp 30) rfl w.heap.size (.slice ao4 (l.take nc).length ac4) (l.take nc) (by go_simp) HO4b.out g6 (by go_simp) s HC6.out (by rw [List.length_take]; omega) HS6.out.size ?_
                intro v' w7 hown7 hg7
                have HS7 : Hid (Below w.heap.size w w7) := HS6.out.grown hg7 HS6.out.size (fun x hx => (HO4b.out.lt hx).1)
                have HO7 := Lib.hid hown7
                obtain ⟨ao7, ac7, rfl⟩ := own_form hown7
                clear hown7 hg7
                refine hK.out _ _ HS7.out (fun hHeld => ?_)
                clear hK K
                try simp only [List.getElem_toArray, List.getElem_cons_succ, List.getElem_cons_zero, Act.put, List.setIfInBounds_toArray, List.set_cons_zero, List.set_cons_succ]
                refine wpAnyH_ready (rs := [11]) (by kernel_rfl) (by simp) ?_
                refine (AllReadyH.cons rfl (fun K hK => ?_) AllReadyH.nil)
                refine wp_appNm (S := S) (Operand.tmp 31) (Operand.tmp 34) rfl w.heap.size (.slice ao7 (l.take nc ++ [s]).length ac7) (l.take nc ++ [s]) (by go_simp) HO7.out (by simp) _ (l.drop nc) (by go_simp) ((HN.out.keeps (Keeps.of_below HS7.out)).drop nc hkl o 0 (.inl rfl) (by omega)) (by simp; omega) HS7.out.size ?_
                intro v' w11 hown11 hg11
                have HS11 : Hid (Below w.heap.size w w11) := HS7.out.grown hg11 HS7.out.size (fun x hx => (HO7.out.lt hx).1)
                have HFIN := Lib.hid (HRES.out v' w11 hown11 HS11.out)
                obtain ⟨n9, hn9⟩ : ∃ n9, n9 = ((l.take nc ++ [s]) ++ (l.drop nc)).length := ⟨_, rfl⟩
                obtain ⟨ao9, ac9, e9⟩ := own_form hown11
                rw [← hn9] at e9
                subst e9
                clear hown11 hg11 hn9
                refine hK.out _ _ HS11.out (fun hHeld => ?_)
                clear hK K
                try simp only [List.getElem_toArray, List.getElem_cons_succ, List.getElem_cons_zero, Act.put, List.setIfInBounds_toArray, List.set_cons_zero, List.set_cons_succ]
                refine wpAnyH_take (i := 12) (v := Value.slice ao9 n9 ac9) rfl (by kernel_rfl) (by kernel_rfl) (by kernel_rfl) (fun _ _ _ h => h) (Or.inl ⟨rfl, fun w' hw' => ?_⟩) hHeld ?_
                · go_simp
                simp only [List.getElem_toArray, List.getElem_cons_succ, List.getElem_cons_zero, Act.put, List.setIfInBounds_toArray, List.set_cons_zero, List.set_cons_succ]
                refine wpAnyH_done (by kernel_rfl) ?_ _
                refine NoPanic.normal ?_
                clear hHeld
                go_wp2_with fail
                go_ret
                exact HFIN.out
              · skip
                go_simp
                have HS6a : Hid (Below w.heap.size w (w0.alloc (.cells #[.string s] 9))) := HS0.out.alloc HS0.out.size _
                have HC6 : Hid ((w0.alloc (.cells #[.string s] 9)).cell? ⟨w0.heap.size, 0, none⟩ = some (.string s)) := (by show _ = _; rw [Lib.cell_of_heap (alloc_at _ _)]; rfl)
                have A6 := Lib.hid ((Below.refl w0.heap.size w0).alloc (Nat.le_refl _) (.cells #[.string s] 9))
                have HO0b := Lib.hid (HO0.out.below A6.out)
                refine hK.out _ _ HS6a.out (fun hHeld => ?_)
                clear hK K
                try simp only [List.getElem_toArray, List.getElem_cons_succ, List.getElem_cons_zero, Act.put, List.setIfInBounds_toArray, List.set_cons_zero, List.set_cons_succ]
                generalize w0.alloc (.cells #[.string s] 9) = w6 at HS6a HC6 A6 HO0b hHeld ⊢
                have hg6 : w0.heap.size < w6.heap.size := (World.block_lt_of_cell? w6 ⟨w0.heap.size, 0, none⟩ HC6.out)
                have HS6 := HS6a
                obtain ⟨g6, hg6e⟩ : ∃ g6, g6 = w0.heap.size := ⟨_, rfl⟩
                rw [← hg6e] at HC6 hg6
                simp only [← hg6e]
                have hne : g6 ≠ g0 := by omega
                clear hg6e
                refine wpAnyH_ready (rs := [4]) (by kernel_rfl) (by simp) ?_
                refine (AllReadyH.cons rfl (fun K hK => ?_) AllReadyH.nil)
                refine wp_appNs (S := S) (Operand.tmp 24) (Operand.tmp 27) rfl w.heap.size g0 0 (by go_simp) HO0b.out _ (l.take nc) rfl ((HN.out.keeps (Keeps.of_below HS6.out)).take nc hkl) (by rw [List.length_take]; omega) HS6.out.size ?_
                intro v' w4 hown4 hg4
                have HS4 : Hid (Below w.heap.size w w4) := HS6.out.grown hg4 HS6.out.size (fun x hx => by injection hx with hx; subst hx; exact hg0)
                have HO4 := Lib.hid hown4
                obtain ⟨ao4, ac4, rfl⟩ := own_form hown4
                have HC6b : Hid (w4.cell? ⟨g6, 0, none⟩ = some (.string s)) := (World.cell?_of_block (a := ⟨g6, 0, none⟩) (hg4.block g6 hg6 (fun e => by injection e with e; exact hne e))).trans HC6.out
                clear hown4 hg4
                refine hK.out _ _ HS4.out (fun hHeld => ?_)
                clear hK K
                try simp only [List.getElem_toArray, List.getElem_cons_succ, List.getElem_cons_zero, Act.put, List.setIfInBounds_toArray, List.set_cons_zero, List.set_cons_succ]
                refine wpAnyH_ready (rs := [7]) (by kernel_rfl) (by simp) ?_
                refine (AllReadyH.cons rfl (fun K hK => ?_) AllReadyH.nil)
                refine wp_appN1 (Operand.tmp 28) (Operand.tmp 30) rfl w.heap.size (.slice ao4 (l.take nc).length ac4) (l.take nc) (by go_simp) HO4.out g6 (by go_simp) s HC6b.out (by rw [List.length_take]; omega) HS4.out.size ?_
                intro v' w7 hown7 hg7
                have HS7 : Hid (Below w.heap.size w w7) := HS4.out.grown hg7 HS4.out.size (fun x hx => (HO4.out.lt hx).1)
                have HO7 := Lib.hid hown7
                obtain ⟨ao7, ac7, rfl⟩ := own_form hown7
                clear hown7 hg7
                refine hK.out _ _ HS7.out (fun hHeld => ?_)
                clear hK K
                try simp only [List.getElem_toArray, List.getElem_cons_succ, List.getElem_cons_zero, Act.put, List.setIfInBounds_toArray, List.set_cons_zero, List.set_cons_succ]
                refine wpAnyH_ready (rs := [11]) (by kernel_rfl) (by simp) ?_
                refine (AllReadyH.cons rfl (fun K hK => ?_) AllReadyH.nil)
                refine wp_appNm (S := S) (Operand.tmp 31) (Operand.tmp 34) rfl w.heap.size (.slice ao7 (l.take nc ++ [s]).length ac7) (l.take nc ++ [s]) (by go_simp) HO7.out (by simp) _ (l.drop nc) (by go_simp) ((HN.out.keeps (Keeps.of_below HS7.out)).drop nc hkl o 0 (.inl rfl) (by omega)) (by simp; omega) HS7.out.size ?_
                intro v' w11 hown11 hg11
                have HS11 : Hid (Below w.heap.size w w11) := HS7.out.grown hg11 HS7.out.size (fun x hx => (HO7.out.lt hx).1)
                have HFIN := Lib.hid (HRES.out v' w11 hown11 HS11.out)
                obtain ⟨n9, hn9⟩ : ∃ n9, n9 = ((l.take nc ++ [s]) ++ (l.drop nc)).length := ⟨_, rfl⟩
                obtain ⟨ao9, ac9, e9⟩ := own_form hown11
                rw [← hn9] at e9
                subst e9
                clear hown11 hg11 hn9
                refine hK.out _ _ HS11.out (fun hHeld => ?_)
                clear hK K
                try simp only [List.getElem_toArray, List.getElem_cons_succ, List.getElem_cons_zero, Act.put, List.setIfInBounds_toArray, List.set_cons_zero, List.set_cons_succ]
                refine wpAnyH_take (i := 12) (v := Value.slice ao9 n9 ac9) rfl (by kernel_rfl) (by kernel_rfl) (by kernel_rfl) (fun _ _ _ h => h) (Or.inl ⟨rfl, fun w' hw' => ?_⟩) hHeld ?_
                · go_simp
                simp only [List.getElem_toArray, List.getElem_cons_succ, List.getElem_cons_zero, Act.put, List.setIfInBounds_toArray, List.set_cons_zero, List.set_cons_succ]
                refine wpAnyH_done (by kernel_rfl) ?_ _
                refine NoPanic.normal ?_
                clear hHeld
                go_wp2_with fail
                go_ret
                exact HFIN.out
            · skip
              go_simp
              have HS6a : Hid (Below w.heap.size w (X.alloc (.cells #[.string s] 9))) := HS0.out.alloc HS0.out.size _
              have HC6 : Hid ((X.alloc (.cells #[.string s] 9)).cell? ⟨X.heap.size, 0, none⟩ = some (.string s)) := (by show _ = _; rw [Lib.cell_of_heap (alloc_at _ _)]; rfl)
              have A6 := Lib.hid ((Below.refl X.heap.size X).alloc (Nat.le_refl _) (.cells #[.string s] 9))
              refine hK.out _ _ HS6a.out (fun hHeld => ?_)
              clear hK K
              try simp only [List.getElem_toArray, List.getElem_cons_succ, List.getElem_cons_zero, Act.put, List.setIfInBounds_toArray, List.set_cons_zero, List.set_cons_succ]
              generalize X.alloc (.cells #[.string s] 9) = w6 at HS6a HC6 A6 hHeld ⊢
              have hg6 : X.heap.size < w6.heap.size := (World.block_lt_of_cell? w6 ⟨X.heap.size, 0, none⟩ HC6.out)
              have HS6 := HS6a
              obtain ⟨g6, hg6e⟩ : ∃ g6, g6 = X.heap.size := ⟨_, rfl⟩
              rw [← hg6e] at HC6 hg6
              simp only [← hg6e]
              clear hg6e
              refine wpAnyH_ready (rs := [0]) (by kernel_rfl) (by simp) ?_
              refine (AllReadyH.cons rfl (fun K hK => ?_) AllReadyH.nil)
              go_simp
              have HS0a : Hid (Below w.heap.size w (w6.alloc (.cells #[] 9))) := HS6.out.alloc HS6.out.size _
              have HO0 := Lib.hid (OwnN.lit w.heap.size w6 HS6.out.size)
              have HC60 : Hid ((w6.alloc (.cells #[] 9)).cell? ⟨g6, 0, none⟩ = some (.string s)) := cell_below ((Below.refl w6.heap.size w6).alloc (Nat.le_refl _) _) HC6.out
              have hg60 : g6 < (w6.alloc (.cells #[] 9)).heap.size := World.block_lt_of_cell? _ ⟨g6, 0, none⟩ HC60.out
              refine hK.out _ _ HS0a.out (fun hHeld => ?_)
              clear hK K
              try simp only [List.getElem_toArray, List.getElem_cons_succ, List.getElem_cons_zero, Act.put, List.setIfInBounds_toArray, List.set_cons_zero, List.set_cons_succ]
              generalize w6.alloc (.cells #[] 9) = w0 at HS0a HO0 HC60 hg60 hHeld ⊢
              have hg0 : w.heap.size ≤ w6.heap.size := HS6.out.size
              have hgl0 : w6.heap.size < w0.heap.size := (HO0.out.lt rfl).2
              have HS0 := HS0a
              obtain ⟨g0, hg0e⟩ : ∃ g0, g0 = w6.heap.size := ⟨_, rfl⟩
              rw [← hg0e] at HO0 hg0 hgl0
              simp only [← hg0e]
              have HG0 := Lib.hid hg0e
              have hne : g6 ≠ g0 := by have := HG0.out; omega
              clear hg0e
              refine wpAnyH_ready (rs := [4]) (by kernel_rfl) (by simp) ?_
              refine (AllReadyH.cons rfl (fun K hK => ?_) AllReadyH.nil)
              refine wp_appNs (S := S) (Operand.tmp 24) (Operand.tmp 27) rfl w.heap.size g0 0 (by go_simp) HO0.out _ (l.take nc) rfl ((HN.out.keeps (Keeps.of_below HS0.out)).take nc hkl) (by rw [List.length_take]; omega) HS0.out.size ?_
              intro v' w4 hown4 hg4
              have HS4 : Hid (Below w.heap.size w w4) := HS0.out.grown hg4 HS0.out.size (fun x hx => by injection hx with hx; subst hx; exact hg0)
              have HO4 := Lib.hid hown4
              obtain ⟨ao4, ac4, rfl⟩ := own_form hown4
              have HC6b : Hid (w4.cell? ⟨g6, 0, none⟩ = some (.string s)) := (World.cell?_of_block (a := ⟨g6, 0, none⟩) (hg4.block g6 hg60 (fun e => by injection e with e; exact hne e))).trans HC60.out
              clear hown4 hg4
              refine hK.out _ _ HS4.out (fun hHeld => ?_)
              clear hK K
              try simp only [List.getElem_toArray, List.getElem_cons_succ, List.getElem_cons_zero, Act.put, List.setIfInBounds_toArray, List.set_cons_zero, List.set_cons_succ]
              refine wpAnyH_ready (rs := [7]) (by kernel_rfl) (by simp) ?_
              refine (AllReadyH.cons rfl (fun K hK => ?_) AllReadyH.nil)
              refine wp_appN1 (Operand.tmp 28) (Operand.tmp 30) rfl w.heap.size (.slice ao4 (l.take nc).length ac4) (l.take nc) (by go_simp) HO4.out g6 (by go_simp) s HC6b.out (by rw [List.length_take]; omega) HS4.out.size ?_
              intro v' w7 hown7 hg7
              have HS7 : Hid (Below w.heap.size w w7) := HS4.out.grown hg7 HS4.out.size (fun x hx => (HO4.out.lt hx).1)
              have HO7 := Lib.hid hown7
              obtain ⟨ao7, ac7, rfl⟩ := own_form hown7
              clear hown7 hg7
              refine hK.out _ _ HS7.out (fun hHeld => ?_)
              clear hK K
              try simp only [List.getElem_toArray, List.getElem_cons_succ, List.getElem_cons_zero, Act.put, List.setIfInBounds_toArray, List.set_cons_zero, List.set_cons_succ]
              refine wpAnyH_ready (rs := [11]) (by kernel_rfl) (by simp) ?_
              refine (AllReadyH.cons rfl (fun K hK => ?_) AllReadyH.nil)
              refine wp_appNm (S := S) (Operand.tmp 31) (Operand.tmp 34) rfl w.heap.size (.slice ao7 (l.take nc ++ [s]).length ac7) (l.take nc ++ [s]) (by go_simp) HO7.out (by simp) _ (l.drop nc) (by go_simp) ((HN.out.keeps (Keeps.of_below HS7.out)).drop nc hkl o 0 (.inl rfl) (by omega)) (by simp; omega) HS7.out.size ?_
              intro v' w11 hown11 hg11
              have HS11 : Hid (Below w.heap.size w w11) := HS7.out.grown hg11 HS7.out.size (fun x hx => (HO7.out.lt hx).1)
              have HFIN := Lib.hid (HRES.out v' w11 hown11 HS11.out)
              obtain ⟨n9, hn9⟩ : ∃ n9, n9 = ((l.take nc ++ [s]) ++ (l.drop nc)).length := ⟨_, rfl⟩
              obtain ⟨ao9, ac9, e9⟩ := own_form hown11
              rw [← hn9] at e9
              subst e9
              clear hown11 hg11 hn9
              refine hK.out _ _ HS11.out (fun hHeld => ?_)
              clear hK K
              try simp only [List.getElem_toArray, List.getElem_cons_succ, List.getElem_cons_zero, Act.put, List.setIfInBounds_toArray, List.set_cons_zero, List.set_cons_succ]
              refine wpAnyH_take (i := 12) (v := Value.slice ao9 n9 ac9) rfl (by kernel_rfl) (by kernel_rfl) (by kernel_rfl) (fun _ _ _ h => h) (Or.inl ⟨rfl, fun w' hw' => ?_⟩) hHeld ?_
              · go_simp
              simp only [List.getElem_toArray, List.getElem_cons_succ, List.getElem_cons_zero, Act.put, List.setIfInBounds_toArray, List.set_cons_zero, List.set_cons_succ]
              refine wpAnyH_done (by kernel_rfl) ?_ _
              refine NoPanic.normal ?_
              clear hHeld
              go_wp2_with fail
              go_ret
              exact HFIN.out
          · have hod : nc - k = 0 ∨ o + k = o + k := .inr rfl
            have hknc : k ≤ nc := by omega
            go_upto_region 6 with fail
            have HS0 : Hid (Below w.heap.size w w.drew) := (Below.refl _ _).drew
            refine wp_region_noPanic ?_
            refine wp_region_held_drew (S := Below w.heap.size w) (by kernel_rfl) HS0.out (fun hHeld => ?_)
            generalize w.drew = X at HS0 hHeld ⊢
            refine wpAnyH_take (i := 1) (v := Value.slice (some ⟨g, o, none⟩) l.length nc) rfl (by kernel_rfl) (by kernel_rfl) (by kernel_rfl) (fun _ _ _ h => h) (Or.inl ⟨rfl, fun w' hw' => ?_⟩) hHeld ?_
            · go_simp
            simp only [List.getElem_toArray, List.getElem_cons_succ, List.getElem_cons_zero, Act.put, List.setIfInBounds_toArray, List.set_cons_zero, List.set_cons_succ]
            refine wpAnyH_take (i := 2) (v := Value.int .i64 (k : Int)) rfl (by kernel_rfl) (by kernel_rfl) (by kernel_rfl) (fun _ _ _ h => h) (Or.inl ⟨rfl, fun w' hw' => ?_⟩) hHeld ?_
            · go_simp
            simp only [List.getElem_toArray, List.getElem_cons_succ, List.getElem_cons_zero, Act.put, List.setIfInBounds_toArray, List.set_cons_zero, List.set_cons_succ]
            refine wpAnyH_take (i := 3) (v := Value.slice (some ⟨g, o, none⟩) k nc) rfl (by kernel_rfl) (by kernel_rfl) (by kernel_rfl) (fun _ _ _ h => h) (Or.inl ⟨rfl, fun w' hw' => ?_⟩) hHeld ?_
            · go_simp
            simp only [List.getElem_toArray, List.getElem_cons_succ, List.getElem_cons_zero, Act.put, List.setIfInBounds_toArray, List.set_cons_zero, List.set_cons_succ]
            refine wpAnyH_take (i := 5) (v := Value.string s) rfl (by kernel_rfl) (by kernel_rfl) (by kernel_rfl) (fun _ _ _ h => h) (Or.inl ⟨rfl, fun w' hw' => ?_⟩) hHeld ?_
            · go_simp
            simp only [List.getElem_toArray, List.getElem_cons_succ, List.getElem_cons_zero, Act.put, List.setIfInBounds_toArray, List.set_cons_zero, List.set_cons_succ]
            refine wpAnyH_take (i := 8) (v := Value.slice (some ⟨g, o, none⟩) l.length nc) rfl (by kernel_rfl) (by kernel_rfl) (by kernel_rfl) (fun _ _ _ h => h) (Or.inl ⟨rfl, fun w' hw' => ?_⟩) hHeld ?_
            · go_simp
            simp only [List.getElem_toArray, List.getElem_cons_succ, List.getElem_cons_zero, Act.put, List.setIfInBounds_toArray, List.set_cons_zero, List.set_cons_succ]
            refine wpAnyH_take (i := 9) (v := Value.int .i64 (k : Int)) rfl (by kernel_rfl) (by kernel_rfl) (by kernel_rfl) (fun _ _ _ h => h) (Or.inl ⟨rfl, fun w' hw' => ?_⟩) hHeld ?_
            · go_simp
            simp only [List.getElem_toArray, List.getElem_cons_succ, List.getElem_cons_zero, Act.put, List.setIfInBounds_toArray, List.set_cons_zero, List.set_cons_succ]
            refine wpAnyH_take (i := 10) (v := Value.slice (some ⟨g, o + k, none⟩) (l.length - k) (nc - k)) rfl (by kernel_rfl) (by kernel_rfl) (by kernel_rfl) (fun _ _ _ h => h) (Or.inl ⟨rfl, fun w' hw' => ?_⟩) hHeld ?_
            · go_simp
            simp only [List.getElem_toArray, List.getElem_cons_succ, List.getElem_cons_zero, Act.put, List.setIfInBounds_toArray, List.set_cons_zero, List.set_cons_succ]
            refine wpAnyH_ready (rs := [0, 6]) (by kernel_rfl) (by simp) ?_
            refine (AllReadyH.cons rfl (fun K hK => ?_) (AllReadyH.cons rfl (fun K hK => ?_) AllReadyH.nil))
            · skip
              go_simp
              have HS0a : Hid (Below w.heap.size w (X.alloc (.cells #[] 9))) := HS0.out.alloc HS0.out.size _
              have HO0 := Lib.hid (OwnN.lit w.heap.size X HS0.out.size)
              refine hK.out _ _ HS0a.out (fun hHeld => ?_)
              clear hK K
              try simp only [List.getElem_toArray, List.getElem_cons_succ, List.getElem_cons_zero, Act.put, List.setIfInBounds_toArray, List.set_cons_zero, List.set_cons_succ]
              generalize X.alloc (.cells #[] 9) = w0 at HS0a HO0 hHeld ⊢
              have hg0 : w.heap.size ≤ X.heap.size := HS0.out.size
              have hgl0 : X.heap.size < w0.heap.size := (HO0.out.lt rfl).2
              have HS0 := HS0a
              obtain ⟨g0, hg0e⟩ : ∃ g0, g0 = X.heap.size := ⟨_, rfl⟩
              rw [← hg0e] at HO0 hg0 hgl0
              simp only [← hg0e]
              have HG0 := Lib.hid hg0e
              clear hg0e
              refine wpAnyH_ready (rs := [4, 6]) (by kernel_rfl) (by simp) ?_
              refine (AllReadyH.cons rfl (fun K hK => ?_) (AllReadyH.cons rfl (fun K hK => ?_) AllReadyH.nil))
              · skip
                refine wp_appNs (S := S) (Operand.tmp 24) (Operand.tmp 27) rfl w.heap.size g0 0 (by go_simp) HO0.out _ (l.take k) rfl ((HN.out.keeps (Keeps.of_below HS0.out)).take k hkl) (by rw [List.length_take]; omega) HS0.out.size ?_
                intro v' w4 hown4 hg4
                have HS4 : Hid (Below w.heap.size w w4) := HS0.out.grown hg4 HS0.out.size (fun x hx => by injection hx with hx; subst hx; exact hg0)
                have HO4 := Lib.hid hown4
                obtain ⟨ao4, ac4, rfl⟩ := own_form hown4
                clear hown4 hg4
                refine hK.out _ _ HS4.out (fun hHeld => ?_)
                clear hK K
                try simp only [List.getElem_toArray, List.getElem_cons_succ, List.getElem_cons_zero, Act.put, List.setIfInBounds_toArray, List.set_cons_zero, List.set_cons_succ]
                refine wpAnyH_ready (rs := [6]) (by kernel_rfl) (by simp) ?_
                refine (AllReadyH.cons rfl (fun K hK => ?_) AllReadyH.nil)
                go_simp
                have HS6a : Hid (Below w.heap.size w (w4.alloc (.cells #[.string s] 9))) := HS4.out.alloc HS4.out.size _
                have HC6 : Hid ((w4.alloc (.cells #[.string s] 9)).cell? ⟨w4.heap.size, 0, none⟩ = some (.string s)) := (by show _ = _; rw [Lib.cell_of_heap (alloc_at _ _)]; rfl)
                have A6 := Lib.hid ((Below.refl w4.heap.size w4).alloc (Nat.le_refl _) (.cells #[.string s] 9))
                have HO4b := Lib.hid (HO4.out.below A6.out)
                refine hK.out _ _ HS6a.out (fun hHeld => ?_)
                clear hK K
                try simp only [List.getElem_toArray, List.getElem_cons_succ, List.getElem_cons_zero, Act.put, List.setIfInBounds_toArray, List.set_cons_zero, List.set_cons_succ]
                generalize w4.alloc (.cells #[.string s] 9) = w6 at HS6a HC6 A6 HO4b hHeld ⊢
                have hg6 : w4.heap.size < w6.heap.size := (World.block_lt_of_cell? w6 ⟨w4.heap.size, 0, none⟩ HC6.out)
                have HS6 := HS6a
                obtain ⟨g6, hg6e⟩ : ∃ g6, g6 = w4.heap.size := ⟨_, rfl⟩
                rw [← hg6e] at HC6 hg6
                simp only [← hg6e]
                clear hg6e
                refine wpAnyH_ready (rs := [7]) (by kernel_rfl) (by simp) ?_
                refine (AllReadyH.cons rfl (fun K hK => ?_) AllReadyH.nil)
                refine wp_appN1 (Operand.tmp 28) (Operand.tmp 30) rfl w.heap.size (.slice ao4 (l.take k).length ac4) (l.take k) (by go_simp) HO4b.out g6 (by go_simp) s HC6.out (by rw [List.length_take]; omega) HS6.out.size ?_
                intro v' w7 hown7 hg7
                have HS7 : Hid (Below w.heap.size w w7) := HS6.out.grown hg7 HS6.out.size (fun x hx => (HO4b.out.lt hx).1)
                have HO7 := Lib.hid hown7
                obtain ⟨ao7, ac7, rfl⟩ := own_form hown7
                clear hown7 hg7
                refine hK.out _ _ HS7.out (fun hHeld => ?_)
                clear hK K
                try simp only [List.getElem_toArray, List.getElem_cons_succ, List.getElem_cons_zero, Act.put, List.setIfInBounds_toArray, List.set_cons_zero, List.set_cons_succ]
                refine wpAnyH_ready (rs := [11]) (by kernel_rfl) (by simp) ?_
                refine (AllReadyH.cons rfl (fun K hK => ?_) AllReadyH.nil)
                refine wp_appNm (S := S) (Operand.tmp 31) (Operand.tmp 34) rfl w.heap.size (.slice ao7 (l.take k ++ [s]).length ac7) (l.take k ++ [s]) (by go_simp) HO7.out (by simp) _ (l.drop k) (by go_simp) ((HN.out.keeps (Keeps.of_below HS7.out)).drop k hkl (o + k) (nc - k) hod (by omega)) (by simp; omega) HS7.out.size ?_
                intro v' w11 hown11 hg11
                have HS11 : Hid (Below w.heap.size w w11) := HS7.out.grown hg11 HS7.out.size (fun x hx => (HO7.out.lt hx).1)
                have HFIN := Lib.hid (HRES.out v' w11 hown11 HS11.out)
                obtain ⟨n9, hn9⟩ : ∃ n9, n9 = ((l.take k ++ [s]) ++ (l.drop k)).length := ⟨_, rfl⟩
                obtain ⟨ao9, ac9, e9⟩ := own_form hown11
                rw [← hn9] at e9
                subst e9
                clear hown11 hg11 hn9
                refine hK.out _ _ HS11.out (fun hHeld => ?_)
                clear hK K
                try simp only [List.getElem_toArray, List.getElem_cons_succ, List.getElem_cons_zero, Act.put, List.setIfInBounds_toArray, List.set_cons_zero, List.set_cons_succ]
                refine wpAnyH_take (i := 12) (v := Value.slice ao9 n9 ac9) rfl (by kernel_rfl) (by kernel_rfl) (by kernel_rfl) (fun _ _ _ h => h) (Or.inl ⟨rfl, fun w' hw' => ?_⟩) hHeld ?_
                · go_simp
                simp only [List.getElem_toArray, List.getElem_cons_succ, List.getElem_cons_zero, Act.put, List.setIfInBounds_toArray, List.set_cons_zero, List.set_cons_succ]
                refine wpAnyH_done (by kernel_rfl) ?_ _
                refine NoPanic.normal ?_
                clear hHeld
                go_wp2_with fail
                go_ret
                exact HFIN.out
              · skip
                go_simp
                have HS6a : Hid (Below w.heap.size w (w0.alloc (.cells #[.string s] 9))) := HS0.out.alloc HS0.out.size _
                have HC6 : Hid ((w0.alloc (.cells #[.string s] 9)).cell? ⟨w0.heap.size, 0, none⟩ = some (.string s)) := (by show _ = _; rw [Lib.cell_of_heap (alloc_at _ _)]; rfl)
                have A6 := Lib.hid ((Below.refl w0.heap.size w0).alloc (Nat.le_refl _) (.cells #[.string s] 9))
                have HO0b := Lib.hid (HO0.out.below A6.out)
                refine hK.out _ _ HS6a.out (fun hHeld => ?_)
                clear hK K
                try simp only [List.getElem_toArray, List.getElem_cons_succ, List.getElem_cons_zero, Act.put, List.setIfInBounds_toArray, List.set_cons_zero, List.set_cons_succ]
                generalize w0.alloc (.cells #[.string s] 9) = w6 at HS6a HC6 A6 HO0b hHeld ⊢
                have hg6 : w0.heap.size < w6.heap.size := (World.block_lt_of_cell? w6 ⟨w0.heap.size, 0, none⟩ HC6.out)
                have HS6 := HS6a
                obtain ⟨g6, hg6e⟩ : ∃ g6, g6 = w0.heap.size := ⟨_, rfl⟩
                rw [← hg6e] at HC6 hg6
                simp only [← hg6e]
                have hne : g6 ≠ g0 := by omega
                clear hg6e
                refine wpAnyH_ready (rs := [4]) (by kernel_rfl) (by simp) ?_
                refine (AllReadyH.cons rfl (fun K hK => ?_) AllReadyH.nil)
                refine wp_appNs (S := S) (Operand.tmp 24) (Operand.tmp 27) rfl w.heap.size g0 0 (by go_simp) HO0b.out _ (l.take k) rfl ((HN.out.keeps (Keeps.of_below HS6.out)).take k hkl) (by rw [List.length_take]; omega) HS6.out.size ?_
                intro v' w4 hown4 hg4
                have HS4 : Hid (Below w.heap.size w w4) := HS6.out.grown hg4 HS6.out.size (fun x hx => by injection hx with hx; subst hx; exact hg0)
                have HO4 := Lib.hid hown4
                obtain ⟨ao4, ac4, rfl⟩ := own_form hown4
                have HC6b : Hid (w4.cell? ⟨g6, 0, none⟩ = some (.string s)) := (World.cell?_of_block (a := ⟨g6, 0, none⟩) (hg4.block g6 hg6 (fun e => by injection e with e; exact hne e))).trans HC6.out
                clear hown4 hg4
                refine hK.out _ _ HS4.out (fun hHeld => ?_)
                clear hK K
                try simp only [List.getElem_toArray, List.getElem_cons_succ, List.getElem_cons_zero, Act.put, List.setIfInBounds_toArray, List.set_cons_zero, List.set_cons_succ]
                refine wpAnyH_ready (rs := [7]) (by kernel_rfl) (by simp) ?_
                refine (AllReadyH.cons rfl (fun K hK => ?_) AllReadyH.nil)
                refine wp_appN1 (Operand.tmp 28) (Operand.tmp 30) rfl w.heap.size (.slice ao4 (l.take k).length ac4) (l.take k) (by go_simp) HO4.out g6 (by go_simp) s HC6b.out (by rw [List.length_take]; omega) HS4.out.size ?_
                intro v' w7 hown7 hg7
                have HS7 : Hid (Below w.heap.size w w7) := HS4.out.grown hg7 HS4.out.size (fun x hx => (HO4.out.lt hx).1)
                have HO7 := Lib.hid hown7
                obtain ⟨ao7, ac7, rfl⟩ := own_form hown7
                clear hown7 hg7
                refine hK.out _ _ HS7.out (fun hHeld => ?_)
                clear hK K
                try simp only [List.getElem_toArray, List.getElem_cons_succ, List.getElem_cons_zero, Act.put, List.setIfInBounds_toArray, List.set_cons_zero, List.set_cons_succ]
                refine wpAnyH_ready (rs := [11]) (by kernel_rfl) (by simp) ?_
                refine (AllReadyH.cons rfl (fun K hK => ?_) AllReadyH.nil)
                refine wp_appNm (S := S) (Operand.tmp 31) (Operand.tmp 34) rfl w.heap.size (.slice ao7 (l.take k ++ [s]).length ac7) (l.take k ++ [s]) (by go_simp) HO7.out (by simp) _ (l.drop k) (by go_simp) ((HN.out.keeps (Keeps.of_below HS7.out)).drop k hkl (o + k) (nc - k) hod (by omega)) (by simp; omega) HS7.out.size ?_
                intro v' w11 hown11 hg11
                have HS11 : Hid (Below w.heap.size w w11) := HS7.out.grown hg11 HS7.out.size (fun x hx => (HO7.out.lt hx).1)
                have HFIN := Lib.hid (HRES.out v' w11 hown11 HS11.out)
                obtain ⟨n9, hn9⟩ : ∃ n9, n9 = ((l.take k ++ [s]) ++ (l.drop k)).length := ⟨_, rfl⟩
                obtain ⟨ao9, ac9, e9⟩ := own_form hown11
                rw [← hn9] at e9
                subst e9
                clear hown11 hg11 hn9
                refine hK.out _ _ HS11.out (fun hHeld => ?_)
                clear hK K
                try simp only [List.getElem_toArray, List.getElem_cons_succ, List.getElem_cons_zero, Act.put, List.setIfInBounds_toArray, List.set_cons_zero, List.set_cons_succ]
                refine wpAnyH_take (i := 12) (v := Value.slice ao9 n9 ac9) rfl (by kernel_rfl) (by kernel_rfl) (by kernel_rfl) (fun _ _ _ h => h) (Or.inl ⟨rfl, fun w' hw' => ?_⟩) hHeld ?_
                · go_simp
                simp only [List.getElem_toArray, List.getElem_cons_succ, List.getElem_cons_zero, Act.put, List.setIfInBounds_toArray, List.set_cons_zero, List.set_cons_succ]
                refine wpAnyH_done (by kernel_rfl) ?_ _
                refine NoPanic.normal ?_
                clear hHeld
                go_wp2_with fail
                go_ret
                exact HFIN.out
            · skip
              go_simp
              have HS6a : Hid (Below w.heap.size w (X.alloc (.cells #[.string s] 9))) := HS0.out.alloc HS0.out.size _
              have HC6 : Hid ((X.alloc (.cells #[.string s] 9)).cell? ⟨X.heap.size, 0, none⟩ = some (.string s)) := (by show _ = _; rw [Lib.cell_of_heap (alloc_at _ _)]; rfl)
              have A6 := Lib.hid ((Below.refl X.heap.size X).alloc (Nat.le_refl _) (.cells #[.string s] 9))
              refine hK.out _ _ HS6a.out (fun hHeld => ?_)
              clear hK K
              try simp only [List.getElem_toArray, List.getElem_cons_succ, List.getElem_cons_zero, Act.put, List.setIfInBounds_toArray, List.set_cons_zero, List.set_cons_succ]
              generalize X.alloc (.cells #[.string s] 9) = w6 at HS6a HC6 A6 hHeld ⊢
              have hg6 : X.heap.size < w6.heap.size := (World.block_lt_of_cell? w6 ⟨X.heap.size, 0, none⟩ HC6.out)
              have HS6 := HS6a
              obtain ⟨g6, hg6e⟩ : ∃ g6, g6 = X.heap.size := ⟨_, rfl⟩
              rw [← hg6e] at HC6 hg6
              simp only [← hg6e]
              clear hg6e
              refine wpAnyH_ready (rs := [0]) (by kernel_rfl) (by simp) ?_
              refine (AllReadyH.cons rfl (fun K hK => ?_) AllReadyH.nil)
              go_simp
              have HS0a : Hid (Below w.heap.size w (w6.alloc (.cells #[] 9))) := HS6.out.alloc HS6.out.size _
              have HO0 := Lib.hid (OwnN.lit w.heap.size w6 HS6.out.size)
              have HC60 : Hid ((w6.alloc (.cells #[] 9)).cell? ⟨g6, 0, none⟩ = some (.string s)) := cell_below ((Below.refl w6.heap.size w6).alloc (Nat.le_refl _) _) HC6.out
              have hg60 : g6 < (w6.alloc (.cells #[] 9)).heap.size := World.block_lt_of_cell? _ ⟨g6, 0, none⟩ HC60.out
              refine hK.out _ _ HS0a.out (fun hHeld => ?_)
              clear hK K
              try simp only [List.getElem_toArray, List.getElem_cons_succ, List.getElem_cons_zero, Act.put, List.setIfInBounds_toArray, List.set_cons_zero, List.set_cons_succ]
              generalize w6.alloc (.cells #[] 9) = w0 at HS0a HO0 HC60 hg60 hHeld ⊢
              have hg0 : w.heap.size ≤ w6.heap.size := HS6.out.size
              have hgl0 : w6.heap.size < w0.heap.size := (HO0.out.lt rfl).2
              have HS0 := HS0a
              obtain ⟨g0, hg0e⟩ : ∃ g0, g0 = w6.heap.size := ⟨_, rfl⟩
              rw [← hg0e] at HO0 hg0 hgl0
              simp only [← hg0e]
              have HG0 := Lib.hid hg0e
              have hne : g6 ≠ g0 := by have := HG0.out; omega
              clear hg0e
              refine wpAnyH_ready (rs := [4]) (by kernel_rfl) (by simp) ?_
              refine (AllReadyH.cons rfl (fun K hK => ?_) AllReadyH.nil)
              refine wp_appNs (S := S) (Operand.tmp 24) (Operand.tmp 27) rfl w.heap.size g0 0 (by go_simp) HO0.out _ (l.take k) rfl ((HN.out.keeps (Keeps.of_below HS0.out)).take k hkl) (by rw [List.length_take]; omega) HS0.out.size ?_
              intro v' w4 hown4 hg4
              have HS4 : Hid (Below w.heap.size w w4) := HS0.out.grown hg4 HS0.out.size (fun x hx => by injection hx with hx; subst hx; exact hg0)
              have HO4 := Lib.hid hown4
              obtain ⟨ao4, ac4, rfl⟩ := own_form hown4
              have HC6b : Hid (w4.cell? ⟨g6, 0, none⟩ = some (.string s)) := (World.cell?_of_block (a := ⟨g6, 0, none⟩) (hg4.block g6 hg60 (fun e => by injection e with e; exact hne e))).trans HC60.out
              clear hown4 hg4
              refine hK.out _ _ HS4.out (fun hHeld => ?_)
              clear hK K
              try simp only [List.getElem_toArray, List.getElem_cons_succ, List.getElem_cons_zero, Act.put, List.setIfInBounds_toArray, List.set_cons_zero, List.set_cons_succ]
              refine wpAnyH_ready (rs := [7]) (by kernel_rfl) (by simp) ?_
              refine (AllReadyH.cons rfl (fun K hK => ?_) AllReadyH.nil)
              refine wp_appN1 (Operand.tmp 28) (Operand.tmp 30) rfl w.heap.size (.slice ao4 (l.take k).length ac4) (l.take k) (by go_simp) HO4.out g6 (by go_simp) s HC6b.out (by rw [List.length_take]; omega) HS4.out.size ?_
              intro v' w7 hown7 hg7
              have HS7 : Hid (Below w.heap.size w w7) := HS4.out.grown hg7 HS4.out.size (fun x hx => (HO4.out.lt hx).1)
              have HO7 := Lib.hid hown7
              obtain ⟨ao7, ac7, rfl⟩ := own_form hown7
              clear hown7 hg7
              refine hK.out _ _ HS7.out (fun hHeld => ?_)
              clear hK K
              try simp only [List.getElem_toArray, List.getElem_cons_succ, List.getElem_cons_zero, Act.put, List.setIfInBounds_toArray, List.set_cons_zero, List.set_cons_succ]
              refine wpAnyH_ready (rs := [11]) (by kernel_rfl) (by simp) ?_
              refine (AllReadyH.cons rfl (fun K hK => ?_) AllReadyH.nil)
              refine wp_appNm (S := S) (Operand.tmp 31) (Operand.tmp 34) rfl w.heap.size (.slice ao7 (l.take k ++ [s]).length ac7) (l.take k ++ [s]) (by go_simp) HO7.out (by simp) _ (l.drop k) (by go_simp) ((HN.out.keeps (Keeps.of_below HS7.out)).drop k hkl (o + k) (nc - k) hod (by omega)) (by simp; omega) HS7.out.size ?_
              intro v' w11 hown11 hg11
              have HS11 : Hid (Below w.heap.size w w11) := HS7.out.grown hg11 HS7.out.size (fun x hx => (HO7.out.lt hx).1)
              have HFIN := Lib.hid (HRES.out v' w11 hown11 HS11.out)
              obtain ⟨n9, hn9⟩ : ∃ n9, n9 = ((l.take k ++ [s]) ++ (l.drop k)).length := ⟨_, rfl⟩
              obtain ⟨ao9, ac9, e9⟩ := own_form hown11
              rw [← hn9] at e9
              subst e9
              clear hown11 hg11 hn9
              refine hK.out _ _ HS11.out (fun hHeld => ?_)
              clear hK K
              try simp only [List.getElem_toArray, List.getElem_cons_succ, List.getElem_cons_zero, Act.put, List.setIfInBounds_toArray, List.set_cons_zero, List.set_cons_succ]
              refine wpAnyH_take (i := 12) (v := Value.slice ao9 n9 ac9) rfl (by kernel_rfl) (by kernel_rfl) (by kernel_rfl) (fun _ _ _ h => h) (Or.inl ⟨rfl, fun w' hw' => ?_⟩) hHeld ?_
              · go_simp
              simp only [List.getElem_toArray, List.getElem_cons_succ, List.getElem_cons_zero, Act.put, List.setIfInBounds_toArray, List.set_cons_zero, List.set_cons_succ]
              refine wpAnyH_done (by kernel_rfl) ?_ _
              refine NoPanic.normal ?_
              clear hHeld
              go_wp2_with fail
              go_ret
              exact HFIN.out
end Go.Proofs.Ytpkcoplpfenliaa
/- The document's Without, Texts. -/
namespace Go.Proofs.Ytpkcoplpfenliaa
open Go.RowKit
set_option linter.unusedVariables false
set_option linter.unusedSimpArgs false
def wo (l names : List ByteArray) : List ByteArray := l.filter fun x => !decide (x ∈ names)
theorem wo_srt {l names : List ByteArray} (h : Srt l) : Srt (wo l names) := h.sublist (List.filter_sublist)
theorem wo_mem {l names : List ByteArray} {s : ByteArray} : s ∈ wo l names ↔ s ∈ l ∧ s ∉ names := by unfold wo; simp
theorem wo_len (l names : List ByteArray) : (wo l names).length ≤ l.length := List.length_filter_le _ _
theorem wo_snoc (l names : List ByteArray) (x : ByteArray) : wo (l ++ [x]) names = wo l names ++ (if x ∈ names then [] else [x]) := by
  unfold wo; rw [List.filter_append]; congr 1
  by_cases h : x ∈ names <;> simp [h]
def WoInv (l names : List ByteArray) (w : World) (ov iv : Value) (wr : World) : Prop :=
  ∃ j : Nat, j ≤ l.length ∧ iv = .int .i64 (j : Int) ∧ OwnN w.heap.size wr ov (wo (l.take j) names) ∧ Below w.heap.size w wr
def RetWo (l names : List ByteArray) (w : World) (r : Ending) (w' : World) : Prop :=
  ∃ v, r = .returned v ∧ OwnN w.heap.size w' v (wo l names) ∧ Below w.heap.size w w'
set_option maxHeartbeats 4000000 in
set_option maxRecDepth 100000 in
theorem without_any (l names : List ByteArray) (S T : Nat → Prop) (lv nv : Value) (w : World) (h : NAt S w lv l) (hn : NAt T w nv names) (hl : l.length ≤ 50000) (hnl : names.length ≤ 1000) : Calls Try.prog 30 #[lv, nv] w (RetWo l names w) := by
  obtain ⟨lo, lc, rfl⟩ := h.form
  obtain ⟨no, nc, rfl⟩ := hn.form
  have HL := Lib.hid h
  have HN := Lib.hid hn
  clear h hn
  go_enter Try.func30, Try.ntmps30
  go_wp2_with fail
  go_loopw [5, 6] (fun ov iv wr => WoInv l names w ov iv wr) (fun _ iv _ => l.length - (intOf iv).toNat)
  case atStart => exact ⟨0, Nat.zero_le _, rfl, by simpa [wo] using OwnN.nil _ _, Below.refl _ _⟩
  case round =>
    obtain ⟨j, hj, rfl, hown, hb⟩ := hrel
    have HO := Lib.hid hown
    have HB := Lib.hid hb
    have HLJ := Lib.hid (HL.out.keeps (Keeps.of_below hb))
    have HNJ := Lib.hid (HN.out.keeps (Keeps.of_below hb))
    obtain ⟨oo, oc, rfl⟩ := own_form hown
    clear hb hown
    by_cases hlt : j < l.length
    · have q1 : decide ((j : Int) < (l.length : Int)) = true := decide_eq_true (by omega)
      obtain ⟨g, o, rfl, -, e0⟩ := HLJ.out.get j hlt
      have htk : l.take (j + 1) = l.take j ++ [l[j]] := List.take_succ_eq_append_getElem hlt
      obtain ⟨x, hx⟩ : ∃ x, x = l[j] := ⟨_, rfl⟩
      rw [← hx] at e0 htk
      have hwl := wo_len (l.take j) names
      rw [List.length_take] at hwl
      have HIN := Lib.hid (in_any x names T _ wr HNJ.out (by omega))
      by_cases hin : x ∈ names
      · rw [decide_eq_true hin] at HIN
        have HNX : Hid (WoInv l names w (.slice oo (wo (l.take j) names).length oc) (.int .i64 ((j : Int) + 1)) wr) := ⟨j + 1, by omega, by go_num, by rw [htk, wo_snoc, if_pos hin, List.append_nil]; exact HO.out, HB.out⟩
        clear hx htk hwl HLJ HNJ HO
        go_wp2_with fail
        refine HIN.out.mono ?_
        rintro e w' ⟨rfl, rfl⟩
        go_wp2_with fail
        go_roundw
        case rel => exact HNX.out
        case measure => simp [intOf]; omega
      · rw [decide_eq_false hin] at HIN
        have A6 := Lib.hid ((Below.refl wr.heap.size wr).alloc (Nat.le_refl _) (.cells #[.string x] 9))
        have HO6 := Lib.hid (HO.out.below A6.out)
        have HC6 : Hid ((wr.alloc (.cells #[.string x] 9)).cell? ⟨wr.heap.size, 0, none⟩ = some (.string x)) := by show _ = _; rw [Lib.cell_of_heap (alloc_at _ _)]; rfl
        have hs1 := HB.out.size
        have hs6 : w.heap.size ≤ (wr.alloc (.cells #[.string x] 9)).heap.size := by simp; omega
        have hL : (wo (l.take j) names).length ≤ 100000 := by omega
        have HNX : Hid (∀ v' w9, OwnN w.heap.size w9 v' (wo (l.take j) names ++ [x]) → (wr.alloc (.cells #[.string x] 9)).grownBy w9 (Value.slice oo (wo (l.take j) names).length oc).ownBlock → WoInv l names w v' (.int .i64 ((j : Int) + 1)) w9) := by
          show ∀ v' w9, _ → _ → _
          intro v' w9 h1 h2
          refine ⟨j + 1, by omega, by go_num, by rw [htk, wo_snoc, if_neg hin]; exact h1, ?_⟩
          exact (HB.out.trans (A6.out.mono hs1)).grown h2 hs6 (fun x hx => (HO6.out.lt hx).1)
        clear hx htk hwl HLJ HNJ HO
        go_wp2_with fail
        refine HIN.out.mono ?_
        rintro e w' ⟨rfl, rfl⟩
        go_wp2_with (refine wpList_wanted (by rfl) fun K hK => ?_; refine wp_appN1 (Operand.tmp 20) (Operand.tmp 25) rfl w.heap.size _ _ rfl HO6.out wr.heap.size rfl x HC6.out hL hs6 ?_; intro v' w9 hown9 hg9; have HN9 := Lib.hid (HNX.out v' w9 hown9 hg9); obtain ⟨n9, hn9⟩ : ∃ n9, n9 = (wo (l.take j) names ++ [x]).length := ⟨_, rfl⟩; obtain ⟨ao9, ac9, e9⟩ := own_form hown9; rw [← hn9] at e9; subst e9; clear hown9 hg9 hn9; refine hK _ _ ?_; clear hK K)
        go_roundw
        case rel => exact HN9.out
        case measure => simp [intOf]; omega
    · have q1 : decide ((j : Int) < (l.length : Int)) = false := decide_eq_false (by omega)
      obtain rfl : j = l.length := by omega
      have htl : l.take l.length = l := List.take_length
      rw [htl] at HO ⊢
      have HFIN : Hid (RetWo l names w (.returned (.slice oo (wo l names).length oc)) wr) := ⟨_, rfl, HO.out, HB.out⟩
      clear htl HO HLJ HNJ
      go_wp2_with fail
      go_ret
      exact HFIN.out
theorem data_beq (a b : ByteArray) : (a.toList == b.toList) = decide (a = b) := str_eq
def TxInv (a b : List ByteArray) (w : World) (iv : Value) (wr : World) : Prop := ∃ j : Nat, j ≤ a.length ∧ iv = .int .i64 (j : Int) ∧ a.take j = b.take j ∧ Below w.heap.size w wr
set_option maxHeartbeats 4000000 in
set_option maxRecDepth 100000 in
theorem texts_any (a b : List ByteArray) (S T : Nat → Prop) (av bv : Value) (w : World) (ha : NAt S w av a) (hb : NAt T w bv b) (hal : a.length ≤ 100000) (hbl : b.length ≤ 100000) : Calls Try.prog 21 #[av, bv] w (RetBool (decide (a = b)) w) := by
  obtain ⟨ao, ac, rfl⟩ := ha.form
  obtain ⟨bo, bc, rfl⟩ := hb.form
  have HA := Lib.hid ha
  have HB := Lib.hid hb
  clear ha hb
  by_cases hll : a.length = b.length
  · have q0 : ((a.length : Int) == (b.length : Int)) = true := by simp [hll]
    have HLL := Lib.hid hll
    clear hll
    go_enter Try.func21, Try.ntmps21
    go_wp2_with fail
    go_loopw [5] (fun iv wr => TxInv a b w iv wr) (fun iv _ => a.length - (intOf iv).toNat)
    case atStart => exact ⟨0, Nat.zero_le _, rfl, by simp, Below.refl _ _⟩
    case round =>
      obtain ⟨j, hj, rfl, htk, hbw⟩ := hrel
      have HTK := Lib.hid htk
      have HBW := Lib.hid hbw
      have HAJ := Lib.hid (HA.out.keeps (Keeps.of_below hbw))
      have HBJ := Lib.hid (HB.out.keeps (Keeps.of_below hbw))
      clear htk hbw
      by_cases hlt : j < a.length
      · have q1 : decide ((j : Int) < (a.length : Int)) = true := decide_eq_true (by omega)
        have hjb : j < b.length := by have := HLL.out; omega
        obtain ⟨ga, oa, rfl, -, e0⟩ := HAJ.out.get j hlt
        obtain ⟨gb, ob, rfl, -, e1⟩ := HBJ.out.get j hjb
        obtain ⟨x, hx⟩ : ∃ x, x = a[j] := ⟨_, rfl⟩
        obtain ⟨y, hy⟩ : ∃ y, y = b[j] := ⟨_, rfl⟩
        rw [← hx] at e0
        rw [← hy] at e1
        by_cases hxy : x = y
        · have hq : (x.toList == y.toList) = true := by rw [hxy]; simp
          have HNX : Hid (∀ W, Below wr.heap.size wr W → TxInv a b w (.int .i64 ((j : Int) + 1)) W) := fun W h => ⟨j + 1, by omega, by go_num, by rw [List.take_succ_eq_append_getElem hlt, List.take_succ_eq_append_getElem hjb, HTK.out, ← hx, ← hy, hxy], HBW.out.trans (h.mono HBW.out.size)⟩
          clear hx hy hxy
          go_upto_region 6 with fail
          have HS0 : Hid (Below wr.heap.size wr wr.drew) := (Below.refl _ _).drew
          refine wp_region_noPanic ?_
          refine wp_region_held_drew (S := Below wr.heap.size wr) (by kernel_rfl) HS0.out (fun hHeld => ?_)
          generalize wr.drew = X at HS0 hHeld ⊢
          refine wpAnyH_take (i := 0) (v := Value.slice (some ⟨ga, oa, none⟩) a.length ac) rfl (by kernel_rfl) (by kernel_rfl) (by kernel_rfl) (fun _ _ _ h => h) (Or.inl ⟨rfl, fun w' hw' => ?_⟩) hHeld ?_
          · go_simp
          simp only [List.getElem_toArray, List.getElem_cons_succ, List.getElem_cons_zero, Act.put, List.setIfInBounds_toArray, List.set_cons_zero, List.set_cons_succ]
          refine wpAnyH_take (i := 1) (v := Value.int .i64 (j : Int)) rfl (by kernel_rfl) (by kernel_rfl) (by kernel_rfl) (fun _ _ _ h => h) (Or.inl ⟨rfl, fun w' hw' => ?_⟩) hHeld ?_
          · go_simp
          simp only [List.getElem_toArray, List.getElem_cons_succ, List.getElem_cons_zero, Act.put, List.setIfInBounds_toArray, List.set_cons_zero, List.set_cons_succ]
          refine wpAnyH_take (i := 2) (v := Value.pointer (some ⟨ga, oa + j, none⟩)) rfl (by kernel_rfl) (by kernel_rfl) (by kernel_rfl) (fun _ _ _ h => h) (Or.inl ⟨rfl, fun w' hw' => ?_⟩) hHeld ?_
          · go_simp
          simp only [List.getElem_toArray, List.getElem_cons_succ, List.getElem_cons_zero, Act.put, List.setIfInBounds_toArray, List.set_cons_zero, List.set_cons_succ]
          refine wpAnyH_take (i := 3) (v := Value.string x) rfl (by kernel_rfl) (by kernel_rfl) (by kernel_rfl) (fun _ _ _ h => h) (Or.inl ⟨rfl, fun w' hw' => ?_⟩) hHeld ?_
          · have q9 := cell_below hw' e0; go_simp
          simp only [List.getElem_toArray, List.getElem_cons_succ, List.getElem_cons_zero, Act.put, List.setIfInBounds_toArray, List.set_cons_zero, List.set_cons_succ]
          refine wpAnyH_take (i := 4) (v := Value.slice (some ⟨gb, ob, none⟩) b.length bc) rfl (by kernel_rfl) (by kernel_rfl) (by kernel_rfl) (fun _ _ _ h => h) (Or.inl ⟨rfl, fun w' hw' => ?_⟩) hHeld ?_
          · go_simp
          simp only [List.getElem_toArray, List.getElem_cons_succ, List.getElem_cons_zero, Act.put, List.setIfInBounds_toArray, List.set_cons_zero, List.set_cons_succ]
          refine wpAnyH_take (i := 5) (v := Value.int .i64 (j : Int)) rfl (by kernel_rfl) (by kernel_rfl) (by kernel_rfl) (fun _ _ _ h => h) (Or.inl ⟨rfl, fun w' hw' => ?_⟩) hHeld ?_
          · go_simp
          simp only [List.getElem_toArray, List.getElem_cons_succ, List.getElem_cons_zero, Act.put, List.setIfInBounds_toArray, List.set_cons_zero, List.set_cons_succ]
          refine wpAnyH_take (i := 6) (v := Value.pointer (some ⟨gb, ob + j, none⟩)) rfl (by kernel_rfl) (by kernel_rfl) (by kernel_rfl) (fun _ _ _ h => h) (Or.inl ⟨rfl, fun w' hw' => ?_⟩) hHeld ?_
          · go_simp
          simp only [List.getElem_toArray, List.getElem_cons_succ, List.getElem_cons_zero, Act.put, List.setIfInBounds_toArray, List.set_cons_zero, List.set_cons_succ]
          refine wpAnyH_take (i := 7) (v := Value.string y) rfl (by kernel_rfl) (by kernel_rfl) (by kernel_rfl) (fun _ _ _ h => h) (Or.inl ⟨rfl, fun w' hw' => ?_⟩) hHeld ?_
          · have q9 := cell_below hw' e1; go_simp
          simp only [List.getElem_toArray, List.getElem_cons_succ, List.getElem_cons_zero, Act.put, List.setIfInBounds_toArray, List.set_cons_zero, List.set_cons_succ]
          refine wpAnyH_take (i := 8) (v := Value.bool false) rfl (by kernel_rfl) (by kernel_rfl) (by kernel_rfl) (fun _ _ _ h => h) (Or.inl ⟨rfl, fun w' hw' => ?_⟩) hHeld ?_
          · go_simp
          simp only [List.getElem_toArray, List.getElem_cons_succ, List.getElem_cons_zero, Act.put, List.setIfInBounds_toArray, List.set_cons_zero, List.set_cons_succ]
          refine wpAnyH_done (by kernel_rfl) ?_ _
          refine NoPanic.normal ?_
          clear hHeld
          have HN9 := Lib.hid (HNX.out X HS0.out)
          go_wp2_with fail
          go_roundw
          case rel => exact HN9.out
          case measure => simp [intOf]; omega
        · have hq : (x.toList == y.toList) = false := by rw [data_beq]; exact decide_eq_false hxy
          have HNE : Hid (decide (a = b) = false) := decide_eq_false (by rintro rfl; exact hxy (hx.trans hy.symm))
          clear hx hy hxy
          go_upto_region 6 with fail
          have HS0 : Hid (Below wr.heap.size wr wr.drew) := (Below.refl _ _).drew
          refine wp_region_noPanic ?_
          refine wp_region_held_drew (S := Below wr.heap.size wr) (by kernel_rfl) HS0.out (fun hHeld => ?_)
          generalize wr.drew = X at HS0 hHeld ⊢
          refine wpAnyH_take (i := 0) (v := Value.slice (some ⟨ga, oa, none⟩) a.length ac) rfl (by kernel_rfl) (by kernel_rfl) (by kernel_rfl) (fun _ _ _ h => h) (Or.inl ⟨rfl, fun w' hw' => ?_⟩) hHeld ?_
          · go_simp
          simp only [List.getElem_toArray, List.getElem_cons_succ, List.getElem_cons_zero, Act.put, List.setIfInBounds_toArray, List.set_cons_zero, List.set_cons_succ]
          refine wpAnyH_take (i := 1) (v := Value.int .i64 (j : Int)) rfl (by kernel_rfl) (by kernel_rfl) (by kernel_rfl) (fun _ _ _ h => h) (Or.inl ⟨rfl, fun w' hw' => ?_⟩) hHeld ?_
          · go_simp
          simp only [List.getElem_toArray, List.getElem_cons_succ, List.getElem_cons_zero, Act.put, List.setIfInBounds_toArray, List.set_cons_zero, List.set_cons_succ]
          refine wpAnyH_take (i := 2) (v := Value.pointer (some ⟨ga, oa + j, none⟩)) rfl (by kernel_rfl) (by kernel_rfl) (by kernel_rfl) (fun _ _ _ h => h) (Or.inl ⟨rfl, fun w' hw' => ?_⟩) hHeld ?_
          · go_simp
          simp only [List.getElem_toArray, List.getElem_cons_succ, List.getElem_cons_zero, Act.put, List.setIfInBounds_toArray, List.set_cons_zero, List.set_cons_succ]
          refine wpAnyH_take (i := 3) (v := Value.string x) rfl (by kernel_rfl) (by kernel_rfl) (by kernel_rfl) (fun _ _ _ h => h) (Or.inl ⟨rfl, fun w' hw' => ?_⟩) hHeld ?_
          · have q9 := cell_below hw' e0; go_simp
          simp only [List.getElem_toArray, List.getElem_cons_succ, List.getElem_cons_zero, Act.put, List.setIfInBounds_toArray, List.set_cons_zero, List.set_cons_succ]
          refine wpAnyH_take (i := 4) (v := Value.slice (some ⟨gb, ob, none⟩) b.length bc) rfl (by kernel_rfl) (by kernel_rfl) (by kernel_rfl) (fun _ _ _ h => h) (Or.inl ⟨rfl, fun w' hw' => ?_⟩) hHeld ?_
          · go_simp
          simp only [List.getElem_toArray, List.getElem_cons_succ, List.getElem_cons_zero, Act.put, List.setIfInBounds_toArray, List.set_cons_zero, List.set_cons_succ]
          refine wpAnyH_take (i := 5) (v := Value.int .i64 (j : Int)) rfl (by kernel_rfl) (by kernel_rfl) (by kernel_rfl) (fun _ _ _ h => h) (Or.inl ⟨rfl, fun w' hw' => ?_⟩) hHeld ?_
          · go_simp
          simp only [List.getElem_toArray, List.getElem_cons_succ, List.getElem_cons_zero, Act.put, List.setIfInBounds_toArray, List.set_cons_zero, List.set_cons_succ]
          refine wpAnyH_take (i := 6) (v := Value.pointer (some ⟨gb, ob + j, none⟩)) rfl (by kernel_rfl) (by kernel_rfl) (by kernel_rfl) (fun _ _ _ h => h) (Or.inl ⟨rfl, fun w' hw' => ?_⟩) hHeld ?_
          · go_simp
          simp only [List.getElem_toArray, List.getElem_cons_succ, List.getElem_cons_zero, Act.put, List.setIfInBounds_toArray, List.set_cons_zero, List.set_cons_succ]
          refine wpAnyH_take (i := 7) (v := Value.string y) rfl (by kernel_rfl) (by kernel_rfl) (by kernel_rfl) (fun _ _ _ h => h) (Or.inl ⟨rfl, fun w' hw' => ?_⟩) hHeld ?_
          · have q9 := cell_below hw' e1; go_simp
          simp only [List.getElem_toArray, List.getElem_cons_succ, List.getElem_cons_zero, Act.put, List.setIfInBounds_toArray, List.set_cons_zero, List.set_cons_succ]
          refine wpAnyH_take (i := 8) (v := Value.bool true) rfl (by kernel_rfl) (by kernel_rfl) (by kernel_rfl) (fun _ _ _ h => h) (Or.inl ⟨rfl, fun w' hw' => ?_⟩) hHeld ?_
          · go_simp
          simp only [List.getElem_toArray, List.getElem_cons_succ, List.getElem_cons_zero, Act.put, List.setIfInBounds_toArray, List.set_cons_zero, List.set_cons_succ]
          refine wpAnyH_done (by kernel_rfl) ?_ _
          refine NoPanic.normal ?_
          clear hHeld
          go_wp2_with fail
          go_ret
          exact ⟨by rw [HNE.out]; rfl, HBW.out.trans (HS0.out.mono HBW.out.size)⟩
      · have q1 : decide ((j : Int) < (a.length : Int)) = false := decide_eq_false (by omega)
        have HEQ : Hid (decide (a = b) = true) := decide_eq_true (by
          have h1 := HTK.out
          have h2 := HLL.out
          rw [List.take_of_length_le (by omega), List.take_of_length_le (by omega)] at h1
          exact h1)
        go_wp2_with fail
        go_ret
        exact ⟨by rw [HEQ.out]; rfl, HBW.out⟩
  · have q0 : ((a.length : Int) == (b.length : Int)) = false := by simp; omega
    have HNE : Hid (decide (a = b) = false) := decide_eq_false (by rintro rfl; exact hll rfl)
    clear hll
    go_enter Try.func21, Try.ntmps21
    go_wp2_with fail
    go_ret
    exact ⟨by rw [HNE.out]; rfl, Below.refl _ _⟩
end Go.Proofs.Ytpkcoplpfenliaa
/- The document's Free. -/
namespace Go.Proofs.Ytpkcoplpfenliaa
open Go.RowKit Go.BigM
set_option linter.unusedVariables false
set_option linter.unusedSimpArgs false
def RetRF (e : Et) (w : World) (r : Ending) (w' : World) : Prop :=
  ∃ v L, r = .returned v ∧ NAt (fun g => w.heap.size ≤ g) w' v L ∧ Srt L ∧ (∀ s, s ∈ L ↔ e.fr s) ∧ L.length ≤ e.size ∧ Below w.heap.size w w'
def RFC (e : Et) : Prop := ∀ (S : Nat → Prop) (cs : Array Value) (w : World), Et.At S w e cs → Calls Try.prog 23 #[.agg cs] w (RetRF e w)
/-- A set, so far. -/
def SetAt (B n : Nat) (F : ByteArray → Prop) (w : World) (ov : Value) (wr : World) : Prop :=
  ∃ L, NAt (fun g => B ≤ g) wr ov L ∧ Srt L ∧ (∀ s, s ∈ L ↔ F s) ∧ L.length ≤ n ∧ Below w.heap.size w wr
def OutInv (a : List Et) (B : Nat) (w : World) (ov iv : Value) (wr : World) : Prop :=
  ∃ j : Nat, j ≤ a.length ∧ iv = .int .i64 (j : Int) ∧ SetAt B (Et.sizes (a.take j)) (fun s => Et.frs s (a.take j)) w ov wr
def InnInv (L2 : List ByteArray) (B n : Nat) (F : ByteArray → Prop) (w : World) (ov iv : Value) (wr : World) : Prop :=
  ∃ i : Nat, i ≤ L2.length ∧ iv = .int .i64 (i : Int) ∧ SetAt B (n + i) (fun s => F s ∨ s ∈ L2.take i) w ov wr
set_option maxHeartbeats 8000000 in
set_option maxRecDepth 100000 in
theorem reffree_var (t : ByteArray) : RFC (.mk 5 t [] []) := by
  intro S cs w hat
  rw [EAt_mk] at hat
  obtain ⟨nv, av, rfl, hm, hla⟩ := hat
  have o1 := hm.one
  have o2 := hla.one
  have A1 := (Below.refl w.heap.size w).alloc (Nat.le_refl _) (.cells #[.int .i64 5, .string t, nv, av] 28)
  have A2 := A1.alloc A1.size (.cells (tcells [t]) 9)
  obtain ⟨no, nc, rfl⟩ := hm.form
  obtain ⟨ao, ac, rfl⟩ := hla.form
  have HE := EB.cell _ _ _ _ _ _ (show EB (w.alloc (.cells #[.int .i64 5, .string t, .slice no ([] : List ByteArray).length nc, .slice ao ([] : List Et).length ac] 28)) w.heap.size 5 t _ _ from alloc_at _ _)
  obtain ⟨c0, c1, c2, c3⟩ := HE
  have hs1 : (w.alloc (.cells #[.int .i64 5, .string t, .slice no ([] : List ByteArray).length nc, .slice ao ([] : List Et).length ac] 28)).heap.size = w.heap.size + 1 := by simp
  have HFIN : Hid (RetRF (.mk 5 t [] []) w (.returned (.slice (some ⟨w.heap.size + 1, 0, none⟩) 1 1)) ((w.alloc (.cells #[.int .i64 5, .string t, .slice no ([] : List ByteArray).length nc, .slice ao ([] : List Et).length ac] 28)).alloc (.cells (tcells [t]) 9))) := by
    refine ⟨_, [t], rfl, ?_, by simp [Srt], fun s => ?_, by simp [Et.size], A2⟩
    · have h := NAt.lits (w.alloc (.cells #[.int .i64 5, .string t, .slice no ([] : List ByteArray).length nc, .slice ao ([] : List Et).length ac] 28)) [t]
      rw [hs1] at h
      exact h.mono (fun g hg => by have : w.heap.size + 1 ≤ g := hg; omega)
    · unfold Et.fr; simp [Et.frs]; exact eq_comm
  clear A1 A2 hm hla hs1
  simp only [List.length_nil] at c0 c1 c2 c3 HFIN ⊢
  go_enter Try.func23, Try.ntmps23
  go_wp2_with fail
  go_ret
  exact HFIN.out
set_option maxHeartbeats 8000000 in
set_option maxRecDepth 100000 in
theorem reffree_node (k : Int) (t : ByteArray) (ns : List ByteArray) (a : List Et) (hk5 : ¬ k = 5) (ih : ∀ e ∈ a, RFC e) (hsz : Et.sizes a ≤ 10000) (hnl : ns.length ≤ 100) : RFC (.mk k t ns a) := by
  intro S cs w hat
  rw [EAt_mk] at hat
  obtain ⟨nv, av, rfl, hm, hla⟩ := hat
  have o1 := hm.one
  have o2 := hla.one
  have hln := length_esizes a
  obtain ⟨no, nc, rfl⟩ := hm.form
  obtain ⟨ao, ac, rfl⟩ := hla.form
  have A1 := Lib.hid ((Below.refl w.heap.size w).alloc (Nat.le_refl _) (.cells #[.int .i64 k, .string t, .slice no ns.length nc, .slice ao a.length ac] 28))
  have HE : Hid (EB (w.alloc (.cells #[.int .i64 k, .string t, .slice no ns.length nc, .slice ao a.length ac] 28)) w.heap.size k t (.slice no ns.length nc) (.slice ao a.length ac)) := alloc_at _ _
  have HM := Lib.hid (hm.keeps (Keeps.of_below A1.out))
  have HA := Lib.hid (hla.keeps (Keeps.of_below A1.out))
  have IH := Lib.hid ih
  have q0 : (k == 5) = false := by simpa using hk5
  clear hm hla ih
  go_enter Try.func23, Try.ntmps23
  go_upto_region 1 with fail
  generalize w.alloc (.cells #[.int .i64 k, .string t, .slice no ns.length nc, .slice ao a.length ac] 28) = W1 at A1 HE HM HA ⊢
  obtain ⟨gs, hgs⟩ : ∃ gs, gs = w.heap.size := ⟨_, rfl⟩
  rw [← hgs] at HE
  simp only [← hgs]
  clear hgs
  obtain ⟨c0, c1, c2, c3⟩ := EB.cell _ _ _ _ _ _ HE.out
  have hw1 : w.heap.size ≤ W1.heap.size := A1.out.size
  go_wp2_with fail
  go_loopw [3, 4] (fun ov iv wr => OutInv a w.heap.size W1 ov iv wr) (fun _ iv _ => a.length - (intOf iv).toNat)
  case atStart => exact ⟨0, Nat.zero_le _, rfl, [], .inl ⟨rfl, rfl⟩, List.Pairwise.nil, fun s => by simp [Et.frs], by simp, Below.refl _ _⟩
  case round =>
    clear c0 c1 c2 c3
    obtain ⟨j, hj, rfl, L, hL1, hL2, hL3, hL4, hb⟩ := hrel
    have HB := Lib.hid hb
    have HER := Lib.hid (row_below hb HE.out)
    have HAJ := Lib.hid (HA.out.keeps (Keeps.of_below hb))
    have HMJ := Lib.hid (HM.out.keeps (Keeps.of_below hb))
    have HL1 := Lib.hid hL1
    have HL2 := Lib.hid hL2
    have HL3 := Lib.hid hL3
    obtain ⟨oo, oc, rfl⟩ := hL1.form
    obtain ⟨d0, d1, d2, d3⟩ := EB.cell _ _ _ _ _ _ (show EB wr gs k t _ _ from HER.out)
    have hle := esizes_take_le a j
    have hwr : w.heap.size ≤ wr.heap.size := Nat.le_trans hw1 hb.size
    clear hb hL1 hL2 hL3
    by_cases hlt : j < a.length
    · have q1 : decide ((j : Int) < (a.length : Int)) = true := decide_eq_true (by omega)
      obtain ⟨g, o, k5, t5, nv5, av5, rfl, -, -, hat5, e0, e1, e2, e3, o5, o6⟩ := HAJ.out.get j hlt
      have HST := Lib.hid (esizes_take a j hlt)
      have hle2 := esizes_take_le a (j + 1)
      rw [HST.out] at hle2
      have HC := Lib.hid (IH.out _ (List.getElem_mem hlt) _ _ wr hat5)
      clear hat5
      go_wp2_with fail
      refine HC.out.mono ?_
      rintro r w2 ⟨v2, L2, rfl, h1, h2, h3, h4, hb2⟩
      have HB2 := Lib.hid (HB.out.trans (hb2.mono HB.out.size))
      have H21 := Lib.hid (h1.mono (T := fun g => w.heap.size ≤ g) (fun g hg => by have : wr.heap.size ≤ g := hg; omega))
      have H23 := Lib.hid h3
      have HO2 := Lib.hid (HL1.out.keeps (Keeps.of_below hb2))
      have hw2 : w.heap.size ≤ w2.heap.size := Nat.le_trans hwr hb2.size
      have hls : L2.length ≤ a[j].size := h4
      obtain ⟨o2', c2', rfl⟩ := h1.form
      have H0 : Hid (InnInv L2 w.heap.size L.length (fun s => Et.frs s (a.take j)) W1 (.slice oo L.length oc) (.int .i64 0) w2) := ⟨0, Nat.zero_le _, rfl, L, HO2.out, HL2.out, fun s => by rw [HL3.out]; simp, by omega, HB2.out⟩
      obtain ⟨za, hza⟩ : ∃ za, za = a[j].size := ⟨_, rfl⟩
      rw [← hza] at hls hle2
      have HZA := Lib.hid hza
      clear h1 h2 h3 h4 hb2 HC e0 e1 e2 e3 d0 d1 d2 d3 hza
      go_wp2_with fail
      go_loopw [3, 6] (fun ov iv wr => InnInv L2 w.heap.size L.length (fun s => Et.frs s (a.take j)) W1 ov iv wr ∧ Below w2.heap.size w2 wr) (fun _ iv _ => L2.length - (intOf iv).toNat)
      case atStart => exact ⟨H0.out, Below.refl _ _⟩
      case round =>
        clear H0
        obtain ⟨⟨i, hi, rfl, L3, h1, h2, h3, h4, hb3⟩, hb23⟩ := hrel
        have HB3 := Lib.hid hb3
        have HB23 := Lib.hid hb23
        have H31 := Lib.hid h1
        have H32 := Lib.hid h2
        have H33 := Lib.hid h3
        have H2R := Lib.hid (H21.out.keeps (Keeps.of_below hb23))
        obtain ⟨o3, c3', rfl⟩ := h1.form
        clear hb3 hb23 h1 h2 h3
        by_cases hlt2 : i < L2.length
        · have q2 : decide ((i : Int) < (L2.length : Int)) = true := decide_eq_true (by omega)
          obtain ⟨g2, o22, rfl, -, f0⟩ := H2R.out.get i hlt2
          have htk : L2.take (i + 1) = L2.take i ++ [L2[i]] := List.take_succ_eq_append_getElem hlt2
          obtain ⟨x, hx⟩ : ∃ x, x = L2[i] := ⟨_, rfl⟩
          rw [← hx] at f0 htk
          have HW := Lib.hid (with_any L3 H32.out x w.heap.size _ wr H31.out (by omega) (by have := HB23.out.size; omega))
          have HNX : Hid (∀ v' w9, RetWith w.heap.size L3 x wr (.returned v') w9 → (InnInv L2 w.heap.size L.length (fun s => Et.frs s (a.take j)) W1 v' (.int .i64 ((i : Int) + 1)) w9 ∧ Below w2.heap.size w2 w9) ∧ ∃ ao n ac, v' = .slice ao n ac) := by
            show ∀ v' w9, _ → _
            rintro v' w9 ⟨v, L9, e9, g1, g2, g3, g4, g5⟩
            injection e9 with e9
            subst e9
            refine ⟨⟨⟨i + 1, by omega, by go_num, L9, g1, g2, fun s => ?_, by omega, HB3.out.trans (g5.mono HB3.out.size)⟩, HB23.out.trans (g5.mono HB23.out.size)⟩, ?_⟩
            · rw [g3, H33.out, htk]
              simp only [List.mem_append, List.mem_singleton]
              constructor
              · rintro (h | h | h)
                · exact .inr (.inr h)
                · exact .inl h
                · exact .inr (.inl h)
              · rintro (h | h | h)
                · exact .inr (.inl h)
                · exact .inr (.inr h)
                · exact .inl h
            · obtain ⟨ao, ac, e⟩ := g1.form
              exact ⟨ao, _, ac, e⟩
          clear hx htk
          go_wp2_with fail
          refine HW.out.mono ?_
          intro r w9 hret
          obtain ⟨v9, L9, rfl, hrest⟩ := hret
          obtain ⟨h9, ao9, n9, ac9, rfl⟩ := HNX.out v9 w9 ⟨_, L9, rfl, hrest⟩
          have HN9 := Lib.hid h9
          clear hrest h9
          go_wp2_with fail
          go_roundw
          case rel => exact HN9.out
          case measure => simp [intOf]; omega
        · have q2 : decide ((i : Int) < (L2.length : Int)) = false := decide_eq_false (by omega)
          obtain rfl : i = L2.length := by omega
          have HNX : Hid (OutInv a w.heap.size W1 (.slice o3 L3.length c3') (.int .i64 ((j : Int) + 1)) wr) := by
            refine ⟨j + 1, by omega, by go_num, L3, H31.out, H32.out, fun s => ?_, by rw [HST.out, ← HZA.out]; omega, HB3.out⟩
            have h9 := H33.out s
            rw [List.take_length] at h9
            rw [h9, take_snoc_et a j hlt]
            show (Et.frs s (a.take j) ∨ s ∈ L2) ↔ Et.frs s (a.take j ++ [a[j]])
            rw [frs_snoc, H23.out]
          go_wp2_with fail
          go_roundw
          case rel => exact HNX.out
          case measure => simp [intOf]; omega
    · have q1 : decide ((j : Int) < (a.length : Int)) = false := decide_eq_false (by omega)
      obtain rfl : j = a.length := by omega
      have hta : a.take a.length = a := List.take_length
      rw [hta] at hL4 hle
      have HWO := Lib.hid (without_any L ns _ S _ _ wr HL1.out HMJ.out (by omega) (by omega))
      have HEND : Hid (∀ v' w9, RetWo L ns wr (.returned v') w9 → RetRF (.mk k t ns a) w (.returned v') w9 ∧ ∃ ao n ac, v' = .slice ao n ac) := by
        show ∀ v' w9, _ → _
        rintro v' w9 ⟨v, e9, g1, g2⟩
        injection e9 with e9
        subst e9
        refine ⟨⟨v', _, rfl, g1.at.mono (fun g hg => by have := hg.1; omega), wo_srt HL2.out, fun s => ?_, by have := wo_len L ns; simp only [Et.size]; omega, (A1.out.trans (HB.out.mono hw1)).trans (g2.mono hwr)⟩, ?_⟩
        · rw [wo_mem, HL3.out, hta]
          unfold Et.fr
          simp [hk5]
        · obtain ⟨ao, ac, e⟩ := own_form g1
          exact ⟨ao, _, ac, e⟩
      clear hta
      go_wp2_with fail
      refine HWO.out.mono ?_
      intro r w9 hret
      obtain ⟨v9, rfl, hrest⟩ := hret
      obtain ⟨h9, ao9, n9, ac9, rfl⟩ := HEND.out v9 w9 ⟨_, rfl, hrest⟩
      have HN9 := Lib.hid h9
      clear hrest h9
      go_wp2_with fail
      go_ret
      exact HN9.out
theorem reffree_tree (N : Nat) : N ≤ 10000 → ∀ (e : Et), e.size ≤ N → e.right num = true → e.fine → RFC e := by
  induction N with
  | zero => intro _ e he; cases e; simp [Et.size] at he
  | succ N IH =>
    intro hN e he hr hf
    obtain ⟨k, t, ns, a⟩ := e
    have hsz : Et.sizes a ≤ N := by simp only [Et.size] at he; omega
    obtain ⟨hk, hra, -, -, -, -, -, -, hns0, ha0⟩ := kind_of_right hr
    rw [fine_mk] at hf
    obtain ⟨hf1, hf2, hf3, hf4⟩ := hf
    by_cases h5 : k = 5
    · subst h5
      obtain rfl := hns0 (by decide) (by decide)
      obtain rfl := ha0 (by decide)
      exact reffree_var t
    · refine reffree_node k t ns a h5 ?_ (by omega) hf2
      intro e hm
      obtain ⟨j, hj, rfl⟩ := List.getElem_of_mem hm
      exact IH (by omega) _ (by have := esize_get a j hj; omega) ((rights_all a).1 hra _ hm) (hf4 _ hm)
theorem reffree_any (e : Et) (hr : e.right num = true) (hf : e.fine) (hs : e.size ≤ 10000) : RFC e := reffree_tree e.size hs e (Nat.le_refl _) hr hf
end Go.Proofs.Ytpkcoplpfenliaa
