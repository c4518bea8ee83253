/- Contracts of slices.Equal at rows of numbers, and of Same. -/
import Derived.Test.YtlkpddokmibkiaaE2
namespace Go.Proofs.Ytlkpddokmibkiaa
open Go.RowKit
set_option linter.unusedVariables false
set_option linter.unusedSimpArgs false

theorem MAt.form {S : Nat → Prop} {w : World} {mv : Value} {ms : List Int} (h : MAt S w mv ms) : ∃ ao cap, mv = .slice ao ms.length cap := by
  rcases h with ⟨rfl, rfl⟩ | ⟨g, o, cap, arr, fz, rfl, _⟩
  · exact ⟨none, 0, rfl⟩
  · exact ⟨_, _, rfl⟩
theorem MAt.get {S : Nat → Prop} {w : World} {ao : Option Addr} {n cap : Nat} {ms : List Int} (h : MAt S w (.slice ao n cap) ms) (j : Nat) (hj : j < ms.length) :
    ∃ g o, ao = some ⟨g, o, none⟩ ∧ w.cell? ⟨g, o + j, none⟩ = some (.int .i64 ms[j]) := by
  rcases h with ⟨_, rfl⟩ | ⟨g, o, cap', arr, fz, e, hS, hg, hd⟩
  · simp at hj
  · injection e with e1 e2 e3
    subst e1
    exact ⟨g, o, rfl, by rw [Lib.cell_of_heap hg]; exact hd.1 j hj⟩
theorem take_ext (ms ns : List Int) (j : Nat) (h : ms.take j = ns.take j) (h1 : j < ms.length) (h2 : j < ns.length) (he : ms[j] = ns[j]) : ms.take (j + 1) = ns.take (j + 1) := by
  rw [List.take_succ_eq_append_getElem h1, List.take_succ_eq_append_getElem h2, h, he]
/-- The loop of Equal. -/
def EInv (ms ns : List Int) (w : World) (iv : Value) (wr : World) : Prop :=
  ∃ j m : Nat, j ≤ ms.length ∧ iv = .int .i64 j ∧ ms.take j = ns.take j ∧ wr = w.drewN m

set_option maxHeartbeats 2000000 in
theorem equal_any (S T : Nat → Prop) (mv nv : Value) (ms ns : List Int) (w : World) (h1 : MAt S w mv ms) (h2 : MAt T w nv ns) :
    Calls Try.prog 33 #[mv, nv] w (RetBool (ms == ns) w) := by
  have hl := h1.short
  obtain ⟨ao, cap, rfl⟩ := h1.form
  obtain ⟨bo, cap', rfl⟩ := h2.form
  have H1 := Lib.hid h1
  have H2 := Lib.hid h2
  clear h1 h2
  by_cases hlen : ms.length = ns.length
  · have q0 : ((ms.length : Int) != (ns.length : Int)) = false := by simp [hlen]
    have HLN := Lib.hid hlen
    clear hlen
    go_enter Try.func33, Try.ntmps33
    go_wp2_with fail
    go_loopw [13] (fun iv wr => EInv ms ns w iv wr) (fun iv _ => ms.length - (intOf iv).toNat)
    case atStart => exact ⟨0, 0, Nat.zero_le _, rfl, rfl, rfl⟩
    case round =>
      obtain ⟨j, m, hj, rfl, ht, rfl⟩ := hrel
      have HT := Lib.hid ht
      clear ht
      by_cases hlt : j < ms.length
      · have hlt2 : j < ns.length := by have := HLN.out; omega
        obtain ⟨g, o, rfl, e1⟩ := H1.out.get j hlt
        obtain ⟨g2, o2, rfl, e2⟩ := H2.out.get j hlt2
        have hsw : decide ((j : Int) < (ns.length : Int)) = true := decide_eq_true (by omega)
        by_cases he : ms[j] = ns[j]
        · have HN := Lib.hid (take_ext ms ns j HT.out hlt hlt2 he)
          rw [he] at e1
          have q1 : (ns[j] != ns[j]) = false := by simp
          clear he
          go_wp2_with fail
          go_quiet (fail)
          go_wp2_with fail
          go_roundw
          case rel => exact ⟨j + 1, m + nq, by omega, by go_num, HN.out, rfl⟩
          case measure => simp [intOf]; omega
        · have q1 : (ms[j] != ns[j]) = true := by rw [bne_iff_ne]; exact he
          have hr : (ms == ns) = false := by rw [beq_eq_false_iff_ne]; intro e; subst e; exact he rfl
          have HR := Lib.hid hr
          clear he hr
          go_wp2_with fail
          go_quiet (fail)
          go_wp2_with fail
          go_ret
          exact ⟨by rw [HR.out]; rfl, (Below.refl _ _).trans ⟨rfl, rfl, rfl, Nat.le_refl _, fun _ _ => rfl⟩⟩
      · obtain rfl : j = ms.length := by omega
        have hr : (ms == ns) = true := by
          have h := HT.out
          rw [List.take_length, HLN.out, List.take_length] at h
          rw [beq_iff_eq]; exact h
        have HR := Lib.hid hr
        clear hr
        go_wp2_with fail
        go_ret
        exact ⟨by rw [HR.out]; rfl, (Below.refl _ _).trans ⟨rfl, rfl, rfl, Nat.le_refl _, fun _ _ => rfl⟩⟩
  · have q0 : ((ms.length : Int) != (ns.length : Int)) = true := by rw [bne_iff_ne]; omega
    have hr : (ms == ns) = false := by rw [beq_eq_false_iff_ne]; intro e; subst e; exact hlen rfl
    rw [hr]
    clear hlen hr
    go_enter Try.func33, Try.ntmps33
    go_wp2_with fail
    go_ret
    exact ⟨rfl, Below.refl _ _⟩

theorem alloc_old' (w : World) (o : Obj) (k : Nat) (h : k < w.heap.size) : (w.alloc o).heap[k]? = w.heap[k]? := Lib.alloc_old w o k h
theorem bcell28 {W W1 : World} (hb : Below W.heap.size W W1) : ∀ b o, b < W.heap.size → W1.cell? ⟨b, o, none⟩ = W.cell? ⟨b, o, none⟩ := fun b o h => hb.cell (p := ⟨b, o, none⟩) h
/-- What Same answers of two data. -/
def SameOk (n : Nat) : Prop := ∀ (d e : Dt), d.size ≤ n → ∀ (S T : Nat → Prop) (cs ds : Array Value) (w : World), Dt.At S w d cs → Dt.At T w e ds →
    Calls Try.prog 19 #[.agg cs, .agg ds] w (RetBool (d.same e) w)
/-- The loop of EqualFunc. -/
def FInv (l m : List Dt) (w : World) (iv : Value) (wr : World) : Prop :=
  ∃ j : Nat, j ≤ l.length ∧ iv = .int .i64 j ∧ (∀ i (h1 : i < l.length) (h2 : i < m.length), i < j → Dt.same l[i] m[i] = true) ∧ Below w.heap.size w wr

set_option maxHeartbeats 4000000 in
theorem equalFunc_any (n : Nat) (ih : SameOk n) (S T : Nat → Prop) (lv mv : Value) (l m : List Dt) (w : World) (h1 : LAt S w lv l) (h2 : LAt T w mv m) (hn : Dt.sizes l ≤ n) (hn2 : n ≤ 1000000000) :
    Calls Try.prog 34 #[lv, mv, .func (.func 19) #[] #[]] w (RetBool (Dt.sames l m) w) := by
  obtain ⟨ao, cap, rfl⟩ := h1.form
  obtain ⟨bo, cap', rfl⟩ := h2.form
  have H1 := Lib.hid h1
  have H2 := Lib.hid h2
  have IH : Hid (SameOk n) := ih
  have hl := length_sizes l
  clear h1 h2 ih
  by_cases hlen : l.length = m.length
  · have q0 : ((l.length : Int) != (m.length : Int)) = false := by simp [hlen]
    have HLN := Lib.hid hlen
    clear hlen
    go_enter Try.func34, Try.ntmps34
    go_wp2_with fail
    go_loopw [17] (fun iv wr => FInv l m w iv wr) (fun iv _ => l.length - (intOf iv).toNat)
    case atStart => exact ⟨0, Nat.zero_le _, rfl, fun i _ _ h => absurd h (Nat.not_lt_zero i), Below.refl _ _⟩
    case round =>
      obtain ⟨j, hj, rfl, ht, hb⟩ := hrel
      have HT := Lib.hid ht
      have HB := Lib.hid hb
      have G1 := Lib.hid (H1.out.keeps (Keeps.of_below hb))
      have G2 := Lib.hid (H2.out.keeps (Keeps.of_below hb))
      have hBr : w.heap.size ≤ wr.heap.size := hb.size
      clear ht hb
      by_cases hlt : j < l.length
      · have hlt2 : j < m.length := by have := HLN.out; omega
        obtain ⟨g, o, k, t, mv', lv', p, rfl, hS, -, hat, e0, e1, e2, e3, e4, o1, o2⟩ := G1.out.get j hlt
        obtain ⟨g2, o', k2, t2, mv2, lv2, p2, rfl, hS2, -, hat2, f0, f1, f2, f3, f4, o3, o4⟩ := G2.out.get j hlt2
        have hsw : decide ((j : Int) < (m.length : Int)) = true := decide_eq_true (by omega)
        have A1 := Lib.hid hat
        have A2 := Lib.hid hat2
        have z1 : (#[.int .i64 k, .string t, mv', lv', .int .i64 p] : Array Value).all (·.oneCell') = true := by simp [Value.oneCell'] at o1 o2 ⊢; exact ⟨o1, o2⟩
        have z2 : (#[.int .i64 k2, .string t2, mv2, lv2, .int .i64 p2] : Array Value).all (·.oneCell') = true := by simp [Value.oneCell'] at o3 o4 ⊢; exact ⟨o3, o4⟩
        have hsl := size_get l j hlt
        clear hat hat2
        go_upto_region 6 with (refine wpList_store_row rfl 28 _ _ rfl wr.heap.size #[.int .i64 k, .string t, mv', lv', .int .i64 p] rfl rfl 28 Z5 (alloc_at _ _) info28 rfl z1 ?_)
        try simp only [Act.put]
        have E0 : (wr.alloc (.cells #[.int .i64 0, .string ⟨#[]⟩, .slice none 0 0, .slice none 0 0, .int .i64 0] 28)).setRow wr.heap.size #[.int .i64 k, .string t, mv', lv', .int .i64 p] = wr.alloc (.cells #[.int .i64 k, .string t, mv', lv', .int .i64 p] 28) := setRow_new _ _ _ _
        rw [E0]
        clear E0 e0 e1 e2 e3 e4
        have B0 := (Below.refl wr.heap.size wr).alloc (Nat.le_refl _) (.cells #[.int .i64 k, .string t, mv', lv', .int .i64 p] 28)
        have C0 := bcell28 B0
        have f0' := (C0 _ _ (World.block_lt_of_cell? wr _ f0)).trans f0
        have f1' := (C0 _ _ (World.block_lt_of_cell? wr _ f1)).trans f1
        have f2' := (C0 _ _ (World.block_lt_of_cell? wr _ f2)).trans f2
        have f3' := (C0 _ _ (World.block_lt_of_cell? wr _ f3)).trans f3
        have f4' := (C0 _ _ (World.block_lt_of_cell? wr _ f4)).trans f4
        have P1 := Lib.hid (alloc_at wr (.cells #[.int .i64 k, .string t, mv', lv', .int .i64 p] 28))
        have P2 := Lib.hid B0
        have P3 : (wr.alloc (.cells #[.int .i64 k, .string t, mv', lv', .int .i64 p] 28)).heap.size = wr.heap.size + 1 := by simp
        generalize wr.alloc (.cells #[.int .i64 k, .string t, mv', lv', .int .i64 p] 28) = W1 at f0' f1' f2' f3' f4' P1 P2 P3 ⊢
        clear C0 B0 f0 f1 f2 f3 f4
        go_upto_region 7 with (refine wpList_store_row rfl 28 _ _ rfl (wr.heap.size + 1) #[.int .i64 k2, .string t2, mv2, lv2, .int .i64 p2] rfl rfl 28 Z5 (by rw [← P3]; exact alloc_at _ _) info28 rfl z2 ?_)
        try simp only [Act.put]
        have E0 : (W1.alloc (.cells #[.int .i64 0, .string ⟨#[]⟩, .slice none 0 0, .slice none 0 0, .int .i64 0] 28)).setRow (wr.heap.size + 1) #[.int .i64 k2, .string t2, mv2, lv2, .int .i64 p2] = W1.alloc (.cells #[.int .i64 k2, .string t2, mv2, lv2, .int .i64 p2] 28) := by rw [← P3]; exact setRow_new _ _ _ _
        rw [E0]
        clear E0 f0' f1' f2' f3' f4'
        have B0 := (Below.refl W1.heap.size W1).alloc (Nat.le_refl _) (.cells #[.int .i64 k2, .string t2, mv2, lv2, .int .i64 p2] 28)
        have Q1 := Lib.hid (alloc_at W1 (.cells #[.int .i64 k2, .string t2, mv2, lv2, .int .i64 p2] 28))
        have Q2 := Lib.hid ((alloc_old' W1 (.cells #[.int .i64 k2, .string t2, mv2, lv2, .int .i64 p2] 28) wr.heap.size (by omega)).trans P1.out)
        have Q3 := Lib.hid (P2.out.trans (B0.mono (by omega)))
        have Q4 := Lib.hid (Dt.At.keeps (Keeps.of_below Q3.out) _ _ A1.out)
        have Q5 := Lib.hid (Dt.At.keeps (Keeps.of_below Q3.out) _ _ A2.out)
        have Q6 : wr.heap.size ≤ (W1.alloc (.cells #[.int .i64 k2, .string t2, mv2, lv2, .int .i64 p2] 28)).heap.size := by simp; omega
        generalize hW2 : W1.alloc (.cells #[.int .i64 k2, .string t2, mv2, lv2, .int .i64 p2] 28) = W2 at Q1 Q2 Q3 Q4 Q5 Q6 ⊢
        have Q7 := Lib.hid (P3 ▸ Q1.out)
        clear B0 P1 P2 A1 A2 hW2 Q1 P3
        have Q8 := Lib.hid (HB.out.trans (Q3.out.mono hBr))
        have HC := Lib.hid (IH.out l[j] m[j] (by omega) S T _ _ W2 Q4.out Q5.out)
        clear G1 G2
        by_cases hs : Dt.same l[j] m[j] = true
        · rw [hs] at HC
          have HN : Hid (∀ i (h1 : i < l.length) (h2 : i < m.length), i < j + 1 → Dt.same l[i] m[i] = true) := by
            intro i h1 h2 h3
            by_cases hij : i = j
            · subst hij; exact hs
            · exact HT.out i h1 h2 (by omega)
          clear hs
          go_wp2_with (first | (refine wpList_load_row rfl 28 _ rfl wr.heap.size rfl 28 #[.int .i64 k, .string t, mv', lv', .int .i64 p] (0, 0) _ Q2.out Try.underlying28 rfl info28 ?_) | (refine wpList_load_row rfl 28 _ rfl (wr.heap.size + 1) rfl 28 #[.int .i64 k2, .string t2, mv2, lv2, .int .i64 p2] (0, 0) _ Q7.out Try.underlying28 rfl info28 ?_))
          refine HC.out.mono ?_
          rintro e w4 ⟨rfl, hb4⟩
          have HD := Lib.hid (Q8.out.trans (hb4.mono (by omega)))
          clear hb4
          go_wp2_with fail
          go_roundw
          case rel => exact ⟨j + 1, by omega, by go_num, HN.out, HD.out⟩
          case measure => simp [intOf]; omega
        · have hs' : Dt.same l[j] m[j] = false := by simpa using hs
          rw [hs'] at HC
          have hr := sames_get l m j hlt hlt2 hs'
          have HR := Lib.hid hr
          clear hs hs' hr
          go_wp2_with (first | (refine wpList_load_row rfl 28 _ rfl wr.heap.size rfl 28 #[.int .i64 k, .string t, mv', lv', .int .i64 p] (0, 0) _ Q2.out Try.underlying28 rfl info28 ?_) | (refine wpList_load_row rfl 28 _ rfl (wr.heap.size + 1) rfl 28 #[.int .i64 k2, .string t2, mv2, lv2, .int .i64 p2] (0, 0) _ Q7.out Try.underlying28 rfl info28 ?_))
          refine HC.out.mono ?_
          rintro e w4 ⟨rfl, hb4⟩
          have HD := Lib.hid (Q8.out.trans (hb4.mono (by omega)))
          clear hb4
          go_wp2_with fail
          go_ret
          exact ⟨by rw [HR.out]; rfl, HD.out⟩
      · obtain rfl : j = l.length := by omega
        have hr : Dt.sames l m = true := sames_all l m HLN.out (fun i h1 h2 => HT.out i h1 h2 h1)
        have HR := Lib.hid hr
        clear hr hlt
        go_wp2_with fail
        go_ret
        exact ⟨by rw [HR.out]; rfl, HB.out⟩
  · have q0 : ((l.length : Int) != (m.length : Int)) = true := by rw [bne_iff_ne]; omega
    rw [sames_len l m hlen]
    clear hlen
    go_enter Try.func34, Try.ntmps34
    go_wp2_with fail
    go_ret
    exact ⟨rfl, Below.refl _ _⟩
end Go.Proofs.Ytlkpddokmibkiaa
