/- The document's reader: a datum of signs. -/
import Derived.Test.YthhaegncnoekbaaYAA
import Derived.Test.YthhaegncnoekbaaYAF
import Derived.Test.YthhaegncnoekbaaYAG
set_option linter.unusedVariables false
set_option linter.unusedSimpArgs false
namespace Go.Proofs.Ythhaegncnoekbaa
open Go.RowKit Go.BigM
/-- What next leaves. -/
def RetNx (g : Nat) (s : ByteArray) (p : Nat) (b : UInt8) (es : List En) (out : List Dt) (w : World) (e : Ending) (w' : World) : Prop :=
  e = .returned (.int .i64 (nxt s p b es out).1) ∧ Below g w w' ∧ w.heap.size ≤ w'.heap.size ∧
    ((nxt s p b es out).1 = 0 → ∃ D', RdAt D' w'.heap.size w' g s (nxt s p b es out).2.1 (nxt s p b es out).2.2.1 (nxt s p b es out).2.2.2) ∧
    ((nxt s p b es out).1 ≠ 0 → ∃ ov dv, Rs3 w' g s p ov dv)
theorem nxt_tok {s : ByteArray} {p : Nat} {b : UInt8} {es : List En} {out : List Dt} (h1 : b ≠ 40) (h2 : b ≠ 39) (h3 : b ≠ 41) {r : Option (Int × ByteArray × Nat)} (hr : tokOf (s.data.toList.drop p) = r) :
    nxt s p b es out = match (generalizing := false) r with
      | none => (3, p, es, out)
      | some (k, t, m) => (0, p + m, (putS (.mk k t [] [] p) es out).1, (putS (.mk k t [] [] p) es out).2) := by
  subst hr
  unfold nxt
  rw [if_neg (fun h => h.elim h1 h2), if_neg h3]
  split <;> simp_all
theorem sset_not (b : UInt8) (h : sset.contains b = true) : b ≠ 40 ∧ b ≠ 39 ∧ b ≠ 41 ∧ b ≠ 35 := by
  have key : ∀ b : UInt8, sset.contains b = true → b ≠ 40 ∧ b ≠ 39 ∧ b ≠ 41 ∧ b ≠ 35 := u8_all (by decide +kernel)
  exact key b h
theorem tok_sign {l : List UInt8} {b : UInt8} {r : List UInt8} (hl : l = b :: r) (hb : sset.contains b = true) {m : Nat} (hm : rowOf sset l = m) :
    tokOf l = if isNum (l.take m) then (if Canon (numOf (l.take m)) then some (1, ⟨(numOf (l.take m)).toArray⟩, m) else none) else if 0 < rowOf dset (l.take m) then none else some (3, ⟨(l.take m).toArray⟩, m) := by
  have h35 := (sset_not b hb).2.2.2
  have h0 : m ≠ 0 := by
    rw [← hm, hl]; unfold rowOf; rw [List.takeWhile_cons, if_pos hb]; simp
  unfold tokOf
  rw [hm, if_neg ?_, if_neg h0]
  rw [hl]
  have : (35 : UInt8) ≠ b := fun e => h35 e.symm
  simp [Lib.hasPrefix, List.isPrefixOf, this]
theorem row_dig {b : UInt8} {r : List UInt8} {m : Nat} (hm : 0 < m) : (0 < rowOf dset ((b :: r).take m)) ↔ dset.contains b = true := by
  obtain ⟨k, rfl⟩ : ∃ k, m = k + 1 := ⟨m - 1, by omega⟩
  rw [List.take_succ_cons]
  unfold rowOf
  rw [List.takeWhile_cons]
  cases h : dset.contains b <;> simp
theorem numOf_len (l : List UInt8) (h : isNum l = true) : (numOf l).length ≤ l.length := by
  unfold isNum at h
  have h0 : 0 < (strip l).length := by
    rw [Bool.and_eq_true, decide_eq_true_eq] at h; exact h.1
  have h1 := strip_le l
  have h2 : ((strip l).dropWhile (· == 48)).length ≤ (strip l).length := (List.dropWhile_suffix _).length_le
  unfold numOf
  split
  · simp; omega
  · split
    · rename_i hl
      have h3 : (strip l).length + 1 = l.length := by
        rw [strip_low l hl, List.length_tail]
        cases l with
        | nil => simp [low] at hl
        | cons a l => simp
      simp; omega
    · omega
theorem row_pos {s : ByteArray} {p : Nat} (hp : p < s.size) (h : sset.contains s[p] = true) : 0 < rowOf sset (s.data.toList.drop p) := by
  rw [drop_at s p hp]; unfold rowOf; rw [List.takeWhile_cons, if_pos h]; simp
theorem tok_row {s : ByteArray} {p q : Nat} {b : UInt8} (hp : p < s.size) (hb : s[p] = b) (hsb : sset.contains b = true) (hm : rowOf sset (s.data.toList.drop p) = q - p) :
    tokOf (s.data.toList.drop p) = if isNum (s.extract p q).data.toList then (if Canon (numOf (s.extract p q).data.toList) then some (1, ⟨(numOf (s.extract p q).data.toList).toArray⟩, q - p) else none) else if dset.contains b = true then none else some (3, s.extract p q, q - p) := by
  have hl := drop_at s p hp
  rw [hb] at hl
  have h0 := row_pos hp (by rw [hb]; exact hsb)
  have e1 : (s.extract p q).data.toList = (s.data.toList.drop p).take (q - p) := by
    rw [ByteArray.data_extract, Array.toList_extract, List.extract_eq_take_drop]
  have e2 : s.extract p q = ⟨((s.data.toList.drop p).take (q - p)).toArray⟩ := by
    rw [← e1]
  rw [tok_sign hl hsb hm, ← e1]
  have hd := row_dig (b := b) (r := s.data.toList.drop (p + 1)) (m := q - p) (by omega)
  rw [← hl, ← e1] at hd
  by_cases h : dset.contains b = true
  · rw [if_pos h, if_pos (hd.2 h)]
  · rw [if_neg h, if_neg (fun h2 => h (hd.1 h2))]
theorem rd_moved {D : Nat → Prop} {N : Nat} {w X : World} {g : Nat} {s : ByteArray} {p q : Nat} {es : List En} {out : List Dt} {ov dv : Value} (h : RdAt D N w g s p es out) (hf : Rs3 w g s p ov dv) (ho : Only g w X) (hr : Rs3 X g s q ov dv) : RdAt D N X g s q es out := by
  refine h.only ho (fun a b hab => ?_)
  have e := hab
  unfold Rs3 at e hf
  rw [hf] at e
  injection e with e
  injection e with e _ _
  simp only [Array.mk.injEq, List.cons.injEq, and_true, true_and] at e
  obtain ⟨rfl, rfl⟩ := e
  exact hr
theorem only_below {g : Nat} {w X : World} (h : Only g w X) : Below g w X := ⟨h.os, h.tape, h.output, by rw [h.size]; exact Nat.le_refl _, fun k hk => h.block k (by omega)⟩
theorem num_str (T : ByteArray) (h : isNum T.data.toList = true) : ∃ T2 : ByteArray, T2.data.toList = numOf T.data.toList ∧ (⟨(numOf T.data.toList).toArray⟩ : ByteArray) = T2 ∧ T2.size ≤ T.size := by
  refine ⟨⟨(numOf T.data.toList).toArray⟩, rfl, rfl, ?_⟩
  have h1 := numOf_len T.data.toList h
  rw [← Lib.size_eq] at h1
  simp only [ByteArray.size, List.size_toArray]
  simp only [ByteArray.size] at h1
  exact h1
theorem num_call {T T2 : ByteArray} (hn : isNum T.data.toList = true) (h2 : (⟨(numOf T.data.toList).toArray⟩ : ByteArray) = T2) (h0 : 0 < T.size) (hs : T.size ≤ 9000) (w : World) : Calls Try.prog 96 #[.string T] w fun e w' => e = .returned (.tuple #[.string T2, .bool true]) ∧ w = w' := by
  refine (number3_any T w h0 hs).mono (fun e w' h => ?_)
  obtain ⟨rfl, rfl⟩ := h
  rw [hn, if_pos rfl, h2]
  exact ⟨rfl, rfl⟩
theorem num_none {T : ByteArray} (hn : isNum T.data.toList = false) (h0 : 0 < T.size) (hs : T.size ≤ 9000) (w : World) : Calls Try.prog 96 #[.string T] w fun e w' => e = .returned (.tuple #[.string ⟨#[]⟩, .bool false]) ∧ w = w' := by
  refine (number3_any T w h0 hs).mono (fun e w' h => ?_)
  obtain ⟨rfl, rfl⟩ := h
  rw [hn, if_neg (by decide)]
  exact ⟨rfl, rfl⟩
def RwI (g : Nat) (s : ByteArray) (p : Nat) (ov dv : Value) (w wr : World) : Prop := ∃ q : Nat, p ≤ q ∧ q ≤ s.size ∧ (∀ i (h : i < s.size), p ≤ i → i < q → sset.contains s[i] = true) ∧ Rs3 wr g s q ov dv ∧ Only g w wr
/-- The row's end. -/
theorem row_end {s : ByteArray} {p q : Nat} (hpq : p ≤ q) (hq : q ≤ s.size) (hin : ∀ i (h : i < s.size), p ≤ i → i < q → sset.contains s[i] = true) (hout : ∀ h : q < s.size, sset.contains s[q] = false) : rowOf sset (s.data.toList.drop p) = q - p := by
  have hz := Lib.size_eq s
  refine rowOf_end sset _ _ (by rw [List.length_drop]; omega) (fun i hi hik => ?_) (fun h => ?_)
  · rw [List.getElem_drop]
    exact hin (p + i) (by rw [List.length_drop] at hi; omega) (by omega) (by omega)
  · rw [List.getElem_drop]
    have e : p + (q - p) = q := by omega
    simp only [e]
    exact hout (by rw [List.length_drop] at h; omega)
set_option maxHeartbeats 16000000 in
set_option maxRecDepth 100000 in
theorem row3_any {D : Nat → Prop} (g : Nat) (s : ByteArray) (p : Nat) (es : List En) (out : List Dt) (b : UInt8) (w : World) (h : RdAt D w.heap.size w g s p es out) (hgN : g < w.heap.size) (hp : p < s.size) (hb : s[p] = b) (hsb : sset.contains b = true) (hs : s.size ≤ 8000) (hB : Bnd es out p) :
    Calls Try.prog 86 #[.pointer (some ⟨g, 0, none⟩)] w (RetNx g s p b es out w) := by
  obtain ⟨ao, c, bo, dd, hf⟩ := h.form
  obtain ⟨ov, hov⟩ : ∃ v, v = Value.slice ao es.length c := ⟨_, rfl⟩
  obtain ⟨dv, hdv⟩ : ∃ v, v = Value.slice bo out.length dd := ⟨_, rfl⟩
  rw [← hov, ← hdv] at hf
  have HH := Lib.hid h
  have HF := Lib.hid hf
  have HB := Lib.hid hB
  have HBB := Lib.hid hb
  have hd1 := hf.cells.2.1
  have HST0 : Hid (RwI g s p ov dv w w) := ⟨p, Nat.le_refl _, by omega, fun i _ h1 h2 => by omega, hf, Only.refl _ _⟩
  clear h hB hov hdv hf hb
  go_enter Try.func86, Try.ntmps86
  go_wp2_with fail
  clear hd1
  go_loopw [] (fun wr => RwI g s p ov dv w wr) (fun wr => s.size - plc g wr)
  case atStart => exact HST0.out
  case round =>
    obtain ⟨q, hpq, hq, hin, hR, hO⟩ := hrel
    have HPW := Lib.hid hR.plc
    have HR := Lib.hid hR
    have HO := Lib.hid hO
    have HIN := Lib.hid hin
    clear hR hO hin HST0
    by_cases hlt : q < s.size
    · have q1 : decide ((q : Int) < (s.size : Int)) = true := decide_eq_true (by omega)
      cases hsg : sset.contains (s[q]'hlt) with
      | true =>
        have HSG := Lib.hid hsg
        go_upto_region 2 with fail
        have HC : Hid (∀ w', Below wr.heap.size wr w' → w'.cell? ⟨g, 0, none⟩ = some (.string s) ∧ w'.cell? ⟨g, 1, none⟩ = some (.int .i64 (q : Int)) ∧ w'.cell? ⟨g, 2, none⟩ = some ov ∧ w'.cell? ⟨g, 3, none⟩ = some dv) := fun w' hw' => by
          have h9 : w'.heap[g]? = some (.cells #[.string s, .int .i64 (q : Int), ov, dv] 114 (0, 0)) := by rw [hw'.block g HR.out.lt]; exact HR.out
          exact Rs3.cells (p := q) h9
        have HS0 : Hid (Below wr.heap.size wr wr.drew) := (Below.refl _ _).drew
        replace HO : Hid (Only g w wr.drew) := HO.out.trans (Only.drew g wr)
        replace HR : Hid (Rs3 wr.drew g s q ov dv) := HR.out
        refine wp_region_noPanic ?_
        refine wp_region_held_drew (S := Below wr.heap.size wr) (by kernel_rfl) HS0.out (fun hHeld => ?_)
        generalize wr.drew = X0 at HS0 HO HR hHeld ⊢
        refine qtk (i := 0) (v := ?v0) rfl rfl (fun w' hw' => ?h0) hHeld ?r0
        case h0 => go_simp; try with_reducible rfl
        simp only [zt,zs,zz,Act.put,zi,zy,zx]
        refine qtk (i := 1) (v := ?v1) rfl rfl (fun w' hw' => ?h1) hHeld ?r1
        case h1 => go_simp; try with_reducible rfl
        simp only [zt,zs,zz,Act.put,zi,zy,zx]
        refine qtk (i := 2) (v := ?v2) rfl rfl (fun w' hw' => ?h2) hHeld ?r2
        case h2 => go_simp; try with_reducible rfl
        simp only [zt,zs,zz,Act.put,zi,zy,zx]
        refine qtk (i := 3) (v := ?v3) rfl rfl (fun w' hw' => ?h3) hHeld ?r3
        case h3 => (obtain ⟨d0, d1, d2, d3⟩ := HC.out w' hw'; go_simp); try with_reducible rfl
        simp only [zt,zs,zz,Act.put,zi,zy,zx]
        refine qtk (i := 4) (v := ?v4) rfl rfl (fun w' hw' => ?h4) hHeld ?r4
        case h4 => go_simp; try with_reducible rfl
        simp only [zt,zs,zz,Act.put,zi,zy,zx]
        refine qtk (i := 5) (v := ?v5) rfl rfl (fun w' hw' => ?h5) hHeld ?r5
        case h5 => go_simp; try with_reducible rfl
        simp only [zt,zs,zz,Act.put,zi,zy,zx]
        refine qtk (i := 6) (v := ?v6) rfl rfl (fun w' hw' => ?h6) hHeld ?r6
        case h6 => go_simp; try with_reducible rfl
        simp only [zt,zs,zz,Act.put,zi,zy,zx]
        refine qtk (i := 7) (v := ?v7) rfl rfl (fun w' hw' => ?h7) hHeld ?r7
        case h7 => (obtain ⟨d0, d1, d2, d3⟩ := HC.out w' hw'; go_simp); try with_reducible rfl
        simp only [zt,zs,zz,Act.put,zi,zy,zx]
        refine qtk (i := 8) (v := ?v8) rfl rfl (fun w' hw' => ?h8) hHeld ?r8
        case h8 => go_simp; try with_reducible rfl
        simp only [zt,zs,zz,Act.put,zi,zy,zx]
        refine qtk (i := 9) (v := ?v9) rfl rfl (fun w' hw' => ?h9) hHeld ?r9
        case h9 => go_simp; try with_reducible rfl
        simp only [zt,zs,zz,Act.put,zi,zy,zx]
        refine qtk (i := 10) (v := ?v10) rfl rfl (fun w' hw' => ?h10) hHeld ?r10
        case h10 => go_simp; try with_reducible rfl
        simp only [zt,zs,zz,Act.put,zi,zy,zx]
        refine qtk (i := 11) (v := ?v11) rfl rfl (fun w' hw' => ?h11) hHeld ?r11
        case h11 => go_simp; try with_reducible rfl
        simp only [zt,zs,zz,Act.put,zi,zy,zx]
        refine qtk (i := 12) (v := ?v12) rfl rfl (fun w' hw' => ?h12) hHeld ?r12
        case h12 => go_simp; try with_reducible rfl
        simp only [zt,zs,zz,Act.put,zi,zy,zx]
        refine qtk (i := 13) (v := ?v13) rfl rfl (fun w' hw' => ?h13) hHeld ?r13
        case h13 => go_simp; try with_reducible rfl
        simp only [zt,zs,zz,Act.put,zi,zy,zx]
        refine qtk (i := 14) (v := ?v14) rfl rfl (fun w' hw' => ?h14) hHeld ?r14
        case h14 => (obtain ⟨d0, d1, d2, d3⟩ := HC.out w' hw'; go_simp); try with_reducible rfl
        simp only [zt,zs,zz,Act.put,zi,zy,zx]
        refine qtk (i := 15) (v := ?v15) rfl rfl (fun w' hw' => ?h15) hHeld ?r15
        case h15 => go_simp; try with_reducible rfl
        simp only [zt,zs,zz,Act.put,zi,zy,zx]
        refine qtk (i := 16) (v := ?v16) rfl rfl (fun w' hw' => ?h16) hHeld ?r16
        case h16 => go_simp; try with_reducible rfl
        simp only [zt,zs,zz,Act.put,zi,zy,zx]
        refine qtk (i := 17) (v := ?v17) rfl rfl (fun w' hw' => ?h17) hHeld ?r17
        case h17 => go_simp; try with_reducible rfl
        simp only [zt,zs,zz,Act.put,zi,zy,zx]
        refine qtk (i := 18) (v := ?v18) rfl rfl (fun w' hw' => ?h18) hHeld ?r18
        case h18 => (obtain ⟨d0, d1, d2, d3⟩ := HC.out w' hw'; go_simp); try with_reducible rfl
        simp only [zt,zs,zz,Act.put,zi,zy,zx]
        refine qtk (i := 19) (v := ?v19) rfl rfl (fun w' hw' => ?h19) hHeld ?r19
        case h19 => go_simp; try with_reducible rfl
        simp only [zt,zs,zz,Act.put,zi,zy,zx]
        refine wpAnyH_ready (rs := [20]) (by kernel_rfl) (by simp) ?_
        refine (AllReadyH.cons rfl (fun K hK => ?_) AllReadyH.nil)
        go_simp
        refine (sign_any _ _).mono ?_
        rintro e w' ⟨rfl, rfl⟩
        simp only [hsg]
        refine hK.out _ _ hHeld (fun hHeld => ?_)
        clear hK K
        try simp only [zt,zs,zz,Act.put,zi,zy,zx]
        refine qtk (i := 21) (v := ?v20) rfl rfl (fun w' hw' => ?h20) hHeld ?r20
        case h20 => go_simp; try with_reducible rfl
        simp only [zt,zs,zz,Act.put,zi,zy,zx]
        refine wpAnyH_done (by kernel_rfl) ?_ _
        refine NoPanic.normal ?_
        clear hHeld
        clear HC HS0
        have d1 := HR.out.cells.2.1
        have fz := HR.out.frozen 1
        have HR1 := Lib.hid (HR.out.setP (q + 1))
        have HO1 := Lib.hid (HO.out.trans (Only.set g 1 (.int .i64 ((q + 1 : Nat) : Int)) X0))
        have e9 := wrap_succ q (by omega)
        have hpl := HR1.out.plc
        have HPL := Lib.hid hpl
        clear hpl HR HO
        go_wp2_with fail
        go_roundw
        case rel => exact ⟨q + 1, by omega, by omega, fun i h1 h2 h3 => (if e : i = q then (by subst e; exact HSG.out) else HIN.out i h1 h2 (by omega)), HR1.out, HO1.out⟩
        case measure =>
          have h1 := HPL.out
          push_cast at h1
          have h2 := HPW.out
          omega
      | false =>
        have HSG := Lib.hid hsg
        have HM : Hid (rowOf sset (s.data.toList.drop p) = q - p) := row_end hpq hq HIN.out (fun _ => HSG.out)
        go_upto_region 2 with fail
        have HC : Hid (∀ w', Below wr.heap.size wr w' → w'.cell? ⟨g, 0, none⟩ = some (.string s) ∧ w'.cell? ⟨g, 1, none⟩ = some (.int .i64 (q : Int)) ∧ w'.cell? ⟨g, 2, none⟩ = some ov ∧ w'.cell? ⟨g, 3, none⟩ = some dv) := fun w' hw' => by
          have h9 : w'.heap[g]? = some (.cells #[.string s, .int .i64 (q : Int), ov, dv] 114 (0, 0)) := by rw [hw'.block g HR.out.lt]; exact HR.out
          exact Rs3.cells (p := q) h9
        have HS0 : Hid (Below wr.heap.size wr wr.drew) := (Below.refl _ _).drew
        replace HO : Hid (Only g w wr.drew) := HO.out.trans (Only.drew g wr)
        replace HR : Hid (Rs3 wr.drew g s q ov dv) := HR.out
        refine wp_region_noPanic ?_
        refine wp_region_held_drew (S := Below wr.heap.size wr) (by kernel_rfl) HS0.out (fun hHeld => ?_)
        generalize wr.drew = X0 at HS0 HO HR hHeld ⊢
        refine qtk (i := 0) (v := ?v21) rfl rfl (fun w' hw' => ?h21) hHeld ?r21
        case h21 => go_simp; try with_reducible rfl
        simp only [zt,zs,zz,Act.put,zi,zy,zx]
        refine qtk (i := 1) (v := ?v22) rfl rfl (fun w' hw' => ?h22) hHeld ?r22
        case h22 => go_simp; try with_reducible rfl
        simp only [zt,zs,zz,Act.put,zi,zy,zx]
        refine qtk (i := 2) (v := ?v23) rfl rfl (fun w' hw' => ?h23) hHeld ?r23
        case h23 => go_simp; try with_reducible rfl
        simp only [zt,zs,zz,Act.put,zi,zy,zx]
        refine qtk (i := 3) (v := ?v24) rfl rfl (fun w' hw' => ?h24) hHeld ?r24
        case h24 => (obtain ⟨d0, d1, d2, d3⟩ := HC.out w' hw'; go_simp); try with_reducible rfl
        simp only [zt,zs,zz,Act.put,zi,zy,zx]
        refine qtk (i := 4) (v := ?v25) rfl rfl (fun w' hw' => ?h25) hHeld ?r25
        case h25 => go_simp; try with_reducible rfl
        simp only [zt,zs,zz,Act.put,zi,zy,zx]
        refine qtk (i := 5) (v := ?v26) rfl rfl (fun w' hw' => ?h26) hHeld ?r26
        case h26 => go_simp; try with_reducible rfl
        simp only [zt,zs,zz,Act.put,zi,zy,zx]
        refine qtk (i := 6) (v := ?v27) rfl rfl (fun w' hw' => ?h27) hHeld ?r27
        case h27 => go_simp; try with_reducible rfl
        simp only [zt,zs,zz,Act.put,zi,zy,zx]
        refine qtk (i := 7) (v := ?v28) rfl rfl (fun w' hw' => ?h28) hHeld ?r28
        case h28 => (obtain ⟨d0, d1, d2, d3⟩ := HC.out w' hw'; go_simp); try with_reducible rfl
        simp only [zt,zs,zz,Act.put,zi,zy,zx]
        refine qtk (i := 8) (v := ?v29) rfl rfl (fun w' hw' => ?h29) hHeld ?r29
        case h29 => go_simp; try with_reducible rfl
        simp only [zt,zs,zz,Act.put,zi,zy,zx]
        refine qtk (i := 9) (v := ?v30) rfl rfl (fun w' hw' => ?h30) hHeld ?r30
        case h30 => go_simp; try with_reducible rfl
        simp only [zt,zs,zz,Act.put,zi,zy,zx]
        refine qtk (i := 10) (v := ?v31) rfl rfl (fun w' hw' => ?h31) hHeld ?r31
        case h31 => go_simp; try with_reducible rfl
        simp only [zt,zs,zz,Act.put,zi,zy,zx]
        refine qtk (i := 11) (v := ?v32) rfl rfl (fun w' hw' => ?h32) hHeld ?r32
        case h32 => go_simp; try with_reducible rfl
        simp only [zt,zs,zz,Act.put,zi,zy,zx]
        refine qtk (i := 12) (v := ?v33) rfl rfl (fun w' hw' => ?h33) hHeld ?r33
        case h33 => go_simp; try with_reducible rfl
        simp only [zt,zs,zz,Act.put,zi,zy,zx]
        refine qtk (i := 13) (v := ?v34) rfl rfl (fun w' hw' => ?h34) hHeld ?r34
        case h34 => go_simp; try with_reducible rfl
        simp only [zt,zs,zz,Act.put,zi,zy,zx]
        refine qtk (i := 14) (v := ?v35) rfl rfl (fun w' hw' => ?h35) hHeld ?r35
        case h35 => (obtain ⟨d0, d1, d2, d3⟩ := HC.out w' hw'; go_simp); try with_reducible rfl
        simp only [zt,zs,zz,Act.put,zi,zy,zx]
        refine qtk (i := 15) (v := ?v36) rfl rfl (fun w' hw' => ?h36) hHeld ?r36
        case h36 => go_simp; try with_reducible rfl
        simp only [zt,zs,zz,Act.put,zi,zy,zx]
        refine qtk (i := 16) (v := ?v37) rfl rfl (fun w' hw' => ?h37) hHeld ?r37
        case h37 => go_simp; try with_reducible rfl
        simp only [zt,zs,zz,Act.put,zi,zy,zx]
        refine qtk (i := 17) (v := ?v38) rfl rfl (fun w' hw' => ?h38) hHeld ?r38
        case h38 => go_simp; try with_reducible rfl
        simp only [zt,zs,zz,Act.put,zi,zy,zx]
        refine qtk (i := 18) (v := ?v39) rfl rfl (fun w' hw' => ?h39) hHeld ?r39
        case h39 => (obtain ⟨d0, d1, d2, d3⟩ := HC.out w' hw'; go_simp); try with_reducible rfl
        simp only [zt,zs,zz,Act.put,zi,zy,zx]
        refine qtk (i := 19) (v := ?v40) rfl rfl (fun w' hw' => ?h40) hHeld ?r40
        case h40 => go_simp; try with_reducible rfl
        simp only [zt,zs,zz,Act.put,zi,zy,zx]
        refine wpAnyH_ready (rs := [20]) (by kernel_rfl) (by simp) ?_
        refine (AllReadyH.cons rfl (fun K hK => ?_) AllReadyH.nil)
        go_simp
        refine (sign_any _ _).mono ?_
        rintro e w' ⟨rfl, rfl⟩
        simp only [hsg]
        refine hK.out _ _ hHeld (fun hHeld => ?_)
        clear hK K
        try simp only [zt,zs,zz,Act.put,zi,zy,zx]
        refine qtk (i := 21) (v := ?v41) rfl rfl (fun w' hw' => ?h41) hHeld ?r41
        case h41 => go_simp; try with_reducible rfl
        simp only [zt,zs,zz,Act.put,zi,zy,zx]
        refine wpAnyH_done (by kernel_rfl) ?_ _
        refine NoPanic.normal ?_
        clear hHeld
        clear HC HS0
        have hpq1 : p < q := by have h1 := row_pos hp (by rw [HBB.out]; exact hsb); have h2 := HM.out; omega
        have HTK := Lib.hid (tok_row hp HBB.out hsb HM.out)
        have hq8 : q ≤ 8000 := by omega
        go_upto_region 4 with fail
        have HC : Hid (∀ w', Below X0.heap.size X0 w' → w'.cell? ⟨g, 0, none⟩ = some (.string s) ∧ w'.cell? ⟨g, 1, none⟩ = some (.int .i64 (q : Int)) ∧ w'.cell? ⟨g, 2, none⟩ = some ov ∧ w'.cell? ⟨g, 3, none⟩ = some dv) := fun w' hw' => by
          have h9 : w'.heap[g]? = some (.cells #[.string s, .int .i64 (q : Int), ov, dv] 114 (0, 0)) := by rw [hw'.block g HR.out.lt]; exact HR.out
          exact Rs3.cells (p := q) h9
        have HS0 : Hid (Below X0.heap.size X0 X0.drew) := (Below.refl _ _).drew
        replace HO : Hid (Only g w X0.drew) := HO.out.trans (Only.drew g X0)
        replace HR : Hid (Rs3 X0.drew g s q ov dv) := HR.out
        refine wp_region_noPanic ?_
        refine wp_region_held_drew (S := Below X0.heap.size X0) (by kernel_rfl) HS0.out (fun hHeld => ?_)
        generalize X0.drew = X1 at HS0 HO HR hHeld ⊢
        refine qtk (i := 0) (v := ?v42) rfl rfl (fun w' hw' => ?h42) hHeld ?r42
        case h42 => go_simp; try with_reducible rfl
        simp only [zt,zs,zz,Act.put,zi,zy,zx]
        refine qtk (i := 1) (v := ?v43) rfl rfl (fun w' hw' => ?h43) hHeld ?r43
        case h43 => go_simp; try with_reducible rfl
        simp only [zt,zs,zz,Act.put,zi,zy,zx]
        refine qtk (i := 2) (v := ?v44) rfl rfl (fun w' hw' => ?h44) hHeld ?r44
        case h44 => go_simp; try with_reducible rfl
        simp only [zt,zs,zz,Act.put,zi,zy,zx]
        refine qtk (i := 3) (v := ?v45) rfl rfl (fun w' hw' => ?h45) hHeld ?r45
        case h45 => (obtain ⟨d0, d1, d2, d3⟩ := HC.out w' hw'; go_simp); try with_reducible rfl
        simp only [zt,zs,zz,Act.put,zi,zy,zx]
        refine qtk (i := 4) (v := ?v46) rfl rfl (fun w' hw' => ?h46) hHeld ?r46
        case h46 => go_simp; try with_reducible rfl
        simp only [zt,zs,zz,Act.put,zi,zy,zx]
        refine qtk (i := 5) (v := ?v47) rfl rfl (fun w' hw' => ?h47) hHeld ?r47
        case h47 => go_simp; try with_reducible rfl
        simp only [zt,zs,zz,Act.put,zi,zy,zx]
        refine qtk (i := 6) (v := ?v48) rfl rfl (fun w' hw' => ?h48) hHeld ?r48
        case h48 => go_simp; try with_reducible rfl
        simp only [zt,zs,zz,Act.put,zi,zy,zx]
        refine qtk (i := 7) (v := ?v49) rfl rfl (fun w' hw' => ?h49) hHeld ?r49
        case h49 => go_simp; try with_reducible rfl
        simp only [zt,zs,zz,Act.put,zi,zy,zx]
        refine qtk (i := 8) (v := ?v50) rfl rfl (fun w' hw' => ?h50) hHeld ?r50
        case h50 => (obtain ⟨d0, d1, d2, d3⟩ := HC.out w' hw'; go_simp); try with_reducible rfl
        simp only [zt,zs,zz,Act.put,zi,zy,zx]
        refine qtk (i := 9) (v := ?v51) rfl rfl (fun w' hw' => ?h51) hHeld ?r51
        case h51 => go_simp; try with_reducible rfl
        simp only [zt,zs,zz,Act.put,zi,zy,zx]
        refine qtk (i := 10) (v := ?v52) rfl rfl (fun w' hw' => ?h52) hHeld ?r52
        case h52 => go_simp; try with_reducible rfl
        simp only [zt,zs,zz,Act.put,zi,zy,zx]
        refine wpAnyH_done (by kernel_rfl) ?_ _
        refine NoPanic.normal ?_
        clear hHeld
        clear HC HS0
        obtain ⟨T, hT⟩ : ∃ T, T = s.extract p q := ⟨_, rfl⟩
        rw [← hT] at HTK ⊢
        have HRX : Hid (RdAt D X1.heap.size X1 g s q es out) := by
          show RdAt _ _ _ _ _ _ _ _
          rw [HO.out.size]
          exact rd_moved HH.out HF.out HO.out HR.out
        have HLO : Hid (Below g w X1) := only_below HO.out
        have hTs : T.size = q - p := by rw [hT, ByteArray.size_extract]; omega
        have hT0 : T[0]'(by omega) = b := by
          rw [← HBB.out]
          simp only [hT, ByteArray.getElem_extract]
          rfl
        clear hT
        obtain ⟨bn, hbn⟩ : ∃ bn, bn = isNum T.data.toList := ⟨_, rfl⟩
        rw [← hbn] at HTK
        cases bn with
        | true =>
          obtain ⟨T2, hT2l, hT2, hT2z⟩ := num_str T hbn.symm
          have hT2s : T2.size ≤ 8000 := by omega
          have FN := Lib.hid (fun w => num_call hbn.symm hT2 (by omega) (by omega) w)
          rw [← hT2l] at HTK
          have hT2d : (⟨T2.data.toList.toArray⟩ : ByteArray) = T2 := Lib.mk_data T2
          rw [hT2d] at HTK
          obtain ⟨bc, hbc⟩ : ∃ bc, bc = decide (Canon T2.data.toList) := ⟨_, rfl⟩
          have FR : Hid (∀ w, Calls Try.prog 97 #[.string T2] w fun e w' => e = .returned (.bool bc) ∧ w = w') := fun w => by
            rw [hbc]
            exact refRight_any T2 w (by omega)
          have HBC := Lib.hid hbc
          clear hbn hT2 hT2l hT0 hTs hT2z hT2d hbc
          skip
          go_wp2_with fail
          refine (FN.out _).mono ?_
          rintro e w' ⟨rfl, rfl⟩
          cases bc with
          | true =>
            have hc : Canon T2.data.toList := of_decide_eq_true HBC.out.symm
            have hn1 : nxt s p b es out = (0, q, (putS (.mk 1 T2 [] [] p) es out).1, (putS (.mk 1 T2 [] [] p) es out).2) := by
              have hnn := sset_not b hsb
              rw [nxt_tok hnn.1 hnn.2.1 hnn.2.2.1 HTK.out]
              simp only [if_true, if_pos hc]
              rw [show p + (q - p) = q by omega]
            have HN := Lib.hid hn1
            clear hn1 hc HBC
            go_wp2_with fail
            refine (FR.out _).mono ?_
            rintro e w' ⟨rfl, rfl⟩
            go_wp2_with fail
            refine (put3_any g s q es out (.mk 1 T2 [] [] p) 1 T2 none 0 0 none 0 0 p q X1 HRX.out (by rw [HO.out.size]; exact hgN) (by rw [At_mk]; exact ⟨_, _, rfl, .inl ⟨rfl, rfl⟩, .inl ⟨rfl, rfl⟩⟩) (HB.out.more (by omega)) (by omega)).mono ?_
            rintro e w' ⟨rfl, hbl, hsz, D', hD⟩
            have HBL := Lib.hid hbl
            have HSZ := Lib.hid hsz
            have HD := Lib.hid hD
            clear hbl hsz hD
            go_wp2_with fail
            go_ret
            have hn := HN.out
            unfold RetNx
            rw [hn]
            exact ⟨rfl, HLO.out.trans (HBL.out), by have := HSZ.out; rw [HO.out.size] at this; exact this, fun _ => ⟨D', HD.out⟩, fun h => absurd rfl h⟩
          | false =>
            have hc : ¬ Canon T2.data.toList := of_decide_eq_false HBC.out.symm
            have hn1 : nxt s p b es out = (3, p, es, out) := by
              have hnn := sset_not b hsb
              rw [nxt_tok hnn.1 hnn.2.1 hnn.2.2.1 HTK.out]
              simp only [if_true, if_neg hc]
            have HN := Lib.hid hn1
            clear hn1 hc HBC
            have d1 := HR.out.cells.2.1
            have fz := HR.out.frozen 1
            have HR1 := Lib.hid (HR.out.setP p)
            have HL1 : Hid (Below g w (X1.setCell ⟨g, 1, none⟩ (.int .i64 (p : Int)))) := HLO.out.setCell (p := ⟨g, 1, none⟩) (Nat.le_refl _) _
            have HZ1 : Hid (w.heap.size ≤ (X1.setCell ⟨g, 1, none⟩ (.int .i64 (p : Int))).heap.size) := by show _ ≤ _; simp [World.setCell, HO.out.size]
            go_wp2_with fail
            (refine (FR.out _).mono ?_; rintro e w' ⟨rfl, rfl⟩)
            go_wp2_with fail
            go_ret
            have hn := HN.out
            unfold RetNx
            rw [hn]
            exact ⟨rfl, HL1.out, HZ1.out, fun h => absurd h (by simp), fun _ => ⟨_, _, HR1.out⟩⟩
        | false =>
          have FN := Lib.hid (fun w => num_none hbn.symm (by omega) (by omega) w)
          clear hbn
          have hT0s : 0 < T.size := by omega
          have hTb : ((T[0]'hT0s).toNat : Int) = (b.toNat : Int) := by rw [hT0]
          have hdg := dig_in b
          skip
          by_cases hd : 48 ≤ b.toNat
          · have e1 : decide ((48 : Int) ≤ ((T[0]'hT0s).toNat : Int)) = true := by rw [hTb]; exact decide_eq_true (by omega)
            by_cases hd2 : b.toNat ≤ 57
            · have e2 : decide (((T[0]'hT0s).toNat : Int) ≤ 57) = true := by rw [hTb]; exact decide_eq_true (by omega)
              have hdd : dset.contains b = true := by rw [hdg]; simp [hd, hd2]
              have hn1 : nxt s p b es out = (3, p, es, out) := by
                have hnn := sset_not b hsb
                rw [nxt_tok hnn.1 hnn.2.1 hnn.2.2.1 HTK.out]
                rw [if_neg (by decide), if_pos hdd]
              have HN := Lib.hid hn1
              clear hn1 hdd hdg hTb hT0 hTs hd hd2
              have d1 := HR.out.cells.2.1
              have fz := HR.out.frozen 1
              have HR1 := Lib.hid (HR.out.setP p)
              have HL1 : Hid (Below g w (X1.setCell ⟨g, 1, none⟩ (.int .i64 (p : Int)))) := HLO.out.setCell (p := ⟨g, 1, none⟩) (Nat.le_refl _) _
              have HZ1 : Hid (w.heap.size ≤ (X1.setCell ⟨g, 1, none⟩ (.int .i64 (p : Int))).heap.size) := by show _ ≤ _; simp [World.setCell, HO.out.size]
              go_wp2_with fail
              (refine (FN.out _).mono ?_; rintro e w' ⟨rfl, rfl⟩)
              go_wp2_with fail
              go_ret
              have hn := HN.out
              unfold RetNx
              rw [hn]
              exact ⟨rfl, HL1.out, HZ1.out, fun h => absurd h (by simp), fun _ => ⟨_, _, HR1.out⟩⟩
            · have e2 : decide (((T[0]'hT0s).toNat : Int) ≤ 57) = false := by rw [hTb]; exact decide_eq_false (by omega)
              have hdd : ¬ dset.contains b = true := by rw [hdg]; simp [hd2]
              have hn1 : nxt s p b es out = (0, q, (putS (.mk 3 T [] [] p) es out).1, (putS (.mk 3 T [] [] p) es out).2) := by
                have hnn := sset_not b hsb
                rw [nxt_tok hnn.1 hnn.2.1 hnn.2.2.1 HTK.out]
                rw [if_neg (by decide), if_neg hdd]
                simp only []
                rw [show p + (q - p) = q by omega]
              have HN := Lib.hid hn1
              clear hn1 hdd hdg hTb hT0 hTs hd
              go_wp2_with fail
              refine (FN.out _).mono ?_
              rintro e w' ⟨rfl, rfl⟩
              go_wp2_with fail
              refine (put3_any g s q es out (.mk 3 T [] [] p) 3 T none 0 0 none 0 0 p q X1 HRX.out (by rw [HO.out.size]; exact hgN) (by rw [At_mk]; exact ⟨_, _, rfl, .inl ⟨rfl, rfl⟩, .inl ⟨rfl, rfl⟩⟩) (HB.out.more (by omega)) (by omega)).mono ?_
              rintro e w' ⟨rfl, hbl, hsz, D', hD⟩
              have HBL := Lib.hid hbl
              have HSZ := Lib.hid hsz
              have HD := Lib.hid hD
              clear hbl hsz hD
              go_wp2_with fail
              go_ret
              have hn := HN.out
              unfold RetNx
              rw [hn]
              exact ⟨rfl, HLO.out.trans (HBL.out), by have := HSZ.out; rw [HO.out.size] at this; exact this, fun _ => ⟨D', HD.out⟩, fun h => absurd rfl h⟩
          · have e1 : decide ((48 : Int) ≤ ((T[0]'hT0s).toNat : Int)) = false := by rw [hTb]; exact decide_eq_false (by omega)
            have hdd : ¬ dset.contains b = true := by rw [hdg]; simp [hd]
            have hn1 : nxt s p b es out = (0, q, (putS (.mk 3 T [] [] p) es out).1, (putS (.mk 3 T [] [] p) es out).2) := by
              have hnn := sset_not b hsb
              rw [nxt_tok hnn.1 hnn.2.1 hnn.2.2.1 HTK.out]
              rw [if_neg (by decide), if_neg hdd]
              simp only []
              rw [show p + (q - p) = q by omega]
            have HN := Lib.hid hn1
            clear hn1 hdd hdg hTb hT0 hTs hd
            go_wp2_with fail
            refine (FN.out _).mono ?_
            rintro e w' ⟨rfl, rfl⟩
            go_wp2_with fail
            refine (put3_any g s q es out (.mk 3 T [] [] p) 3 T none 0 0 none 0 0 p q X1 HRX.out (by rw [HO.out.size]; exact hgN) (by rw [At_mk]; exact ⟨_, _, rfl, .inl ⟨rfl, rfl⟩, .inl ⟨rfl, rfl⟩⟩) (HB.out.more (by omega)) (by omega)).mono ?_
            rintro e w' ⟨rfl, hbl, hsz, D', hD⟩
            have HBL := Lib.hid hbl
            have HSZ := Lib.hid hsz
            have HD := Lib.hid hD
            clear hbl hsz hD
            go_wp2_with fail
            go_ret
            have hn := HN.out
            unfold RetNx
            rw [hn]
            exact ⟨rfl, HLO.out.trans (HBL.out), by have := HSZ.out; rw [HO.out.size] at this; exact this, fun _ => ⟨D', HD.out⟩, fun h => absurd rfl h⟩
    · have q1 : decide ((q : Int) < (s.size : Int)) = false := decide_eq_false (by omega)
      have HM : Hid (rowOf sset (s.data.toList.drop p) = q - p) := row_end hpq hq HIN.out (fun h => absurd h hlt)
      go_upto_region 2 with fail
      have HC : Hid (∀ w', Below wr.heap.size wr w' → w'.cell? ⟨g, 0, none⟩ = some (.string s) ∧ w'.cell? ⟨g, 1, none⟩ = some (.int .i64 (q : Int)) ∧ w'.cell? ⟨g, 2, none⟩ = some ov ∧ w'.cell? ⟨g, 3, none⟩ = some dv) := fun w' hw' => by
        have h9 : w'.heap[g]? = some (.cells #[.string s, .int .i64 (q : Int), ov, dv] 114 (0, 0)) := by rw [hw'.block g HR.out.lt]; exact HR.out
        exact Rs3.cells (p := q) h9
      have HS0 : Hid (Below wr.heap.size wr wr.drew) := (Below.refl _ _).drew
      replace HO : Hid (Only g w wr.drew) := HO.out.trans (Only.drew g wr)
      replace HR : Hid (Rs3 wr.drew g s q ov dv) := HR.out
      refine wp_region_noPanic ?_
      refine wp_region_held_drew (S := Below wr.heap.size wr) (by kernel_rfl) HS0.out (fun hHeld => ?_)
      generalize wr.drew = X0 at HS0 HO HR hHeld ⊢
      refine qtk (i := 0) (v := ?v53) rfl rfl (fun w' hw' => ?h53) hHeld ?r53
      case h53 => go_simp; try with_reducible rfl
      simp only [zt,zs,zz,Act.put,zi,zy,zx]
      refine qtk (i := 1) (v := ?v54) rfl rfl (fun w' hw' => ?h54) hHeld ?r54
      case h54 => go_simp; try with_reducible rfl
      simp only [zt,zs,zz,Act.put,zi,zy,zx]
      refine qtk (i := 2) (v := ?v55) rfl rfl (fun w' hw' => ?h55) hHeld ?r55
      case h55 => go_simp; try with_reducible rfl
      simp only [zt,zs,zz,Act.put,zi,zy,zx]
      refine qtk (i := 3) (v := ?v56) rfl rfl (fun w' hw' => ?h56) hHeld ?r56
      case h56 => (obtain ⟨d0, d1, d2, d3⟩ := HC.out w' hw'; go_simp); try with_reducible rfl
      simp only [zt,zs,zz,Act.put,zi,zy,zx]
      refine qtk (i := 4) (v := ?v57) rfl rfl (fun w' hw' => ?h57) hHeld ?r57
      case h57 => go_simp; try with_reducible rfl
      simp only [zt,zs,zz,Act.put,zi,zy,zx]
      refine qtk (i := 5) (v := ?v58) rfl rfl (fun w' hw' => ?h58) hHeld ?r58
      case h58 => go_simp; try with_reducible rfl
      simp only [zt,zs,zz,Act.put,zi,zy,zx]
      refine qtk (i := 6) (v := ?v59) rfl rfl (fun w' hw' => ?h59) hHeld ?r59
      case h59 => go_simp; try with_reducible rfl
      simp only [zt,zs,zz,Act.put,zi,zy,zx]
      refine qtk (i := 7) (v := ?v60) rfl rfl (fun w' hw' => ?h60) hHeld ?r60
      case h60 => (obtain ⟨d0, d1, d2, d3⟩ := HC.out w' hw'; go_simp); try with_reducible rfl
      simp only [zt,zs,zz,Act.put,zi,zy,zx]
      refine qtk (i := 8) (v := ?v61) rfl rfl (fun w' hw' => ?h61) hHeld ?r61
      case h61 => go_simp; try with_reducible rfl
      simp only [zt,zs,zz,Act.put,zi,zy,zx]
      refine qtk (i := 9) (v := ?v62) rfl rfl (fun w' hw' => ?h62) hHeld ?r62
      case h62 => go_simp; try with_reducible rfl
      simp only [zt,zs,zz,Act.put,zi,zy,zx]
      refine qtk (i := 10) (v := ?v63) rfl rfl (fun w' hw' => ?h63) hHeld ?r63
      case h63 => go_simp; try with_reducible rfl
      simp only [zt,zs,zz,Act.put,zi,zy,zx]
      refine qtu (i := 11) rfl rfl hHeld ?_
      simp only [zt,zs,zz,Act.put,zi,zy,zx]
      refine qtu (i := 12) rfl rfl hHeld ?_
      simp only [zt,zs,zz,Act.put,zi,zy,zx]
      refine qtu (i := 13) rfl rfl hHeld ?_
      simp only [zt,zs,zz,Act.put,zi,zy,zx]
      refine qtu (i := 14) rfl rfl hHeld ?_
      simp only [zt,zs,zz,Act.put,zi,zy,zx]
      refine qtu (i := 15) rfl rfl hHeld ?_
      simp only [zt,zs,zz,Act.put,zi,zy,zx]
      refine qtu (i := 16) rfl rfl hHeld ?_
      simp only [zt,zs,zz,Act.put,zi,zy,zx]
      refine qtu (i := 17) rfl rfl hHeld ?_
      simp only [zt,zs,zz,Act.put,zi,zy,zx]
      refine qtu (i := 18) rfl rfl hHeld ?_
      simp only [zt,zs,zz,Act.put,zi,zy,zx]
      refine qtu (i := 19) rfl rfl hHeld ?_
      simp only [zt,zs,zz,Act.put,zi,zy,zx]
      refine qtu (i := 20) rfl rfl hHeld ?_
      simp only [zt,zs,zz,Act.put,zi,zy,zx]
      refine qtk (i := 21) (v := ?v74) rfl rfl (fun w' hw' => ?h74) hHeld ?r74
      case h74 => go_simp; try with_reducible rfl
      simp only [zt,zs,zz,Act.put,zi,zy,zx]
      refine wpAnyH_done (by kernel_rfl) ?_ _
      refine NoPanic.normal ?_
      clear hHeld
      clear HC HS0
      have hpq1 : p < q := by have h1 := row_pos hp (by rw [HBB.out]; exact hsb); have h2 := HM.out; omega
      have HTK := Lib.hid (tok_row hp HBB.out hsb HM.out)
      have hq8 : q ≤ 8000 := by omega
      go_upto_region 4 with fail
      have HC : Hid (∀ w', Below X0.heap.size X0 w' → w'.cell? ⟨g, 0, none⟩ = some (.string s) ∧ w'.cell? ⟨g, 1, none⟩ = some (.int .i64 (q : Int)) ∧ w'.cell? ⟨g, 2, none⟩ = some ov ∧ w'.cell? ⟨g, 3, none⟩ = some dv) := fun w' hw' => by
        have h9 : w'.heap[g]? = some (.cells #[.string s, .int .i64 (q : Int), ov, dv] 114 (0, 0)) := by rw [hw'.block g HR.out.lt]; exact HR.out
        exact Rs3.cells (p := q) h9
      have HS0 : Hid (Below X0.heap.size X0 X0.drew) := (Below.refl _ _).drew
      replace HO : Hid (Only g w X0.drew) := HO.out.trans (Only.drew g X0)
      replace HR : Hid (Rs3 X0.drew g s q ov dv) := HR.out
      refine wp_region_noPanic ?_
      refine wp_region_held_drew (S := Below X0.heap.size X0) (by kernel_rfl) HS0.out (fun hHeld => ?_)
      generalize X0.drew = X1 at HS0 HO HR hHeld ⊢
      refine qtk (i := 0) (v := ?v75) rfl rfl (fun w' hw' => ?h75) hHeld ?r75
      case h75 => go_simp; try with_reducible rfl
      simp only [zt,zs,zz,Act.put,zi,zy,zx]
      refine qtk (i := 1) (v := ?v76) rfl rfl (fun w' hw' => ?h76) hHeld ?r76
      case h76 => go_simp; try with_reducible rfl
      simp only [zt,zs,zz,Act.put,zi,zy,zx]
      refine qtk (i := 2) (v := ?v77) rfl rfl (fun w' hw' => ?h77) hHeld ?r77
      case h77 => go_simp; try with_reducible rfl
      simp only [zt,zs,zz,Act.put,zi,zy,zx]
      refine qtk (i := 3) (v := ?v78) rfl rfl (fun w' hw' => ?h78) hHeld ?r78
      case h78 => (obtain ⟨d0, d1, d2, d3⟩ := HC.out w' hw'; go_simp); try with_reducible rfl
      simp only [zt,zs,zz,Act.put,zi,zy,zx]
      refine qtk (i := 4) (v := ?v79) rfl rfl (fun w' hw' => ?h79) hHeld ?r79
      case h79 => go_simp; try with_reducible rfl
      simp only [zt,zs,zz,Act.put,zi,zy,zx]
      refine qtk (i := 5) (v := ?v80) rfl rfl (fun w' hw' => ?h80) hHeld ?r80
      case h80 => go_simp; try with_reducible rfl
      simp only [zt,zs,zz,Act.put,zi,zy,zx]
      refine qtk (i := 6) (v := ?v81) rfl rfl (fun w' hw' => ?h81) hHeld ?r81
      case h81 => go_simp; try with_reducible rfl
      simp only [zt,zs,zz,Act.put,zi,zy,zx]
      refine qtk (i := 7) (v := ?v82) rfl rfl (fun w' hw' => ?h82) hHeld ?r82
      case h82 => go_simp; try with_reducible rfl
      simp only [zt,zs,zz,Act.put,zi,zy,zx]
      refine qtk (i := 8) (v := ?v83) rfl rfl (fun w' hw' => ?h83) hHeld ?r83
      case h83 => (obtain ⟨d0, d1, d2, d3⟩ := HC.out w' hw'; go_simp); try with_reducible rfl
      simp only [zt,zs,zz,Act.put,zi,zy,zx]
      refine qtk (i := 9) (v := ?v84) rfl rfl (fun w' hw' => ?h84) hHeld ?r84
      case h84 => go_simp; try with_reducible rfl
      simp only [zt,zs,zz,Act.put,zi,zy,zx]
      refine qtk (i := 10) (v := ?v85) rfl rfl (fun w' hw' => ?h85) hHeld ?r85
      case h85 => go_simp; try with_reducible rfl
      simp only [zt,zs,zz,Act.put,zi,zy,zx]
      refine wpAnyH_done (by kernel_rfl) ?_ _
      refine NoPanic.normal ?_
      clear hHeld
      clear HC HS0
      obtain ⟨T, hT⟩ : ∃ T, T = s.extract p q := ⟨_, rfl⟩
      rw [← hT] at HTK ⊢
      have HRX : Hid (RdAt D X1.heap.size X1 g s q es out) := by
        show RdAt _ _ _ _ _ _ _ _
        rw [HO.out.size]
        exact rd_moved HH.out HF.out HO.out HR.out
      have HLO : Hid (Below g w X1) := only_below HO.out
      have hTs : T.size = q - p := by rw [hT, ByteArray.size_extract]; omega
      have hT0 : T[0]'(by omega) = b := by
        rw [← HBB.out]
        simp only [hT, ByteArray.getElem_extract]
        rfl
      clear hT
      obtain ⟨bn, hbn⟩ : ∃ bn, bn = isNum T.data.toList := ⟨_, rfl⟩
      rw [← hbn] at HTK
      cases bn with
      | true =>
        obtain ⟨T2, hT2l, hT2, hT2z⟩ := num_str T hbn.symm
        have hT2s : T2.size ≤ 8000 := by omega
        have FN := Lib.hid (fun w => num_call hbn.symm hT2 (by omega) (by omega) w)
        rw [← hT2l] at HTK
        have hT2d : (⟨T2.data.toList.toArray⟩ : ByteArray) = T2 := Lib.mk_data T2
        rw [hT2d] at HTK
        obtain ⟨bc, hbc⟩ : ∃ bc, bc = decide (Canon T2.data.toList) := ⟨_, rfl⟩
        have FR : Hid (∀ w, Calls Try.prog 97 #[.string T2] w fun e w' => e = .returned (.bool bc) ∧ w = w') := fun w => by
          rw [hbc]
          exact refRight_any T2 w (by omega)
        have HBC := Lib.hid hbc
        clear hbn hT2 hT2l hT0 hTs hT2z hT2d hbc
        skip
        go_wp2_with fail
        refine (FN.out _).mono ?_
        rintro e w' ⟨rfl, rfl⟩
        cases bc with
        | true =>
          have hc : Canon T2.data.toList := of_decide_eq_true HBC.out.symm
          have hn1 : nxt s p b es out = (0, q, (putS (.mk 1 T2 [] [] p) es out).1, (putS (.mk 1 T2 [] [] p) es out).2) := by
            have hnn := sset_not b hsb
            rw [nxt_tok hnn.1 hnn.2.1 hnn.2.2.1 HTK.out]
            simp only [if_true, if_pos hc]
            rw [show p + (q - p) = q by omega]
          have HN := Lib.hid hn1
          clear hn1 hc HBC
          go_wp2_with fail
          refine (FR.out _).mono ?_
          rintro e w' ⟨rfl, rfl⟩
          go_wp2_with fail
          refine (put3_any g s q es out (.mk 1 T2 [] [] p) 1 T2 none 0 0 none 0 0 p q X1 HRX.out (by rw [HO.out.size]; exact hgN) (by rw [At_mk]; exact ⟨_, _, rfl, .inl ⟨rfl, rfl⟩, .inl ⟨rfl, rfl⟩⟩) (HB.out.more (by omega)) (by omega)).mono ?_
          rintro e w' ⟨rfl, hbl, hsz, D', hD⟩
          have HBL := Lib.hid hbl
          have HSZ := Lib.hid hsz
          have HD := Lib.hid hD
          clear hbl hsz hD
          go_wp2_with fail
          go_ret
          have hn := HN.out
          unfold RetNx
          rw [hn]
          exact ⟨rfl, HLO.out.trans (HBL.out), by have := HSZ.out; rw [HO.out.size] at this; exact this, fun _ => ⟨D', HD.out⟩, fun h => absurd rfl h⟩
        | false =>
          have hc : ¬ Canon T2.data.toList := of_decide_eq_false HBC.out.symm
          have hn1 : nxt s p b es out = (3, p, es, out) := by
            have hnn := sset_not b hsb
            rw [nxt_tok hnn.1 hnn.2.1 hnn.2.2.1 HTK.out]
            simp only [if_true, if_neg hc]
          have HN := Lib.hid hn1
          clear hn1 hc HBC
          have d1 := HR.out.cells.2.1
          have fz := HR.out.frozen 1
          have HR1 := Lib.hid (HR.out.setP p)
          have HL1 : Hid (Below g w (X1.setCell ⟨g, 1, none⟩ (.int .i64 (p : Int)))) := HLO.out.setCell (p := ⟨g, 1, none⟩) (Nat.le_refl _) _
          have HZ1 : Hid (w.heap.size ≤ (X1.setCell ⟨g, 1, none⟩ (.int .i64 (p : Int))).heap.size) := by show _ ≤ _; simp [World.setCell, HO.out.size]
          go_wp2_with fail
          (refine (FR.out _).mono ?_; rintro e w' ⟨rfl, rfl⟩)
          go_wp2_with fail
          go_ret
          have hn := HN.out
          unfold RetNx
          rw [hn]
          exact ⟨rfl, HL1.out, HZ1.out, fun h => absurd h (by simp), fun _ => ⟨_, _, HR1.out⟩⟩
      | false =>
        have FN := Lib.hid (fun w => num_none hbn.symm (by omega) (by omega) w)
        clear hbn
        have hT0s : 0 < T.size := by omega
        have hTb : ((T[0]'hT0s).toNat : Int) = (b.toNat : Int) := by rw [hT0]
        have hdg := dig_in b
        skip
        by_cases hd : 48 ≤ b.toNat
        · have e1 : decide ((48 : Int) ≤ ((T[0]'hT0s).toNat : Int)) = true := by rw [hTb]; exact decide_eq_true (by omega)
          by_cases hd2 : b.toNat ≤ 57
          · have e2 : decide (((T[0]'hT0s).toNat : Int) ≤ 57) = true := by rw [hTb]; exact decide_eq_true (by omega)
            have hdd : dset.contains b = true := by rw [hdg]; simp [hd, hd2]
            have hn1 : nxt s p b es out = (3, p, es, out) := by
              have hnn := sset_not b hsb
              rw [nxt_tok hnn.1 hnn.2.1 hnn.2.2.1 HTK.out]
              rw [if_neg (by decide), if_pos hdd]
            have HN := Lib.hid hn1
            clear hn1 hdd hdg hTb hT0 hTs hd hd2
            have d1 := HR.out.cells.2.1
            have fz := HR.out.frozen 1
            have HR1 := Lib.hid (HR.out.setP p)
            have HL1 : Hid (Below g w (X1.setCell ⟨g, 1, none⟩ (.int .i64 (p : Int)))) := HLO.out.setCell (p := ⟨g, 1, none⟩) (Nat.le_refl _) _
            have HZ1 : Hid (w.heap.size ≤ (X1.setCell ⟨g, 1, none⟩ (.int .i64 (p : Int))).heap.size) := by show _ ≤ _; simp [World.setCell, HO.out.size]
            go_wp2_with fail
            (refine (FN.out _).mono ?_; rintro e w' ⟨rfl, rfl⟩)
            go_wp2_with fail
            go_ret
            have hn := HN.out
            unfold RetNx
            rw [hn]
            exact ⟨rfl, HL1.out, HZ1.out, fun h => absurd h (by simp), fun _ => ⟨_, _, HR1.out⟩⟩
          · have e2 : decide (((T[0]'hT0s).toNat : Int) ≤ 57) = false := by rw [hTb]; exact decide_eq_false (by omega)
            have hdd : ¬ dset.contains b = true := by rw [hdg]; simp [hd2]
            have hn1 : nxt s p b es out = (0, q, (putS (.mk 3 T [] [] p) es out).1, (putS (.mk 3 T [] [] p) es out).2) := by
              have hnn := sset_not b hsb
              rw [nxt_tok hnn.1 hnn.2.1 hnn.2.2.1 HTK.out]
              rw [if_neg (by decide), if_neg hdd]
              simp only []
              rw [show p + (q - p) = q by omega]
            have HN := Lib.hid hn1
            clear hn1 hdd hdg hTb hT0 hTs hd
            go_wp2_with fail
            refine (FN.out _).mono ?_
            rintro e w' ⟨rfl, rfl⟩
            go_wp2_with fail
            refine (put3_any g s q es out (.mk 3 T [] [] p) 3 T none 0 0 none 0 0 p q X1 HRX.out (by rw [HO.out.size]; exact hgN) (by rw [At_mk]; exact ⟨_, _, rfl, .inl ⟨rfl, rfl⟩, .inl ⟨rfl, rfl⟩⟩) (HB.out.more (by omega)) (by omega)).mono ?_
            rintro e w' ⟨rfl, hbl, hsz, D', hD⟩
            have HBL := Lib.hid hbl
            have HSZ := Lib.hid hsz
            have HD := Lib.hid hD
            clear hbl hsz hD
            go_wp2_with fail
            go_ret
            have hn := HN.out
            unfold RetNx
            rw [hn]
            exact ⟨rfl, HLO.out.trans (HBL.out), by have := HSZ.out; rw [HO.out.size] at this; exact this, fun _ => ⟨D', HD.out⟩, fun h => absurd rfl h⟩
        · have e1 : decide ((48 : Int) ≤ ((T[0]'hT0s).toNat : Int)) = false := by rw [hTb]; exact decide_eq_false (by omega)
          have hdd : ¬ dset.contains b = true := by rw [hdg]; simp [hd]
          have hn1 : nxt s p b es out = (0, q, (putS (.mk 3 T [] [] p) es out).1, (putS (.mk 3 T [] [] p) es out).2) := by
            have hnn := sset_not b hsb
            rw [nxt_tok hnn.1 hnn.2.1 hnn.2.2.1 HTK.out]
            rw [if_neg (by decide), if_neg hdd]
            simp only []
            rw [show p + (q - p) = q by omega]
          have HN := Lib.hid hn1
          clear hn1 hdd hdg hTb hT0 hTs hd
          go_wp2_with fail
          refine (FN.out _).mono ?_
          rintro e w' ⟨rfl, rfl⟩
          go_wp2_with fail
          refine (put3_any g s q es out (.mk 3 T [] [] p) 3 T none 0 0 none 0 0 p q X1 HRX.out (by rw [HO.out.size]; exact hgN) (by rw [At_mk]; exact ⟨_, _, rfl, .inl ⟨rfl, rfl⟩, .inl ⟨rfl, rfl⟩⟩) (HB.out.more (by omega)) (by omega)).mono ?_
          rintro e w' ⟨rfl, hbl, hsz, D', hD⟩
          have HBL := Lib.hid hbl
          have HSZ := Lib.hid hsz
          have HD := Lib.hid hD
          clear hbl hsz hD
          go_wp2_with fail
          go_ret
          have hn := HN.out
          unfold RetNx
          rw [hn]
          exact ⟨rfl, HLO.out.trans (HBL.out), by have := HSZ.out; rw [HO.out.size] at this; exact this, fun _ => ⟨D', HD.out⟩, fun h => absurd rfl h⟩
end Go.Proofs.Ythhaegncnoekbaa
