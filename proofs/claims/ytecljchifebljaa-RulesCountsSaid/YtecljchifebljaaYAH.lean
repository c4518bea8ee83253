/- The document's reader: a datum of signs. -/
import Derived.Test.YtecljchifebljaaYAA
import Derived.Test.YtecljchifebljaaYAC
import Derived.Test.YtecljchifebljaaYAF
import Derived.Test.YtecljchifebljaaYAG
set_option linter.unusedVariables false
set_option linter.unusedSimpArgs false
namespace Go.Proofs.Ytecljchifebljaa
open Go.RowKit Go.BigM
/-- What next leaves. -/
def RetNx (g : Nat) (s : ByteArray) (p : Nat) (b : UInt8) (es : List En) (out : List Dt) (w : World) (e : Ending) (w' : World) : Prop :=
 e = .returned (.int .i64 (nxt s p b es out).1) ∧ Below g w w' ∧ w.heap.size ≤ w'.heap.size ∧
  ((nxt s p b es out).1 = 0 → ∃ D', RdAt D' w'.heap.size w' g s (nxt s p b es out).2.1 (nxt s p b es out).2.2.1 (nxt s p b es out).2.2.2) ∧
  ((nxt s p b es out).1 ≠ 0 → ∃ ov dv, Rs3 w' g s p ov dv)
theorem nxt_tok {s : ByteArray} {p : Nat} {b : UInt8} {es : List En} {out : List Dt} (h1 : b ≠ 40) (h2 : b ≠ 39) (h3 : b ≠ 41) {r : Option (Int × ByteArray × Nat)} (hr : tokOf (s.data.toList.drop p) = r) :
  nxt s p b es out = match (generalizing := false) r with
   | none => (3, p, es, out)
   | some (k, t, m) => (0, p + m, (putS (.mk k t [] [] p) es out).1, (putS (.mk k t [] [] p) es out).2) := by
 subst hr
 unfold nxt
 rw [if_neg (fun h => h.elim h1 h2), if_neg h3]
 split <;> simp_all
theorem sset_not (b : UInt8) (h : sset.contains b = true) : b ≠ 40 ∧ b ≠ 39 ∧ b ≠ 41 ∧ b ≠ 35 := by
 have key : ∀ b : UInt8, sset.contains b = true → b ≠ 40 ∧ b ≠ 39 ∧ b ≠ 41 ∧ b ≠ 35 := u8_all (by decide +kernel)
 exact key b h
theorem tok_sign {l : List UInt8} {b : UInt8} {r : List UInt8} (hl : l = b :: r) (hb : sset.contains b = true) {m : Nat} (hm : rowOf sset l = m) :
  tokOf l = if isNum (l.take m) then (if Canon (numOf (l.take m)) then some (1, ⟨(numOf (l.take m)).toArray⟩, m) else none) else if 0 < rowOf dset (l.take m) then none else some (3, ⟨(l.take m).toArray⟩, m) := by
 have h35 := (sset_not b hb).2.2.2
 have h0 : m ≠ 0 := by
  rw [← hm, hl]; unfold rowOf; rw [List.takeWhile_cons, if_pos hb]; simp
 unfold tokOf
 rw [hm, if_neg ?_, if_neg h0]
 rw [hl]
 have : (35 : UInt8) ≠ b := fun e => h35 e.symm
 simp [Lib.hasPrefix, List.isPrefixOf, this]
theorem row_dig {b : UInt8} {r : List UInt8} {m : Nat} (hm : 0 < m) : (0 < rowOf dset ((b :: r).take m)) ↔ dset.contains b = true := by
 obtain ⟨k, rfl⟩ : ∃ k, m = k + 1 := ⟨m - 1, by omega⟩
 rw [List.take_succ_cons]
 unfold rowOf
 rw [List.takeWhile_cons]
 cases h : dset.contains b <;> simp
theorem numOf_len (l : List UInt8) (h : isNum l = true) : (numOf l).length ≤ l.length := by
 unfold isNum at h
 have h0 : 0 < (strip l).length := by
  rw [Bool.and_eq_true, decide_eq_true_eq] at h; exact h.1
 have h1 := strip_le l
 have h2 : ((strip l).dropWhile (· == 48)).length ≤ (strip l).length := (List.dropWhile_suffix _).length_le
 unfold numOf
 split
 ·simp; omega
 ·split
  ·rename_i hl
   have h3 : (strip l).length + 1 = l.length := by
    rw [strip_low l hl, List.length_tail]
    cases l with
    | nil => simp [low] at hl
    | cons a l => simp
   simp; omega
  ·omega
theorem row_pos {s : ByteArray} {p : Nat} (hp : p < s.size) (h : sset.contains s[p] = true) : 0 < rowOf sset (s.data.toList.drop p) := by
 rw [drop_at s p hp]; unfold rowOf; rw [List.takeWhile_cons, if_pos h]; simp
theorem tok_row {s : ByteArray} {p q : Nat} {b : UInt8} (hp : p < s.size) (hb : s[p] = b) (hsb : sset.contains b = true) (hm : rowOf sset (s.data.toList.drop p) = q - p) :
  tokOf (s.data.toList.drop p) = if isNum (s.extract p q).data.toList then (if Canon (numOf (s.extract p q).data.toList) then some (1, ⟨(numOf (s.extract p q).data.toList).toArray⟩, q - p) else none) else if dset.contains b = true then none else some (3, s.extract p q, q - p) := by
 have hl := drop_at s p hp
 rw [hb] at hl
 have h0 := row_pos hp (by rw [hb]; exact hsb)
 have e1 : (s.extract p q).data.toList = (s.data.toList.drop p).take (q - p) := by
  rw [ByteArray.data_extract, Array.toList_extract, List.extract_eq_take_drop]
 have e2 : s.extract p q = ⟨((s.data.toList.drop p).take (q - p)).toArray⟩ := by
  rw [← e1]
 rw [tok_sign hl hsb hm, ← e1]
 have hd := row_dig (b := b) (r := s.data.toList.drop (p + 1)) (m := q - p) (by omega)
 rw [← hl, ← e1] at hd
 by_cases h : dset.contains b = true
 ·rw [if_pos h, if_pos (hd.2 h)]
 ·rw [if_neg h, if_neg (fun h2 => h (hd.1 h2))]
theorem rd_moved {D : Nat → Prop} {N : Nat} {w X : World} {g : Nat} {s : ByteArray} {p q : Nat} {es : List En} {out : List Dt} {ov dv : Value} (h : RdAt D N w g s p es out) (hf : Rs3 w g s p ov dv) (ho : Only g w X) (hr : Rs3 X g s q ov dv) : RdAt D N X g s q es out := by
 refine h.only ho (fun a b hab => ?_)
 have e := hab
 unfold Rs3 at e hf
 rw [hf] at e
 injection e with e
 injection e with e _ _
 simp only [Array.mk.injEq, List.cons.injEq, and_true, true_and] at e
 obtain ⟨rfl, rfl⟩ := e
 exact hr
theorem only_below {g : Nat} {w X : World} (h : Only g w X) : Below g w X := ⟨h.os, h.tape, h.output, by rw [h.size]; exact Nat.le_refl _, fun k hk => h.block k (by omega)⟩
theorem num_str (T : ByteArray) (h : isNum T.data.toList = true) : ∃ T2 : ByteArray, T2.data.toList = numOf T.data.toList ∧ (⟨(numOf T.data.toList).toArray⟩ : ByteArray) = T2 ∧ T2.size ≤ T.size := by
 refine ⟨⟨(numOf T.data.toList).toArray⟩, rfl, rfl, ?_⟩
 have h1 := numOf_len T.data.toList h
 rw [← Lib.size_eq] at h1
 simp only [ByteArray.size, List.size_toArray]
 simp only [ByteArray.size] at h1
 exact h1
theorem num_call {T T2 : ByteArray} (hn : isNum T.data.toList = true) (h2 : (⟨(numOf T.data.toList).toArray⟩ : ByteArray) = T2) (h0 : 0 < T.size) (hs : T.size ≤ 9000) (w : World) : Calls Try.prog 96 #[.string T] w fun e w' => e = .returned (.tuple #[.string T2, .bool true]) ∧ w = w' := by
 refine (number3_any T w h0 hs).mono (fun e w' h => ?_)
 obtain ⟨rfl, rfl⟩ := h
 rw [hn, if_pos rfl, h2]
 exact ⟨rfl, rfl⟩
theorem num_none {T : ByteArray} (hn : isNum T.data.toList = false) (h0 : 0 < T.size) (hs : T.size ≤ 9000) (w : World) : Calls Try.prog 96 #[.string T] w fun e w' => e = .returned (.tuple #[.string ⟨#[]⟩, .bool false]) ∧ w = w' := by
 refine (number3_any T w h0 hs).mono (fun e w' h => ?_)
 obtain ⟨rfl, rfl⟩ := h
 rw [hn, if_neg (by decide)]
 exact ⟨rfl, rfl⟩
def RwI (g : Nat) (s : ByteArray) (p : Nat) (ov dv : Value) (w wr : World) : Prop := ∃ q : Nat, p ≤ q ∧ q ≤ s.size ∧ (∀ i (h : i < s.size), p ≤ i → i < q → sset.contains s[i] = true) ∧ Rs3 wr g s q ov dv ∧ Only g w wr
/-- The row's end. -/
theorem row_end {s : ByteArray} {p q : Nat} (hpq : p ≤ q) (hq : q ≤ s.size) (hin : ∀ i (h : i < s.size), p ≤ i → i < q → sset.contains s[i] = true) (hout : ∀ h : q < s.size, sset.contains s[q] = false) : rowOf sset (s.data.toList.drop p) = q - p := by
 have hz := Lib.size_eq s
 refine rowOf_end sset _ _ (by rw [List.length_drop]; omega) (fun i hi hik => ?_) (fun h => ?_)
 ·rw [List.getElem_drop]
  exact hin (p + i) (by rw [List.length_drop] at hi; omega) (by omega) (by omega)
 ·rw [List.getElem_drop]
  have e : p + (q - p) = q := by omega
  simp only [e]
  exact hout (by rw [List.length_drop] at h; omega)
set_option maxHeartbeats 16000000 in
set_option maxRecDepth 100000 in
theorem row3_any {D : Nat → Prop} (g : Nat) (s : ByteArray) (p : Nat) (es : List En) (out : List Dt) (b : UInt8) (w : World) (h : RdAt D w.heap.size w g s p es out) (hgN : g < w.heap.size) (hp : p < s.size) (hb : s[p] = b) (hsb : sset.contains b = true) (hs : s.size ≤ 8000) (hB : Bnd es out p) :
  Calls Try.prog 86 #[.pointer (some ⟨g, 0, none⟩)] w (RetNx g s p b es out w) := by
 obtain ⟨ao, c, bo, dd, hf⟩ := h.form
 obtain ⟨ov, hov⟩ : ∃ v, v = Value.slice ao es.length c := ⟨_, rfl⟩
 obtain ⟨dv, hdv⟩ : ∃ v, v = Value.slice bo out.length dd := ⟨_, rfl⟩
 rw [← hov, ← hdv] at hf
 have HH := Lib.hid h
 have HF := Lib.hid hf
 have HB := Lib.hid hB
 have HBB := Lib.hid hb
 have hd1 := hf.cells.2.1
 have HST0 : Hid (RwI g s p ov dv w w) := ⟨p, Nat.le_refl _, by omega, fun i _ h1 h2 => by omega, hf, Only.refl _ _⟩
 clear h hB hov hdv hf hb
 go_enter Try.func86, Try.ntmps86
 go_wp2_with fail
 clear hd1
 go_loopw [] (fun wr => RwI g s p ov dv w wr) (fun wr => s.size - plc g wr)
 case atStart => exact HST0.out
 case round =>
  obtain ⟨q, hpq, hq, hin, hR, hO⟩ := hrel
  have HPW := Lib.hid hR.plc
  have HR := Lib.hid hR
  have HO := Lib.hid hO
  have HIN := Lib.hid hin
  clear hR hO hin HST0
  by_cases hlt : q < s.size
  ·have q1 : decide ((q : Int) < (s.size : Int)) = true := decide_eq_true (by omega)
   cases hsg : sset.contains (s[q]'hlt) with
   | true =>
    have HSG := Lib.hid hsg
    go_upto_region 2 with fail
    have HC : Hid (∀ w', Below wr.heap.size wr w' → w'.cell? ⟨g, 0, none⟩ = some (.string s) ∧ w'.cell? ⟨g, 1, none⟩ = some (.int .i64 (q : Int)) ∧ w'.cell? ⟨g, 2, none⟩ = some ov ∧ w'.cell? ⟨g, 3, none⟩ = some dv) := fun w' hw' => by
     have h9 : w'.heap[g]? = some (.cells #[.string s, .int .i64 (q : Int), ov, dv] 114 (0, 0)) := by rw [hw'.block g HR.out.lt]; exact HR.out
     exact Rs3.cells (p := q) h9
    have HS0 : Hid (Below wr.heap.size wr wr.drew) := (Below.refl _ _).drew
    replace HO : Hid (Only g w wr.drew) := HO.out.trans (Only.drew g wr)
    replace HR : Hid (Rs3 wr.drew g s q ov dv) := HR.out
    refine wp_region_noPanic ?_
    refine wp_region_held_drew (S := Below wr.heap.size wr) (by kernel_rfl) HS0.out (fun hHeld => ?_)
    generalize wr.drew = X0 at HS0 HO HR hHeld ⊢
    refine qts [0, 1, 2, 3, 4, 5, 6, 7, 8, 9, 10, 11, 12, 13, 14, 15, 16, 17, 18, 19] hHeld ?_
    iterate 20 (refine qtc (v := ?_) rfl rfl (fun w' hw' => ?_) ?_; rotate_left; (focus ((obtain ⟨d0, d1, d2, d3⟩ := HC.out w' hw'; go_simp); try with_reducible rfl)); simp only [zt,zs,zz,Act.put,zi,zy,zx])
    refine qtn ?_
    simp only [zt,zs,zz,Act.put,zi,zy,zx,qzl,qzn,qza,Nat.reduceAdd,Nat.reduceSub]
    refine wpAnyH_ready (rs := [20]) (by kernel_rfl) (by simp) ?_
    refine (AllReadyH.cons rfl (fun K hK => ?_) AllReadyH.nil)
    go_simp
    refine (sign_any _ _).mono ?_
    rintro e w' ⟨rfl, rfl⟩
    simp only [hsg]
    refine hK.out _ _ hHeld (fun hHeld => ?_)
    clear hK K
    try simp only [zt,zs,zz,Act.put,zi,zy,zx]
    refine qtk (i := 21) (v := ?v20) rfl rfl (fun w' hw' => ?h20) hHeld ?r20
    case h20 => go_simp; try with_reducible rfl
    simp only [zt,zs,zz,Act.put,zi,zy,zx]
    refine wpAnyH_done (by kernel_rfl) ?_ _
    refine NoPanic.normal ?_
    clear hHeld
    clear HC HS0
    have d1 := HR.out.cells.2.1
    have fz := HR.out.frozen 1
    have HR1 := Lib.hid (HR.out.setP (q + 1))
    have HO1 := Lib.hid (HO.out.trans (Only.set g 1 (.int .i64 ((q + 1 : Nat) : Int)) X0))
    have e9 := wrap_succ q (by omega)
    have hpl := HR1.out.plc
    have HPL := Lib.hid hpl
    clear hpl HR HO
    go_wp2_with fail
    go_roundw
    case rel => exact ⟨q + 1, by omega, by omega, fun i h1 h2 h3 => (if e : i = q then (by subst e; exact HSG.out) else HIN.out i h1 h2 (by omega)), HR1.out, HO1.out⟩
    case measure =>
     have h1 := HPL.out
     push_cast at h1
     have h2 := HPW.out
     omega
   | false =>
    have HSG := Lib.hid hsg
    have HM : Hid (rowOf sset (s.data.toList.drop p) = q - p) := row_end hpq hq HIN.out (fun _ => HSG.out)
    go_upto_region 2 with fail
    have HC : Hid (∀ w', Below wr.heap.size wr w' → w'.cell? ⟨g, 0, none⟩ = some (.string s) ∧ w'.cell? ⟨g, 1, none⟩ = some (.int .i64 (q : Int)) ∧ w'.cell? ⟨g, 2, none⟩ = some ov ∧ w'.cell? ⟨g, 3, none⟩ = some dv) := fun w' hw' => by
     have h9 : w'.heap[g]? = some (.cells #[.string s, .int .i64 (q : Int), ov, dv] 114 (0, 0)) := by rw [hw'.block g HR.out.lt]; exact HR.out
     exact Rs3.cells (p := q) h9
    have HS0 : Hid (Below wr.heap.size wr wr.drew) := (Below.refl _ _).drew
    replace HO : Hid (Only g w wr.drew) := HO.out.trans (Only.drew g wr)
    replace HR : Hid (Rs3 wr.drew g s q ov dv) := HR.out
    refine wp_region_noPanic ?_
    refine wp_region_held_drew (S := Below wr.heap.size wr) (by kernel_rfl) HS0.out (fun hHeld => ?_)
    generalize wr.drew = X0 at HS0 HO HR hHeld ⊢
    refine qts [0, 1, 2, 3, 4, 5, 6, 7, 8, 9, 10, 11, 12, 13, 14, 15, 16, 17, 18, 19] hHeld ?_
    iterate 20 (refine qtc (v := ?_) rfl rfl (fun w' hw' => ?_) ?_; rotate_left; (focus ((obtain ⟨d0, d1, d2, d3⟩ := HC.out w' hw'; go_simp); try with_reducible rfl)); simp only [zt,zs,zz,Act.put,zi,zy,zx])
    refine qtn ?_
    simp only [zt,zs,zz,Act.put,zi,zy,zx,qzl,qzn,qza,Nat.reduceAdd,Nat.reduceSub]
    refine wpAnyH_ready (rs := [20]) (by kernel_rfl) (by simp) ?_
    refine (AllReadyH.cons rfl (fun K hK => ?_) AllReadyH.nil)
    go_simp
    refine (sign_any _ _).mono ?_
    rintro e w' ⟨rfl, rfl⟩
    simp only [hsg]
    refine hK.out _ _ hHeld (fun hHeld => ?_)
    clear hK K
    try simp only [zt,zs,zz,Act.put,zi,zy,zx]
    refine qtk (i := 21) (v := ?v41) rfl rfl (fun w' hw' => ?h41) hHeld ?r41
    case h41 => go_simp; try with_reducible rfl
    simp only [zt,zs,zz,Act.put,zi,zy,zx]
    refine wpAnyH_done (by kernel_rfl) ?_ _
    refine NoPanic.normal ?_
    clear hHeld
    clear HC HS0
    have hpq1 : p < q := by have h1 := row_pos hp (by rw [HBB.out]; exact hsb); have h2 := HM.out; omega
    have HTK := Lib.hid (tok_row hp HBB.out hsb HM.out)
    have hq8 : q ≤ 8000 := by omega
    go_upto_region 4 with fail
    have HC : Hid (∀ w', Below X0.heap.size X0 w' → w'.cell? ⟨g, 0, none⟩ = some (.string s) ∧ w'.cell? ⟨g, 1, none⟩ = some (.int .i64 (q : Int)) ∧ w'.cell? ⟨g, 2, none⟩ = some ov ∧ w'.cell? ⟨g, 3, none⟩ = some dv) := fun w' hw' => by
     have h9 : w'.heap[g]? = some (.cells #[.string s, .int .i64 (q : Int), ov, dv] 114 (0, 0)) := by rw [hw'.block g HR.out.lt]; exact HR.out
     exact Rs3.cells (p := q) h9
    have HS0 : Hid (Below X0.heap.size X0 X0.drew) := (Below.refl _ _).drew
    replace HO : Hid (Only g w X0.drew) := HO.out.trans (Only.drew g X0)
    replace HR : Hid (Rs3 X0.drew g s q ov dv) := HR.out
    refine wp_region_noPanic ?_
    refine wp_region_held_drew (S := Below X0.heap.size X0) (by kernel_rfl) HS0.out (fun hHeld => ?_)
    generalize X0.drew = X1 at HS0 HO HR hHeld ⊢
    refine qts [0, 1, 2, 3, 4, 5, 6, 7, 8, 9, 10] hHeld ?_
    iterate 11 (refine qtc (v := ?_) rfl rfl (fun w' hw' => ?_) ?_; rotate_left; (focus ((obtain ⟨d0, d1, d2, d3⟩ := HC.out w' hw'; go_simp); try with_reducible rfl)); simp only [zt,zs,zz,Act.put,zi,zy,zx])
    refine qtn ?_
    simp only [zt,zs,zz,Act.put,zi,zy,zx,qzl,qzn,qza,Nat.reduceAdd,Nat.reduceSub]
    refine wpAnyH_done (by kernel_rfl) ?_ _
    refine NoPanic.normal ?_
    clear hHeld
    clear HC HS0
    obtain ⟨T, hT⟩ : ∃ T, T = s.extract p q := ⟨_, rfl⟩
    rw [← hT] at HTK ⊢
    have HRX : Hid (RdAt D X1.heap.size X1 g s q es out) := by
     show RdAt _ _ _ _ _ _ _ _
     rw [HO.out.size]
     exact rd_moved HH.out HF.out HO.out HR.out
    have HLO : Hid (Below g w X1) := only_below HO.out
    have hTs : T.size = q - p := by rw [hT, ByteArray.size_extract]; omega
    have hT0 : T[0]'(by omega) = b := by
     rw [← HBB.out]
     simp only [hT, ByteArray.getElem_extract]
     rfl
    clear hT
    obtain ⟨bn, hbn⟩ : ∃ bn, bn = isNum T.data.toList := ⟨_, rfl⟩
    rw [← hbn] at HTK
    cases bn with
    | true =>
     obtain ⟨T2, hT2l, hT2, hT2z⟩ := num_str T hbn.symm
     have hT2s : T2.size ≤ 8000 := by omega
     have FN := Lib.hid (fun w => num_call hbn.symm hT2 (by omega) (by omega) w)
     rw [← hT2l] at HTK
     have hT2d : (⟨T2.data.toList.toArray⟩ : ByteArray) = T2 := Lib.mk_data T2
     rw [hT2d] at HTK
     obtain ⟨bc, hbc⟩ : ∃ bc, bc = decide (Canon T2.data.toList) := ⟨_, rfl⟩
     have FR : Hid (∀ w, Calls Try.prog 97 #[.string T2] w fun e w' => e = .returned (.bool bc) ∧ w = w') := fun w => by
      rw [hbc]
      exact refRight_any T2 w (by omega)
     have HBC := Lib.hid hbc
     clear hbn hT2 hT2l hT0 hTs hT2z hT2d hbc
     skip
     go_wp2_with fail
     refine (FN.out _).mono ?_
     rintro e w' ⟨rfl, rfl⟩
     cases bc with
     | true =>
      have hc : Canon T2.data.toList := of_decide_eq_true HBC.out.symm
      have hn1 : nxt s p b es out = (0, q, (putS (.mk 1 T2 [] [] p) es out).1, (putS (.mk 1 T2 [] [] p) es out).2) := by
       have hnn := sset_not b hsb
       rw [nxt_tok hnn.1 hnn.2.1 hnn.2.2.1 HTK.out]
       simp only [if_true, if_pos hc]
       rw [show p + (q - p) = q by omega]
      have HN := Lib.hid hn1
      clear hn1 hc HBC
      go_wp2_with fail
      refine (FR.out _).mono ?_
      rintro e w' ⟨rfl, rfl⟩
      go_wp2_with fail
      refine (put3_any g s q es out (.mk 1 T2 [] [] p) 1 T2 none 0 0 none 0 0 p q X1 HRX.out (by rw [HO.out.size]; exact hgN) (by rw [At_mk]; exact ⟨_, _, rfl, .inl ⟨rfl, rfl⟩, .inl ⟨rfl, rfl⟩⟩) (HB.out.more (by omega)) (by omega)).mono ?_
      rintro e w' ⟨rfl, hbl, hsz, D', hD⟩
      have HBL := Lib.hid hbl
      have HSZ := Lib.hid hsz
      have HD := Lib.hid hD
      clear hbl hsz hD
      go_wp2_with fail
      go_ret
      have hn := HN.out
      unfold RetNx
      rw [hn]
      exact ⟨rfl, HLO.out.trans (HBL.out), by have := HSZ.out; rw [HO.out.size] at this; exact this, fun _ => ⟨D', HD.out⟩, fun h => absurd rfl h⟩
     | false =>
      have hc : ¬ Canon T2.data.toList := of_decide_eq_false HBC.out.symm
      have hn1 : nxt s p b es out = (3, p, es, out) := by
       have hnn := sset_not b hsb
       rw [nxt_tok hnn.1 hnn.2.1 hnn.2.2.1 HTK.out]
       simp only [if_true, if_neg hc]
      have HN := Lib.hid hn1
      clear hn1 hc HBC
      have d1 := HR.out.cells.2.1
      have fz := HR.out.frozen 1
      have HR1 := Lib.hid (HR.out.setP p)
      have HL1 : Hid (Below g w (X1.setCell ⟨g, 1, none⟩ (.int .i64 (p : Int)))) := HLO.out.setCell (p := ⟨g, 1, none⟩) (Nat.le_refl _) _
      have HZ1 : Hid (w.heap.size ≤ (X1.setCell ⟨g, 1, none⟩ (.int .i64 (p : Int))).heap.size) := by show _ ≤ _; simp [World.setCell, HO.out.size]
      go_wp2_with fail
      (refine (FR.out _).mono ?_; rintro e w' ⟨rfl, rfl⟩)
      go_wp2_with fail
      go_ret
      have hn := HN.out
      unfold RetNx
      rw [hn]
      exact ⟨rfl, HL1.out, HZ1.out, fun h => absurd h (by simp), fun _ => ⟨_, _, HR1.out⟩⟩
    | false =>
     have FN := Lib.hid (fun w => num_none hbn.symm (by omega) (by omega) w)
     clear hbn
     have hT0s : 0 < T.size := by omega
     have hTb : ((T[0]'hT0s).toNat : Int) = (b.toNat : Int) := by rw [hT0]
     have hdg := dig_in b
     skip
     by_cases hd : 48 ≤ b.toNat
     ·have e1 : decide ((48 : Int) ≤ ((T[0]'hT0s).toNat : Int)) = true := by rw [hTb]; exact decide_eq_true (by omega)
      by_cases hd2 : b.toNat ≤ 57
      ·have e2 : decide (((T[0]'hT0s).toNat : Int) ≤ 57) = true := by rw [hTb]; exact decide_eq_true (by omega)
       have hdd : dset.contains b = true := by rw [hdg]; simp [hd, hd2]
       have hn1 : nxt s p b es out = (3, p, es, out) := by
        have hnn := sset_not b hsb
        rw [nxt_tok hnn.1 hnn.2.1 hnn.2.2.1 HTK.out]
        rw [if_neg (by decide), if_pos hdd]
       have HN := Lib.hid hn1
       clear hn1 hdd hdg hTb hT0 hTs hd hd2
       have d1 := HR.out.cells.2.1
       have fz := HR.out.frozen 1
       have HR1 := Lib.hid (HR.out.setP p)
       have HL1 : Hid (Below g w (X1.setCell ⟨g, 1, none⟩ (.int .i64 (p : Int)))) := HLO.out.setCell (p := ⟨g, 1, none⟩) (Nat.le_refl _) _
       have HZ1 : Hid (w.heap.size ≤ (X1.setCell ⟨g, 1, none⟩ (.int .i64 (p : Int))).heap.size) := by show _ ≤ _; simp [World.setCell, HO.out.size]
       go_wp2_with fail
       (refine (FN.out _).mono ?_; rintro e w' ⟨rfl, rfl⟩)
       go_wp2_with fail
       go_ret
       have hn := HN.out
       unfold RetNx
       rw [hn]
       exact ⟨rfl, HL1.out, HZ1.out, fun h => absurd h (by simp), fun _ => ⟨_, _, HR1.out⟩⟩
      ·have e2 : decide (((T[0]'hT0s).toNat : Int) ≤ 57) = false := by rw [hTb]; exact decide_eq_false (by omega)
       have hdd : ¬ dset.contains b = true := by rw [hdg]; simp [hd2]
       have hn1 : nxt s p b es out = (0, q, (putS (.mk 3 T [] [] p) es out).1, (putS (.mk 3 T [] [] p) es out).2) := by
        have hnn := sset_not b hsb
        rw [nxt_tok hnn.1 hnn.2.1 hnn.2.2.1 HTK.out]
        rw [if_neg (by decide), if_neg hdd]
        simp only []
        rw [show p + (q - p) = q by omega]
       have HN := Lib.hid hn1
       clear hn1 hdd hdg hTb hT0 hTs hd
       go_wp2_with fail
       refine (FN.out _).mono ?_
       rintro e w' ⟨rfl, rfl⟩
       go_wp2_with fail
       refine (put3_any g s q es out (.mk 3 T [] [] p) 3 T none 0 0 none 0 0 p q X1 HRX.out (by rw [HO.out.size]; exact hgN) (by rw [At_mk]; exact ⟨_, _, rfl, .inl ⟨rfl, rfl⟩, .inl ⟨rfl, rfl⟩⟩) (HB.out.more (by omega)) (by omega)).mono ?_
       rintro e w' ⟨rfl, hbl, hsz, D', hD⟩
       have HBL := Lib.hid hbl
       have HSZ := Lib.hid hsz
       have HD := Lib.hid hD
       clear hbl hsz hD
       go_wp2_with fail
       go_ret
       have hn := HN.out
       unfold RetNx
       rw [hn]
       exact ⟨rfl, HLO.out.trans (HBL.out), by have := HSZ.out; rw [HO.out.size] at this; exact this, fun _ => ⟨D', HD.out⟩, fun h => absurd rfl h⟩
     ·have e1 : decide ((48 : Int) ≤ ((T[0]'hT0s).toNat : Int)) = false := by rw [hTb]; exact decide_eq_false (by omega)
      have hdd : ¬ dset.contains b = true := by rw [hdg]; simp [hd]
      have hn1 : nxt s p b es out = (0, q, (putS (.mk 3 T [] [] p) es out).1, (putS (.mk 3 T [] [] p) es out).2) := by
       have hnn := sset_not b hsb
       rw [nxt_tok hnn.1 hnn.2.1 hnn.2.2.1 HTK.out]
       rw [if_neg (by decide), if_neg hdd]
       simp only []
       rw [show p + (q - p) = q by omega]
      have HN := Lib.hid hn1
      clear hn1 hdd hdg hTb hT0 hTs hd
      go_wp2_with fail
      refine (FN.out _).mono ?_
      rintro e w' ⟨rfl, rfl⟩
      go_wp2_with fail
      refine (put3_any g s q es out (.mk 3 T [] [] p) 3 T none 0 0 none 0 0 p q X1 HRX.out (by rw [HO.out.size]; exact hgN) (by rw [At_mk]; exact ⟨_, _, rfl, .inl ⟨rfl, rfl⟩, .inl ⟨rfl, rfl⟩⟩) (HB.out.more (by omega)) (by omega)).mono ?_
      rintro e w' ⟨rfl, hbl, hsz, D', hD⟩
      have HBL := Lib.hid hbl
      have HSZ := Lib.hid hsz
      have HD := Lib.hid hD
      clear hbl hsz hD
      go_wp2_with fail
      go_ret
      have hn := HN.out
      unfold RetNx
      rw [hn]
      exact ⟨rfl, HLO.out.trans (HBL.out), by have := HSZ.out; rw [HO.out.size] at this; exact this, fun _ => ⟨D', HD.out⟩, fun h => absurd rfl h⟩
  ·have q1 : decide ((q : Int) < (s.size : Int)) = false := decide_eq_false (by omega)
   have HM : Hid (rowOf sset (s.data.toList.drop p) = q - p) := row_end hpq hq HIN.out (fun h => absurd h hlt)
   go_upto_region 2 with fail
   have HC : Hid (∀ w', Below wr.heap.size wr w' → w'.cell? ⟨g, 0, none⟩ = some (.string s) ∧ w'.cell? ⟨g, 1, none⟩ = some (.int .i64 (q : Int)) ∧ w'.cell? ⟨g, 2, none⟩ = some ov ∧ w'.cell? ⟨g, 3, none⟩ = some dv) := fun w' hw' => by
    have h9 : w'.heap[g]? = some (.cells #[.string s, .int .i64 (q : Int), ov, dv] 114 (0, 0)) := by rw [hw'.block g HR.out.lt]; exact HR.out
    exact Rs3.cells (p := q) h9
   have HS0 : Hid (Below wr.heap.size wr wr.drew) := (Below.refl _ _).drew
   replace HO : Hid (Only g w wr.drew) := HO.out.trans (Only.drew g wr)
   replace HR : Hid (Rs3 wr.drew g s q ov dv) := HR.out
   refine wp_region_noPanic ?_
   refine wp_region_held_drew (S := Below wr.heap.size wr) (by kernel_rfl) HS0.out (fun hHeld => ?_)
   generalize wr.drew = X0 at HS0 HO HR hHeld ⊢
   refine qts [0, 1, 2, 3, 4, 5, 6, 7, 8, 9, 10, 11, 12, 13, 14, 15, 16, 17, 18, 19, 20, 21] hHeld ?_
   iterate 11 (refine qtc (v := ?_) rfl rfl (fun w' hw' => ?_) ?_; rotate_left; (focus ((obtain ⟨d0, d1, d2, d3⟩ := HC.out w' hw'; go_simp); try with_reducible rfl)); simp only [zt,zs,zz,Act.put,zi,zy,zx])
   iterate 10 (refine qtz rfl rfl ?_; simp only [zt,zs,zz,Act.put,zi,zy,zx])
   (refine qtc (v := ?_) rfl rfl (fun w' hw' => ?_) ?_; rotate_left; (focus ((obtain ⟨d0, d1, d2, d3⟩ := HC.out w' hw'; go_simp); try with_reducible rfl)); simp only [zt,zs,zz,Act.put,zi,zy,zx])
   refine qtn ?_
   simp only [zt,zs,zz,Act.put,zi,zy,zx,qzl,qzn,qza,Nat.reduceAdd,Nat.reduceSub]
   refine wpAnyH_done (by kernel_rfl) ?_ _
   refine NoPanic.normal ?_
   clear hHeld
   clear HC HS0
   have hpq1 : p < q := by have h1 := row_pos hp (by rw [HBB.out]; exact hsb); have h2 := HM.out; omega
   have HTK := Lib.hid (tok_row hp HBB.out hsb HM.out)
   have hq8 : q ≤ 8000 := by omega
   go_upto_region 4 with fail
   have HC : Hid (∀ w', Below X0.heap.size X0 w' → w'.cell? ⟨g, 0, none⟩ = some (.string s) ∧ w'.cell? ⟨g, 1, none⟩ = some (.int .i64 (q : Int)) ∧ w'.cell? ⟨g, 2, none⟩ = some ov ∧ w'.cell? ⟨g, 3, none⟩ = some dv) := fun w' hw' => by
    have h9 : w'.heap[g]? = some (.cells #[.string s, .int .i64 (q : Int), ov, dv] 114 (0, 0)) := by rw [hw'.block g HR.out.lt]; exact HR.out
    exact Rs3.cells (p := q) h9
   have HS0 : Hid (Below X0.heap.size X0 X0.drew) := (Below.refl _ _).drew
   replace HO : Hid (Only g w X0.drew) := HO.out.trans (Only.drew g X0)
   replace HR : Hid (Rs3 X0.drew g s q ov dv) := HR.out
   refine wp_region_noPanic ?_
   refine wp_region_held_drew (S := Below X0.heap.size X0) (by kernel_rfl) HS0.out (fun hHeld => ?_)
   generalize X0.drew = X1 at HS0 HO HR hHeld ⊢
   refine qts [0, 1, 2, 3, 4, 5, 6, 7, 8, 9, 10] hHeld ?_
   iterate 11 (refine qtc (v := ?_) rfl rfl (fun w' hw' => ?_) ?_; rotate_left; (focus ((obtain ⟨d0, d1, d2, d3⟩ := HC.out w' hw'; go_simp); try with_reducible rfl)); simp only [zt,zs,zz,Act.put,zi,zy,zx])
   refine qtn ?_
   simp only [zt,zs,zz,Act.put,zi,zy,zx,qzl,qzn,qza,Nat.reduceAdd,Nat.reduceSub]
   refine wpAnyH_done (by kernel_rfl) ?_ _
   refine NoPanic.normal ?_
   clear hHeld
   clear HC HS0
   obtain ⟨T, hT⟩ : ∃ T, T = s.extract p q := ⟨_, rfl⟩
   rw [← hT] at HTK ⊢
   have HRX : Hid (RdAt D X1.heap.size X1 g s q es out) := by
    show RdAt _ _ _ _ _ _ _ _
    rw [HO.out.size]
    exact rd_moved HH.out HF.out HO.out HR.out
   have HLO : Hid (Below g w X1) := only_below HO.out
   have hTs : T.size = q - p := by rw [hT, ByteArray.size_extract]; omega
   have hT0 : T[0]'(by omega) = b := by
    rw [← HBB.out]
    simp only [hT, ByteArray.getElem_extract]
    rfl
   clear hT
   obtain ⟨bn, hbn⟩ : ∃ bn, bn = isNum T.data.toList := ⟨_, rfl⟩
   rw [← hbn] at HTK
   cases bn with
   | true =>
    obtain ⟨T2, hT2l, hT2, hT2z⟩ := num_str T hbn.symm
    have hT2s : T2.size ≤ 8000 := by omega
    have FN := Lib.hid (fun w => num_call hbn.symm hT2 (by omega) (by omega) w)
    rw [← hT2l] at HTK
    have hT2d : (⟨T2.data.toList.toArray⟩ : ByteArray) = T2 := Lib.mk_data T2
    rw [hT2d] at HTK
    obtain ⟨bc, hbc⟩ : ∃ bc, bc = decide (Canon T2.data.toList) := ⟨_, rfl⟩
    have FR : Hid (∀ w, Calls Try.prog 97 #[.string T2] w fun e w' => e = .returned (.bool bc) ∧ w = w') := fun w => by
     rw [hbc]
     exact refRight_any T2 w (by omega)
    have HBC := Lib.hid hbc
    clear hbn hT2 hT2l hT0 hTs hT2z hT2d hbc
    skip
    go_wp2_with fail
    refine (FN.out _).mono ?_
    rintro e w' ⟨rfl, rfl⟩
    cases bc with
    | true =>
     have hc : Canon T2.data.toList := of_decide_eq_true HBC.out.symm
     have hn1 : nxt s p b es out = (0, q, (putS (.mk 1 T2 [] [] p) es out).1, (putS (.mk 1 T2 [] [] p) es out).2) := by
      have hnn := sset_not b hsb
      rw [nxt_tok hnn.1 hnn.2.1 hnn.2.2.1 HTK.out]
      simp only [if_true, if_pos hc]
      rw [show p + (q - p) = q by omega]
     have HN := Lib.hid hn1
     clear hn1 hc HBC
     go_wp2_with fail
     refine (FR.out _).mono ?_
     rintro e w' ⟨rfl, rfl⟩
     go_wp2_with fail
     refine (put3_any g s q es out (.mk 1 T2 [] [] p) 1 T2 none 0 0 none 0 0 p q X1 HRX.out (by rw [HO.out.size]; exact hgN) (by rw [At_mk]; exact ⟨_, _, rfl, .inl ⟨rfl, rfl⟩, .inl ⟨rfl, rfl⟩⟩) (HB.out.more (by omega)) (by omega)).mono ?_
     rintro e w' ⟨rfl, hbl, hsz, D', hD⟩
     have HBL := Lib.hid hbl
     have HSZ := Lib.hid hsz
     have HD := Lib.hid hD
     clear hbl hsz hD
     go_wp2_with fail
     go_ret
     have hn := HN.out
     unfold RetNx
     rw [hn]
     exact ⟨rfl, HLO.out.trans (HBL.out), by have := HSZ.out; rw [HO.out.size] at this; exact this, fun _ => ⟨D', HD.out⟩, fun h => absurd rfl h⟩
    | false =>
     have hc : ¬ Canon T2.data.toList := of_decide_eq_false HBC.out.symm
     have hn1 : nxt s p b es out = (3, p, es, out) := by
      have hnn := sset_not b hsb
      rw [nxt_tok hnn.1 hnn.2.1 hnn.2.2.1 HTK.out]
      simp only [if_true, if_neg hc]
     have HN := Lib.hid hn1
     clear hn1 hc HBC
     have d1 := HR.out.cells.2.1
     have fz := HR.out.frozen 1
     have HR1 := Lib.hid (HR.out.setP p)
     have HL1 : Hid (Below g w (X1.setCell ⟨g, 1, none⟩ (.int .i64 (p : Int)))) := HLO.out.setCell (p := ⟨g, 1, none⟩) (Nat.le_refl _) _
     have HZ1 : Hid (w.heap.size ≤ (X1.setCell ⟨g, 1, none⟩ (.int .i64 (p : Int))).heap.size) := by show _ ≤ _; simp [World.setCell, HO.out.size]
     go_wp2_with fail
     (refine (FR.out _).mono ?_; rintro e w' ⟨rfl, rfl⟩)
     go_wp2_with fail
     go_ret
     have hn := HN.out
     unfold RetNx
     rw [hn]
     exact ⟨rfl, HL1.out, HZ1.out, fun h => absurd h (by simp), fun _ => ⟨_, _, HR1.out⟩⟩
   | false =>
    have FN := Lib.hid (fun w => num_none hbn.symm (by omega) (by omega) w)
    clear hbn
    have hT0s : 0 < T.size := by omega
    have hTb : ((T[0]'hT0s).toNat : Int) = (b.toNat : Int) := by rw [hT0]
    have hdg := dig_in b
    skip
    by_cases hd : 48 ≤ b.toNat
    ·have e1 : decide ((48 : Int) ≤ ((T[0]'hT0s).toNat : Int)) = true := by rw [hTb]; exact decide_eq_true (by omega)
     by_cases hd2 : b.toNat ≤ 57
     ·have e2 : decide (((T[0]'hT0s).toNat : Int) ≤ 57) = true := by rw [hTb]; exact decide_eq_true (by omega)
      have hdd : dset.contains b = true := by rw [hdg]; simp [hd, hd2]
      have hn1 : nxt s p b es out = (3, p, es, out) := by
       have hnn := sset_not b hsb
       rw [nxt_tok hnn.1 hnn.2.1 hnn.2.2.1 HTK.out]
       rw [if_neg (by decide), if_pos hdd]
      have HN := Lib.hid hn1
      clear hn1 hdd hdg hTb hT0 hTs hd hd2
      have d1 := HR.out.cells.2.1
      have fz := HR.out.frozen 1
      have HR1 := Lib.hid (HR.out.setP p)
      have HL1 : Hid (Below g w (X1.setCell ⟨g, 1, none⟩ (.int .i64 (p : Int)))) := HLO.out.setCell (p := ⟨g, 1, none⟩) (Nat.le_refl _) _
      have HZ1 : Hid (w.heap.size ≤ (X1.setCell ⟨g, 1, none⟩ (.int .i64 (p : Int))).heap.size) := by show _ ≤ _; simp [World.setCell, HO.out.size]
      go_wp2_with fail
      (refine (FN.out _).mono ?_; rintro e w' ⟨rfl, rfl⟩)
      go_wp2_with fail
      go_ret
      have hn := HN.out
      unfold RetNx
      rw [hn]
      exact ⟨rfl, HL1.out, HZ1.out, fun h => absurd h (by simp), fun _ => ⟨_, _, HR1.out⟩⟩
     ·have e2 : decide (((T[0]'hT0s).toNat : Int) ≤ 57) = false := by rw [hTb]; exact decide_eq_false (by omega)
      have hdd : ¬ dset.contains b = true := by rw [hdg]; simp [hd2]
      have hn1 : nxt s p b es out = (0, q, (putS (.mk 3 T [] [] p) es out).1, (putS (.mk 3 T [] [] p) es out).2) := by
       have hnn := sset_not b hsb
       rw [nxt_tok hnn.1 hnn.2.1 hnn.2.2.1 HTK.out]
       rw [if_neg (by decide), if_neg hdd]
       simp only []
       rw [show p + (q - p) = q by omega]
      have HN := Lib.hid hn1
      clear hn1 hdd hdg hTb hT0 hTs hd
      go_wp2_with fail
      refine (FN.out _).mono ?_
      rintro e w' ⟨rfl, rfl⟩
      go_wp2_with fail
      refine (put3_any g s q es out (.mk 3 T [] [] p) 3 T none 0 0 none 0 0 p q X1 HRX.out (by rw [HO.out.size]; exact hgN) (by rw [At_mk]; exact ⟨_, _, rfl, .inl ⟨rfl, rfl⟩, .inl ⟨rfl, rfl⟩⟩) (HB.out.more (by omega)) (by omega)).mono ?_
      rintro e w' ⟨rfl, hbl, hsz, D', hD⟩
      have HBL := Lib.hid hbl
      have HSZ := Lib.hid hsz
      have HD := Lib.hid hD
      clear hbl hsz hD
      go_wp2_with fail
      go_ret
      have hn := HN.out
      unfold RetNx
      rw [hn]
      exact ⟨rfl, HLO.out.trans (HBL.out), by have := HSZ.out; rw [HO.out.size] at this; exact this, fun _ => ⟨D', HD.out⟩, fun h => absurd rfl h⟩
    ·have e1 : decide ((48 : Int) ≤ ((T[0]'hT0s).toNat : Int)) = false := by rw [hTb]; exact decide_eq_false (by omega)
     have hdd : ¬ dset.contains b = true := by rw [hdg]; simp [hd]
     have hn1 : nxt s p b es out = (0, q, (putS (.mk 3 T [] [] p) es out).1, (putS (.mk 3 T [] [] p) es out).2) := by
      have hnn := sset_not b hsb
      rw [nxt_tok hnn.1 hnn.2.1 hnn.2.2.1 HTK.out]
      rw [if_neg (by decide), if_neg hdd]
      simp only []
      rw [show p + (q - p) = q by omega]
     have HN := Lib.hid hn1
     clear hn1 hdd hdg hTb hT0 hTs hd
     go_wp2_with fail
     refine (FN.out _).mono ?_
     rintro e w' ⟨rfl, rfl⟩
     go_wp2_with fail
     refine (put3_any g s q es out (.mk 3 T [] [] p) 3 T none 0 0 none 0 0 p q X1 HRX.out (by rw [HO.out.size]; exact hgN) (by rw [At_mk]; exact ⟨_, _, rfl, .inl ⟨rfl, rfl⟩, .inl ⟨rfl, rfl⟩⟩) (HB.out.more (by omega)) (by omega)).mono ?_
     rintro e w' ⟨rfl, hbl, hsz, D', hD⟩
     have HBL := Lib.hid hbl
     have HSZ := Lib.hid hsz
     have HD := Lib.hid hD
     clear hbl hsz hD
     go_wp2_with fail
     go_ret
     have hn := HN.out
     unfold RetNx
     rw [hn]
     exact ⟨rfl, HLO.out.trans (HBL.out), by have := HSZ.out; rw [HO.out.size] at this; exact this, fun _ => ⟨D', HD.out⟩, fun h => absurd rfl h⟩
end Go.Proofs.Ytecljchifebljaa
namespace Go.Proofs.Ytecljchifebljaa
open Go.RowKit Go.BigM
structure Stt (D : Nat → Prop) (g : Nat) (s : ByteArray) (p : Nat) (es : List En) (out : List Dt) (w X : World) : Prop where
 rd : RdAt D X.heap.size X g s p es out
 low : Below g w X
 size : w.heap.size ≤ X.heap.size
theorem Stt.drew {D : Nat → Prop} {g : Nat} {s : ByteArray} {p : Nat} {es : List En} {out : List Dt} {w X : World} (h : Stt D g s p es out w X) (hg : g < X.heap.size) : Stt D g s p es out w X.drew :=
 ⟨h.rd.keep (fun _ _ _ => rfl) hg (Nat.le_refl _), h.low.trans ((Below.refl g X).drew), h.size⟩
theorem Stt.start {D : Nat → Prop} {g : Nat} {s : ByteArray} {p : Nat} {es : List En} {out : List Dt} {w : World} (h : RdAt D w.heap.size w g s p es out) : Stt D g s p es out w w := ⟨h, Below.refl _ _, Nat.le_refl _⟩
def Z3 : Array Value := #[.bool false, .int .i64 0, .slice none 0 0]
theorem info84 : (Try.prog.info? 137).map (fun i => (i.zero, i.size, i.bytes)) = some (some (.agg Z3), 3, 40) := by kernel_rfl
theorem run_app3 (w : World) (B ty : Nat) (v : Value) (n : Nat) (xs : List Value) (hown : w.ownsRow B 137 3 v n xs) (g0 c : Nat) (news : List Value) (hl : news.length = 3)
  (hnews : ∀ j u, news[j]? = some u → w.cell? ⟨g0, j, none⟩ = some u) (h1 : ∀ u ∈ news, u.oneCell' = true) (hn : n + 1 ≤ 1000000000) (hB : B ≤ w.heap.size) :
  ∃ v' w', (Builtin.append_ #[112, 112] ty #[v, .slice (some ⟨g0, 0, none⟩) 1 c]).run Try.prog w = .ok v' w' ∧ w'.ownsRow B 137 3 v' (n + 1) (xs ++ news) ∧ w.grownBy w' v.ownBlock ∧ (v'.ownBlock = v.ownBlock ∨ v'.ownBlock = some w.heap.size) := by
 obtain ⟨i, hi, hz, hs, hb⟩ := info_parts info84
 have hnews' : ∀ j u, news[j]? = some u → w.cell? ((⟨g0, 0, none⟩ : Addr).add j) = some u := by
  intro j u hu
  have e : (⟨g0, 0, none⟩ : Addr).add j = ⟨g0, j, none⟩ := by unfold Addr.add; split <;> simp_all
  rw [e]; exact hnews j u hu
 have hl1 : news.length = 1 * 3 := by omega
 obtain ⟨v', w', hr, h2, h3, _⟩ := run_append_own (P := Try.prog) w B 112 ty 137 i (.agg Z3) 3 40 Try.underlying112 hi hz hs hb rfl (by decide) v n xs hown ⟨g0, 0, none⟩ 1 c news hl1 hnews' h1 (by unfold maxLen; omega) (by omega) hB
 refine ⟨v', w', hr, h2, h3, ?_⟩
 have hl2 : news.length = 1 * i.size := by rw [hs]; exact hl1
 rcases hown.2 with ⟨rfl, rfl⟩ | ⟨g, cap, cur, rfl, hbg, hg, hnc, hcm, hcs, htake⟩
 ·have hr2 := run_append_nil (P := Try.prog) w 112 ty 137 i (.agg Z3) Try.underlying112 hi hz ⟨g0, 0, none⟩ 1 c news hl2 hnews' (by decide) (by decide) (by rw [hb]; decide)
  rw [hr] at hr2
  injection hr2 with e1 e2
  right; rw [e1]; rfl
 ·by_cases hroom : n + 1 ≤ cap
  ·have hfit : n * i.size + news.length ≤ cur.size := by rw [hs, hl, hcs]; omega
   have hr2 := run_append_room (P := Try.prog) w 112 ty 137 i Try.underlying112 hi g n cap cur hg ⟨g0, 0, none⟩ 1 c news hl2 hnews' h1 hroom hfit
   rw [hr] at hr2
   injection hr2 with e1 e2
   left; rw [e1]; rfl
  ·have hlo : xs.length = n * i.size := by rw [hs]; exact hown.1
   have hr2 := run_append_grow (P := Try.prog) w 112 ty 137 i (.agg Z3) Try.underlying112 hi hz ⟨g, 0, none⟩ n cap xs hlo (hown.cells (g := g) rfl) ⟨g0, 0, none⟩ 1 c news hl2 hnews' (by omega) (by omega) (growslice_fits (by omega) (by rw [hb]; omega))
   rw [hr] at hr2
   injection hr2 with e1 e2
   right; rw [e1]; rfl
theorem wp_app3 {o : Oper} {a : Act} {w : World} {K : Act → World → Prop} {Q : Exit → Act → World → Prop} (s x : Operand)
  (ho : o.op = .call { callee := .builtin .append, args := #[s, x], argTypes := #[112, 112] }) (B : Nat) (v : Value) (n : Nat) (xs : List Value) (hs : a.eval s = v) (hown : w.ownsRow B 137 3 v n xs)
  (g0 c : Nat) (hx : a.eval x = .slice (some ⟨g0, 0, none⟩) 1 c) (news : List Value) (hl : news.length = 3)
  (hnews : ∀ j u, news[j]? = some u → w.cell? ⟨g0, j, none⟩ = some u) (h1 : ∀ u ∈ news, u.oneCell' = true) (hn : n + 1 ≤ 1000000000) (hB : B ≤ w.heap.size)
  (h : ∀ v' w', w'.ownsRow B 137 3 v' (n + 1) (xs ++ news) → w.grownBy w' v.ownBlock → (v'.ownBlock = v.ownBlock ∨ v'.ownBlock = some w.heap.size) → K (a.put o.dst v') w') : o.wp Try.prog a w K Q := by
 obtain ⟨v', w', hr, h2, h3, h4⟩ := run_app3 w B o.type v n xs hown g0 c news hl hnews h1 hn hB
 unfold Oper.wp execOp
 simp only [ho, resolve, invoke, builtin, Sem.run_bind, Sem.run_pure, Result.andThen_ok, List.map_toArray, List.map_cons, List.map_nil, hs, hx, hr]
 exact h v' w' h2 h3 h4
/-- One more open: its append, its store. -/
theorem push_step {D : Nat → Prop} {g : Nat} {s : ByteArray} {p : Nat} {es : List En} {out : List Dt} {w X : World} (h : Stt D g s p es out w X) (hgX : g < X.heap.size) (e : En) (hds : e.ds = if e.q = true then [.mk 3 qT [] [] e.pl] else []) :
  ∃ ao c xs, X.cell? ⟨g, 1, none⟩ = some (.int .i64 (p : Int)) ∧ X.cell? ⟨g, 2, none⟩ = some (.slice ao es.length c) ∧ (X.alloc (.cells #[.bool e.q, .int .i64 e.pl, .slice none 0 0] 137)).cell? ⟨g, 2, none⟩ = some (.slice ao es.length c) ∧ (X.alloc (.cells #[.bool e.q, .int .i64 e.pl, .slice none 0 0] 137)).cell? ⟨g, 1, none⟩ = some (.int .i64 (p : Int)) ∧
   (X.alloc (.cells #[.bool e.q, .int .i64 e.pl, .slice none 0 0] 137)).ownsRow (g + 1) 137 3 (.slice ao es.length c) es.length xs ∧ g + 1 ≤ (X.alloc (.cells #[.bool e.q, .int .i64 e.pl, .slice none 0 0] 137)).heap.size ∧
   ∀ v' w9, w9.ownsRow (g + 1) 137 3 v' (es.length + 1) (xs ++ [.bool e.q, .int .i64 e.pl, .slice none 0 0]) → (X.alloc (.cells #[.bool e.q, .int .i64 e.pl, .slice none 0 0] 137)).grownBy w9 (Value.slice ao es.length c).ownBlock → (v'.ownBlock = (Value.slice ao es.length c).ownBlock ∨ v'.ownBlock = some (X.alloc (.cells #[.bool e.q, .int .i64 e.pl, .slice none 0 0] 137)).heap.size) →
    w9.cell? ⟨g, 1, none⟩ = some (.int .i64 (p : Int)) ∧ w9.cell? ⟨g, 2, none⟩ = some (.slice ao es.length c) ∧ w9.frozen? ⟨g, 2, none⟩ = false ∧ (w9.setCell ⟨g, 2, none⟩ v').cell? ⟨g, 1, none⟩ = some (.int .i64 (p : Int)) ∧ Stt D g s p (e :: es) out w (w9.setCell ⟨g, 2, none⟩ v') := by
 obtain ⟨wa, hwa⟩ : ∃ wa, wa = X.alloc (.cells #[.bool e.q, .int .i64 e.pl, .slice none 0 0] 137) := ⟨_, rfl⟩
 have hsz : wa.heap.size = X.heap.size + 1 := by rw [hwa]; simp
 have hold : ∀ x, x < X.heap.size → wa.heap[x]? = X.heap[x]? := fun x hx => by rw [hwa]; exact Lib.alloc_old X _ x hx
 have ha : RdAt D X.heap.size wa g s p es out := h.rd.keep (fun x _ hx => hold x hx) hgX (by omega)
 have hla : Below g w wa := by rw [hwa]; exact h.low.alloc (by omega) _
 obtain ⟨ov, dv, xs, hR, hown, hnx⟩ := ha.push hgX e hds
 obtain ⟨ao, c, rfl⟩ := row_form hown (by decide)
 have hgg : wa.heap[g]? = X.heap[g]? := hold g hgX
 have cc := hR.cells
 rw [← hwa]
 refine ⟨ao, c, xs, ?_, ?_, cc.2.2.1, cc.2.1, hown, by omega, fun v' w9 h9 hg hv => ?_⟩
 ·rw [← cc.2.1]; simp only [World.cell?, hgg]
 ·rw [← cc.2.2.1]; simp only [World.cell?, hgg]
 have hs9 := hg.size
 have hob : ∀ x, (Value.slice ao es.length c).ownBlock = some x → g + 1 ≤ x := fun x hx => (hown.lt x hx).1
 have hg9 : w9.heap[g]? = wa.heap[g]? := hg.block g (by omega) (fun e => by have := hob g e.symm; omega)
 have hR9 : Rs3 w9 g s p (.slice ao es.length c) dv := rs3_of hR hg9
 have hfin := hnx v' w9 h9 hg (by
  rcases hv with e | e
  ·exact .inl e
  ·exact .inr ⟨_, e, Nat.le_refl _, (h9.lt _ e).2⟩)
 have hse : (w9.setCell ⟨g, 2, none⟩ v').heap.size = w9.heap.size := by simp [World.setCell]
 refine ⟨hR9.cells.2.1, hR9.cells.2.2.1, hR9.frozen 2, ?_, ?_, ?_, by rw [hse]; have := h.size; omega⟩
 ·rw [World.cell?_setCell_other w9 _ _ _ (by intro e; cases e)]; exact hR9.cells.2.1
 ·rw [hse]; exact hfin
 ·exact (below_grown hla hg (by omega) (fun x hx => by have := hob x hx; omega)).setCell (p := ⟨g, 2, none⟩) (Nat.le_refl _) _
end Go.Proofs.Ytecljchifebljaa
