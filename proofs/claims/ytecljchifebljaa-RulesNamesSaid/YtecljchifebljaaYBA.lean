/- The contract of All. -/
import Derived.Test.YtecljchifebljaaYAZ
import Derived.Lib.TrimByte
import Derived.Test.YtecljchifebljaaCK1
import Derived.Test.YtecljchifebljaaYAA
import Derived.Test.YtecljchifebljaaYAL
import Derived.Test.YtecljchifebljaaYAE
import Derived.Test.YtecljchifebljaaYAY
import Derived.Test.YtecljchifebljaaYAP
import Derived.Test.YtecljchifebljaaYAX
set_option linter.unusedVariables false
set_option linter.unusedSimpArgs false
namespace Go.Proofs.Ytecljchifebljaa
open Go.RowKit

theorem wpList_wanted {P : Program} {ops : Array Oper} {Q : Exit → Act → World → Prop} {a : Act} {w : World} {rest : List Oper} {o : Oper} (hw : Region.wanted o (yielded ops a.tmps) = true) (h : ∀ K : Act → World → Prop, (∀ a w, wpList P ops Q rest a w → K a w) → o.wp P a w K Q) : wpList P ops Q (o :: rest) a w :=
 wpList_step fun K hK => by rw [if_pos hw]; exact h K hK
def RetAll (l : List Rw) (w : World) (e : Ending) (w' : World) : Prop := ∃ v, e = .returned v ∧ OwnD w.heap.size w' v (Rw.makes l) ∧ Below w.heap.size w w'
def AInv (l : List Rw) (w : World) (sv iv : Value) (wr : World) : Prop := ∃ j : Nat, j ≤ l.length ∧ iv = .int .i64 j ∧ OwnD w.heap.size wr sv (Rw.makes (l.take j)) ∧ Below w.heap.size w wr

set_option maxHeartbeats 4000000 in
set_option maxRecDepth 100000 in
theorem all_any (l : List Rw) (hl : Rw.cnts l ≤ 1000000) (ao : Option Addr) (ac : Nat) (w : World) (hR : RsAt w ao l) :
  Calls Try.prog 16 #[.slice ao l.length ac] w (RetAll l w) := by
 have hll := length_cnts l
 have hl1 : l.length ≤ 1000000 := by omega
 have HR := Lib.hid hR
 have HC := Lib.hid hl
 clear hR hl hll
 go_enter Try.func16, Try.ntmps16
 go_wp2_with fail
 go_loopw [3, 4] (fun sv iv wr => AInv l w sv iv wr) (fun _ iv _ => l.length - (intOf iv).toNat)
 case atStart => exact ⟨0, Nat.zero_le _, rfl, OwnD.nil _ _, Below.refl _ _⟩
 case round =>
  obtain ⟨j, hj, rfl, hown, hbel⟩ := hrel
  have HO := Lib.hid hown
  have HB := Lib.hid hbel
  clear hown hbel
  by_cases hlt : j < l.length
  ·have q1 : decide ((j : Int) < (l.length : Int)) = true := decide_eq_true (by omega)
   obtain ⟨b, k', n', po, pl, pc, rfl, hlj, c0, c1, c2, i1, i2, hpl⟩ := (HR.out.below HB.out).get j hlt
   have hcj := cnts_get l j hlt
   have hd : l[j].make = (Rw.mk k' n' pl).make := by rw [hlj]
   rw [hlj] at hcj
   simp only [Rw.cnt] at hcj
   have hlm : (Rw.makes (l.take j)).length = j := by rw [makes_length, List.length_take]; omega
   have HX := Lib.hid (make_any 1000000 (by decide) k' n' pl (by have := HC.out; omega) i1 i2 po pc wr hpl)
   have HT := Lib.hid (makes_take l j hlt)
   have HD := Lib.hid hd
   have HLM := Lib.hid hlm
   clear hd hlj hcj i1 i2 hpl hlm
   go_wp2_with fail
   refine HX.out.mono ?_
   rintro e w7 ⟨cs, rfl, hat, hb⟩
   obtain ⟨k5, t5, mv5, lv5, p5, rfl, o1, o2⟩ := At_form hat
   obtain ⟨xs, hown8, hz8, hnx⟩ := all_more HO.out (by rw [HLM.out]; omega) HB.out.size hat hb rfl
   rw [HLM.out] at hown8 hnx
   have HN := Lib.hid hnx
   have HO8 := Lib.hid hown8
   clear hat hb hown8 hnx c0 c1 c2
   go_wp2_with (refine wpList_wanted (by rfl) fun K hK => ?_; refine wp_app (Operand.tmp 11) (Operand.tmp 17) rfl w.heap.size u3 j xs rfl HO8.out w7.heap.size 1 rfl [.int .i64 k5, .string t5, mv5, lv5, .int .i64 p5] rfl (fun i u hu => by rw [Lib.cell_of_heap (alloc_at w7 (.cells #[.int .i64 k5, .string t5, mv5, lv5, .int .i64 p5] 29))]; simpa using hu) (by simp; exact ⟨rfl, rfl, o1, o2, rfl⟩) (by omega) hz8 ?_; intro v' w9 hown9 hg9 hv9; have HM := Lib.hid (HN.out v' w9 hown9 hg9 hv9); clear hown9 hg9 hv9 HN HO8; refine hK _ _ ?_; clear hK K)
   go_roundw
   case rel =>
    refine ⟨j + 1, by omega, by go_num, ?_, HB.out.trans HM.out.1⟩
    rw [HT.out, HD.out]
    exact HM.out.2
   case measure => simp [intOf]; omega
  ·obtain rfl : j = l.length := by omega
   have q1 : decide ((l.length : Int) < (l.length : Int)) = false := decide_eq_false (by omega)
   go_wp2_with fail
   go_ret
   refine ⟨_, rfl, ?_, HB.out⟩
   have := HO.out
   rw [List.take_length] at this
   exact this
end Go.Proofs.Ytecljchifebljaa
namespace Go.Proofs.Ytecljchifebljaa
open Go.RowKit

theorem size_list (t : ByteArray) : t.data.toList.length = t.size := by rw [Array.length_toList]; rfl
theorem getD_le (l : List ByteArray) (m : Nat) (h : ∀ t ∈ l, t.size ≤ m) (i : Nat) : (l.getD i ⟨#[]⟩).size ≤ m := by
 rw [List.getD_eq_getElem?_getD]
 cases hq : l[i]? with
 | none => exact Nat.zero_le _
 | some t => simp; exact h t (List.mem_of_getElem? hq)
theorem tblI_le : ∀ t ∈ tblI, t.size ≤ 30 := by decide
theorem tblB_le : ∀ t ∈ tblB, t.size ≤ 30 := by decide
theorem tblS_le : ∀ t ∈ tblS, t.size ≤ 30 := by decide
theorem leaf_txt (k : Int) (t : ByteArray) (ms : List Int) (l : List Dt) (p : Int) (hk : k ≠ 4) : (Dt.mk k t ms l p).txt = t.data.toList := by simp [Dt.txt, hk]
theorem txts_txtr (l : List Dt) : (Dt.txts l).length ≤ (Dt.txtr l).length := by cases l <;> simp [Dt.txts, Dt.txtr]
mutual
theorem make_txt : ∀ (r : Rw), r.make.txt.length + 1 ≤ 41 * r.cnt
 | .mk k n l => by
  rw [Rw.make]
  have hc : 41 ≤ 41 * (Rw.mk k n l).cnt := by simp only [Rw.cnt]; omega
  split
  ·rw [leaf_txt _ _ _ _ _ (by decide), size_list]; have := getD_le _ _ tblI_le (n % 5).toNat; omega
  ·split
   ·rw [leaf_txt _ _ _ _ _ (by decide), size_list]; have := getD_le _ _ tblB_le (n % 2).toNat; omega
   ·split
    ·rw [leaf_txt _ _ _ _ _ (by decide), size_list]; have := getD_le _ _ tblS_le (n % 11).toNat; omega
    ·have h1 := makes_txt l
     have h2 := txts_txtr (Rw.makes l)
     simp only [Dt.txt, if_true, List.length_cons, List.length_append, List.length_nil, Rw.cnt]
     omega
theorem makes_txt : ∀ (l : List Rw), (Dt.txtr (Rw.makes l)).length ≤ 41 * Rw.cnts l
 | [] => by simp [Rw.makes, Dt.txtr]
 | r :: l => by
  have h1 := make_txt r
  have h2 := makes_txt l
  simp only [Rw.makes, Dt.txtr, Rw.cnts, List.length_cons, List.length_append]
  omega
end
mutual
theorem make_size : ∀ (r : Rw), r.make.size ≤ r.cnt
 | .mk k n l => by
  have h1 := makes_size l
  rw [Rw.make]
  split
  ·simp only [Dt.size, Dt.sizes, Rw.cnt]; omega
  ·split
   ·simp only [Dt.size, Dt.sizes, Rw.cnt]; omega
   ·split
    ·simp only [Dt.size, Dt.sizes, Rw.cnt]; omega
    ·simp only [Dt.size, Rw.cnt]; omega
theorem makes_size : ∀ (l : List Rw), Dt.sizes (Rw.makes l) ≤ Rw.cnts l
 | [] => by simp [Rw.makes, Dt.sizes]
 | r :: l => by
  have h1 := make_size r
  have h2 := makes_size l
  simp only [Rw.makes, Dt.sizes, Rw.cnts]
  omega
end
end Go.Proofs.Ytecljchifebljaa
namespace Go.Proofs.Ytecljchifebljaa
open Go Go.RowKit
theorem list_size (l : List Rw) : (Dt.mk 4 ⟨#[]⟩ [] (Rw.makes l) 0).size ≤ 1 + Rw.cnts l := by simp only [Dt.size]; have := makes_size l; omega
theorem list_at {S : Nat → Prop} {w : World} {lv : Value} {l : List Dt} (h : LAt S w lv l) : Dt.At S w (.mk 4 ⟨#[]⟩ [] l 0) #[.int .i64 4, .string ⟨#[]⟩, .slice none 0 0, lv, .int .i64 0] := by
 rw [At_mk]; exact ⟨_, _, rfl, .inl ⟨rfl, rfl⟩, h⟩
end Go.Proofs.Ytecljchifebljaa
namespace Go.Proofs.Ytecljchifebljaa
open Go Go.RowKit
attribute [local go_sem] Oper.semAt_some
theorem nm_all : ((List.range 15).all fun k => (oneOf (pT k)).wfb && (oneOf (pT k)).ren.wfb && (oneOf (pT k)).pat && decide ((oneOf (pT k)).size ≤ 1000) && decide ((pT k).size ≤ 1000)) = true := by kernel_rfl
theorem nm_at (k : Nat) (hk : k < 15) : (oneOf (pT k)).wf ∧ (oneOf (pT k)).ren.wf ∧ (oneOf (pT k)).pat = true ∧ (oneOf (pT k)).size ≤ 1000 ∧ (pT k).size ≤ 1000 := by
 have h1 := List.all_eq_true.1 nm_all k (List.mem_range.2 hk)
 simp only [Bool.and_eq_true, decide_eq_true_eq] at h1
 exact ⟨wfb_is _ h1.1.1.1.1, wfb_is _ h1.1.1.1.2, h1.1.1.2, h1.1.2, h1.2⟩
theorem lit_at {w : World} (c : Nat) : LitsAt (w.alloc (.cells #[.string litB] 9)) (.slice (some ⟨w.heap.size, 0, none⟩) 1 c) [litB] := by
 refine .inr ⟨_, 0, c, _, _, rfl, alloc_at w _, fun j hj => ?_⟩
 have : j = 0 := by simp at hj; exact hj
 subst this; rfl
theorem RetMu.rows {res : Option (List Bd)} {w : World} {e : Ending} {w' : World} (h : RetMu res w e w') : ∃ v, e = .returned (.tuple #[v, .bool res.isSome]) ∧ RowN (fun x => w.heap.size ≤ x) (fun x => w.heap.size ≤ x) w' v (res.getD []) ∧ Below w.heap.size w w' := by
 obtain ⟨v, h1, h2, h3, h4⟩ := h
 refine ⟨v, h1, ?_, h4⟩
 cases res with
 | none => rw [h3 rfl]; exact RowN.nil _ _ _
 | some r => exact h2 r rfl
theorem Rl.getD {o o' : Option (List Bd)} (h : Rl o o') : o'.isSome = o.isSome ∧ Rns (o.getD []) (o'.getD []) := by
 rcases h with ⟨rfl, rfl⟩ | ⟨r, r', rfl, rfl, h⟩
 ·exact ⟨rfl, Rns.nil⟩
 ·exact ⟨rfl, h⟩
theorem tx_getD {ls : List ByteArray} {n : Nat} {p d : Dt} (hp : p.wf) : ∀ b ∈ (mRf ls n p d).getD [], b.name.text.size ≤ 1000000 := by
 cases h : mRf ls n p d with
 | none => intro b hb; cases hb
 | some r => exact mRf_tx ls n p d r hp h
theorem ok_getD {ls : List ByteArray} {n : Nat} {p d : Dt} (hp : p.size ≤ 1000000) (hd : d.size ≤ 1000000) : ∀ b ∈ (mRf ls n p d).getD [], b.dat.size ≤ 1000000 := by
 cases h : mRf ls n p d with
 | none => intro b hb; cases hb
 | some r =>
  intro b hb
  have := mRf_ok ls n p d r hp hd h b hb
  obtain ⟨nm, q, dd, l⟩ := b
  rw [BdOk_mk] at this
  exact this.2.1
mutual
theorem vars_le (V : Dt → Bool) : ∀ (d : Dt) (n : Int), (d.vars V n).length ≤ d.size
 | .mk k t ms l p, n => by
  rw [vars_mk]
  split
  ·simp only [List.length_singleton, Dt.size]; omega
  ·have := varss_le V l n; simp only [Dt.size]; omega
theorem varss_le (V : Dt → Bool) : ∀ (l : List Dt) (n : Int), (varss V l n).length ≤ Dt.sizes l
 | [], n => by rw [varss]; simp
 | d :: r, n => by
  rw [varss_cons, List.length_append]
  have h1 := vars_le V d (if nxtDots r = true then n + 1 else n)
  have h2 := varss_le V r n
  simp only [Dt.sizes]; omega
end
theorem len_getD {ls : List ByteArray} {n : Nat} {p d : Dt} (hw : p.wf) (hp : p.pat = true) : ((mRf ls n p d).getD []).length ≤ p.size := by
 cases h : mRf ls n p d with
 | none => simp
 | some r =>
  have := mRf_nv ls n p d r hw hp h
  have h2 := vars_le (isVar ls) p 0
  rw [Option.getD_some, this]; exact h2
def NmI (W : World) (n : Nat) (iv : Value) (wr : World) : Prop := ∃ i : Nat, i ≤ n ∧ iv = .int .i64 (i : Int) ∧ Below W.heap.size W wr
set_option maxHeartbeats 16000000 in
set_option maxRecDepth 100000 in
theorem names_walk (p : Int) (l : List Rw) (ao : Option Addr) (ac : Nat) (w : World) (hp : I64 p) (hR : RsAt w ao l) :
  Calls Try.prog 11 #[.int .i64 p, .slice ao l.length ac] w (RetBool true w) := by
 have BB := Lib.hid (Below.refl w.heap.size w)
 have HR := Lib.hid hR
 clear hR
 go_enter Try.func11, Try.ntmps11
 go_wp2_with (go_at_call 14; refine (known_any _).mono ?_; rintro e w1 ⟨rfl, hb⟩; replace BB := Lib.hid (BB.out.trans (hb.mono BB.out.size)); clear hb)
 refine (few_any l ao ac _ (HR.out.below BB.out)).mono ?_
 rintro e w2 ⟨r, rfl, hr, rfl⟩
 cases r with
 | false =>
  go_wp2_with fail
  go_ret
  exact ⟨rfl, BB.out⟩
 | true =>
  obtain ⟨hc, hdp⟩ := hr rfl
  clear hr
  obtain ⟨kk, hkk, hkk2⟩ := mod_nat p 15 (by decide)
  obtain ⟨wf1, wf2, pt1, sz1, ts1⟩ := nm_at kk hkk2
  have F18 := Lib.hid (pattern_any p kk hp hkk hkk2 w1)
  have F17 := Lib.hid (fun W => one_any (pT kk) W (by omega))
  obtain ⟨P, hP⟩ : ∃ P, P = oneOf (pT kk) := ⟨_, rfl⟩
  rw [← hP] at wf1 wf2 pt1 sz1 F17
  have HW := Lib.hid (And.intro wf1 (And.intro wf2 (And.intro pt1 sz1)))
  generalize pT kk = TT at F18 F17
  clear hP wf1 wf2 pt1 sz1 ts1 hkk hkk2 hp
  go_wp2_with fail
  refine F18.out.mono ?_
  rintro e w3 ⟨rfl, hb3⟩
  replace BB := Lib.hid (BB.out.trans (hb3.mono BB.out.size))
  clear hb3 F18
  go_wp2_with fail
  refine (F17.out _).mono ?_
  rintro e w4 ⟨cp, rfl, hatp, hb4⟩
  obtain ⟨kp, tp, mpo, mpn, mpc, lpo, lpn, lpc, pp, rfl⟩ := At_slices hatp
  have HATP := Lib.hid (Dt.At.low _ _ hatp)
  replace BB := Lib.hid (BB.out.trans (hb4.mono BB.out.size))
  have FA := Lib.hid (all_any l (by omega) ao ac w4 (HR.out.below BB.out))
  clear hb4 F17 hatp
  go_wp2_with fail
  refine FA.out.mono ?_
  rintro e w5 ⟨v5, rfl, hown, hb5⟩
  have hat := hown.at
  obtain ⟨o5, c5, rfl⟩ := hat.form
  have HL5 := Lib.hid (LAt.low hat)
  have HATP5 := Lib.hid (Dt.At.keeps (Keeps.of_below hb5) _ _ HATP.out)
  have hs5 := hb5.size
  replace BB := Lib.hid (BB.out.trans (hb5.mono BB.out.size))
  clear hat hown hb5 FA HATP
  go_upto_region 6 with fail
  have hb0 : Below w5.heap.size w5 ((w5.alloc (.cells #[.int .i64 kp, .string tp, .slice mpo mpn mpc, .slice lpo lpn lpc, .int .i64 pp] 29)).alloc (.cells #[.int .i64 4, .string ⟨#[]⟩, .slice none 0 0, .slice o5 (Rw.makes l).length c5, .int .i64 0] 29)) := ((Below.refl _ _).alloc (Nat.le_refl _) _).alloc (by simp) _
  have hx0 : ((w5.alloc (.cells #[.int .i64 kp, .string tp, .slice mpo mpn mpc, .slice lpo lpn lpc, .int .i64 pp] 29)).alloc (.cells #[.int .i64 4, .string ⟨#[]⟩, .slice none 0 0, .slice o5 (Rw.makes l).length c5, .int .i64 0] 29)).heap[w5.heap.size]? = some (.cells #[.int .i64 kp, .string tp, .slice mpo mpn mpc, .slice lpo lpn lpc, .int .i64 pp] 29 (0, 0)) := (Lib.alloc_old _ _ _ (by simp)).trans (alloc_at w5 _)
  have hx1 : ((w5.alloc (.cells #[.int .i64 kp, .string tp, .slice mpo mpn mpc, .slice lpo lpn lpc, .int .i64 pp] 29)).alloc (.cells #[.int .i64 4, .string ⟨#[]⟩, .slice none 0 0, .slice o5 (Rw.makes l).length c5, .int .i64 0] 29)).heap[w5.heap.size + 1]? = some (.cells #[.int .i64 4, .string ⟨#[]⟩, .slice none 0 0, .slice o5 (Rw.makes l).length c5, .int .i64 0] 29 (0, 0)) := second_at w5 _ _
  have hs0 : ((w5.alloc (.cells #[.int .i64 kp, .string tp, .slice mpo mpn mpc, .slice lpo lpn lpc, .int .i64 pp] 29)).alloc (.cells #[.int .i64 4, .string ⟨#[]⟩, .slice none 0 0, .slice o5 (Rw.makes l).length c5, .int .i64 0] 29)).heap.size = w5.heap.size + 1 + 1 := by simp
  have HAP := Lib.hid (Dt.At.mono (fun g h => Nat.lt_of_lt_of_le (show g < w5.heap.size by omega) (show w5.heap.size ≤ ((w5.alloc (.cells #[.int .i64 kp, .string tp, .slice mpo mpn mpc, .slice lpo lpn lpc, .int .i64 pp] 29)).alloc (.cells #[.int .i64 4, .string ⟨#[]⟩, .slice none 0 0, .slice o5 (Rw.makes l).length c5, .int .i64 0] 29)).heap.size by omega)) _ _ (Dt.At.keeps (Keeps.of_below hb0) _ _ HATP5.out))
  have HLX := Lib.hid (list_at (LAt.mono (LAt.keeps HL5.out (Keeps.of_below hb0)) (fun g (h : g < w5.heap.size) => (show g < ((w5.alloc (.cells #[.int .i64 kp, .string tp, .slice mpo mpn mpc, .slice lpo lpn lpc, .int .i64 pp] 29)).alloc (.cells #[.int .i64 4, .string ⟨#[]⟩, .slice none 0 0, .slice o5 (Rw.makes l).length c5, .int .i64 0] 29)).heap.size by omega))))
  generalize ((w5.alloc (.cells #[.int .i64 kp, .string tp, .slice mpo mpn mpc, .slice lpo lpn lpc, .int .i64 pp] 29)).alloc (.cells #[.int .i64 4, .string ⟨#[]⟩, .slice none 0 0, .slice o5 (Rw.makes l).length c5, .int .i64 0] 29)) = X at hb0 hx0 hx1 hs0 HAP HLX ⊢
  obtain ⟨g1, hg1⟩ : ∃ g1, g1 = w5.heap.size := ⟨_, rfl⟩
  rw [← hg1] at hx0 hx1 hs0 ⊢
  replace BB := Lib.hid (BB.out.trans (hb0.mono BB.out.size))
  have HX0 := Lib.hid hx0
  have HX1 := Lib.hid hx1
  have hgx : g1 + 1 < X.heap.size := by omega
  clear hb0 hx0 hx1 hs0 hg1 HATP5 HL5 hs5
  obtain ⟨D, hD⟩ : ∃ D, D = Dt.mk 4 ⟨#[]⟩ [] (Rw.makes l) 0 := ⟨_, rfl⟩
  have hds : D.size ≤ 1000000 := by rw [hD]; have := list_size l; omega
  rw [← hD] at HLX
  clear hD
  have FRN := Lib.hid (renamed_any 1000000 (Nat.le_refl _) P (by have := HW.out.2.2.2; omega) HW.out.1 _ _ X HAP.out)
  go_upto_region 7 with (first | (go_at_call 38; refine FRN.out.mono ?_; rintro e w7 ⟨kr, tr, mrv, lrv, pr, rfl, hatr, hb7⟩; obtain ⟨_, _, mro, mrn, mrc, lro, lrn, lrc, _, er⟩ := At_slices hatr; simp only [Array.mk.injEq, List.cons.injEq, Value.int.injEq, Value.string.injEq, true_and, and_true] at er; obtain ⟨rfl, rfl, rfl, rfl, rfl⟩ := er; have HATR := Lib.hid (Dt.At.low _ _ hatr); have HB7 := Lib.hid hb7; clear hatr hb7 FRN) | (refine wpList_load_row rfl 29 _ rfl g1 rfl 29 #[.int .i64 kp, .string tp, .slice mpo mpn mpc, .slice lpo lpn lpc, .int .i64 pp] (0, 0) _ HX0.out Try.underlying29 rfl info40 ?_))
  have hs7 := HB7.out.size
  have hb8 : Below w7.heap.size w7 (w7.alloc (.cells #[.int .i64 kr, .string tr, .slice mro mrn mrc, .slice lro lrn lrc, .int .i64 pr] 29)) := (Below.refl _ _).alloc (Nat.le_refl _) _
  have hx2 : (w7.alloc (.cells #[.int .i64 kr, .string tr, .slice mro mrn mrc, .slice lro lrn lrc, .int .i64 pr] 29)).heap[w7.heap.size]? = some (.cells #[.int .i64 kr, .string tr, .slice mro mrn mrc, .slice lro lrn lrc, .int .i64 pr] 29 (0, 0)) := alloc_at w7 _
  have hs8 : (w7.alloc (.cells #[.int .i64 kr, .string tr, .slice mro mrn mrc, .slice lro lrn lrc, .int .i64 pr] 29)).heap.size = w7.heap.size + 1 := by simp
  have hbX : Below X.heap.size X (w7.alloc (.cells #[.int .i64 kr, .string tr, .slice mro mrn mrc, .slice lro lrn lrc, .int .i64 pr] 29)) := HB7.out.trans (hb8.mono hs7)
  have HAP8 := Lib.hid (Dt.At.low _ _ (Dt.At.keeps (Keeps.of_below hbX) _ _ HAP.out))
  have HLX8 := Lib.hid (Dt.At.low _ _ (Dt.At.keeps (Keeps.of_below hbX) _ _ HLX.out))
  have HAR8 := Lib.hid (Dt.At.low _ _ (Dt.At.keeps (Keeps.of_below hb8) _ _ HATR.out))
  have HX08 : Hid ((w7.alloc (.cells #[.int .i64 kr, .string tr, .slice mro mrn mrc, .slice lro lrn lrc, .int .i64 pr] 29)).heap[g1]? = some (.cells #[.int .i64 kp, .string tp, .slice mpo mpn mpc, .slice lpo lpn lpc, .int .i64 pp] 29 (0, 0))) := (hbX.block _ (by omega)).trans HX0.out
  have HX18 : Hid ((w7.alloc (.cells #[.int .i64 kr, .string tr, .slice mro mrn mrc, .slice lro lrn lrc, .int .i64 pr] 29)).heap[g1 + 1]? = some (.cells #[.int .i64 4, .string ⟨#[]⟩, .slice none 0 0, .slice o5 (Rw.makes l).length c5, .int .i64 0] 29 (0, 0))) := (hbX.block _ (by omega)).trans HX1.out
  replace BB := Lib.hid (BB.out.trans (hbX.mono BB.out.size))
  generalize w7.alloc (.cells #[.int .i64 kr, .string tr, .slice mro mrn mrc, .slice lro lrn lrc, .int .i64 pr] 29) = W8 at hx2 hs8 HAP8 HLX8 HAR8 HX08 HX18 BB ⊢
  have hg8 : g1 + 1 < W8.heap.size := by omega
  have hg9 : w7.heap.size < W8.heap.size := by omega
  generalize w7.heap.size = g3 at hx2 hg9 ⊢
  have HX28 := Lib.hid hx2
  clear hb8 hs8 hbX HB7 HAP HLX HATR HX0 HX1 hgx hx2 hs7 w7
  have hrl := mRf_ren 8000 P D
  obtain ⟨his, hrn⟩ := hrl.getD
  have HRN := Lib.hid hrn
  have HTX := Lib.hid (tx_getD (ls := [litB]) (n := 8000) (d := D) HW.out.1)
  have HOK := Lib.hid (ok_getD (ls := [litB]) (n := 8000) (p := P) (d := D) (by have := HW.out.2.2.2; omega) hds)
  have hbL : Below W8.heap.size W8 (W8.alloc (.cells #[.string litB] 9)) := (Below.refl _ _).alloc (Nat.le_refl _) _
  have F24 := Lib.hid (matchU_any [litB] (.slice (some ⟨W8.heap.size, 0, none⟩) 1 1) P D _ _ (W8.alloc (.cells #[.string litB] 9)) (lit_at 1) (by decide) (by decide) (Dt.At.low _ _ (Dt.At.keeps (Keeps.of_below hbL) _ _ HAP8.out)) (Dt.At.low _ _ (Dt.At.keeps (Keeps.of_below hbL) _ _ HLX8.out)) HW.out.1 HW.out.2.2.1 (by have := HW.out.2.2.2; omega) hds)
  have G24 := Lib.hid (fun (W : World) (hb : Below W8.heap.size W8 W) => matchU_any [litB] (.slice (some ⟨W.heap.size, 0, none⟩) 1 1) P.ren D _ _ (W.alloc (.cells #[.string litB] 9)) (lit_at 1) (by decide) (by decide) (Dt.At.low _ _ (Dt.At.keeps (Keeps.of_below (hb.trans (((Below.refl _ _).alloc (Nat.le_refl _) _).mono hb.size))) _ _ HAR8.out)) (Dt.At.low _ _ (Dt.At.keeps (Keeps.of_below (hb.trans (((Below.refl _ _).alloc (Nat.le_refl _) _).mono hb.size))) _ _ HLX8.out)) HW.out.2.1 (by rw [ren_pat]; exact HW.out.2.2.1) (by rw [ren_size]; have := HW.out.2.2.2; omega) hds)
  have HLB : Hid (∀ W : World, Below W.heap.size W (W.alloc (.cells #[.string litB] 9))) := fun W => (Below.refl _ _).alloc (Nat.le_refl _) _
  have y0 : (W8.alloc (.cells #[.string litB] 9)).heap[g1]? = some (.cells #[.int .i64 kp, .string tp, .slice mpo mpn mpc, .slice lpo lpn lpc, .int .i64 pp] 29 (0, 0)) := (hbL.block _ (by omega)).trans HX08.out
  have y1 : (W8.alloc (.cells #[.string litB] 9)).heap[g1 + 1]? = some (.cells #[.int .i64 4, .string ⟨#[]⟩, .slice none 0 0, .slice o5 (Rw.makes l).length c5, .int .i64 0] 29 (0, 0)) := (hbL.block _ (by omega)).trans HX18.out
  have Y0 := Lib.hid y0
  have Y1 := Lib.hid y1
  clear hrn hbL hrl y0 y1
  go_upto_region 8 with (first | (refine wpList_load_row rfl 29 _ rfl g1 rfl 29 #[.int .i64 kp, .string tp, .slice mpo mpn mpc, .slice lpo lpn lpc, .int .i64 pp] (0, 0) _ Y0.out Try.underlying29 rfl info40 ?_) | (refine wpList_load_row rfl 29 _ rfl (g1 + 1) rfl 29 #[.int .i64 4, .string ⟨#[]⟩, .slice none 0 0, .slice o5 (Rw.makes l).length c5, .int .i64 0] (0, 0) _ Y1.out Try.underlying29 rfl info40 ?_) | (go_at_call 24; refine F24.out.mono ?_; rintro e w10 hr10; obtain ⟨v10, rfl, hrow10, hb10⟩ := hr10.rows; have HR10 := Lib.hid hrow10; have HB10 := Lib.hid hb10; clear hr10 hrow10 hb10 F24))
  have hbw10 : Below W8.heap.size W8 w10 := (HLB.out W8).trans (HB10.out.mono (HLB.out W8).size)
  have G := Lib.hid (G24.out w10 hbw10)
  have hbl := HLB.out w10
  have hs10 := hbw10.size
  have Z3 : Hid ((w10.alloc (.cells #[.string litB] 9)).heap[g3]? = some (.cells #[.int .i64 kr, .string tr, .slice mro mrn mrc, .slice lro lrn lrc, .int .i64 pr] 29 (0, 0))) := (hbl.block _ (by omega)).trans ((hbw10.block _ (by omega)).trans HX28.out)
  have Z1 : Hid ((w10.alloc (.cells #[.string litB] 9)).heap[g1 + 1]? = some (.cells #[.int .i64 4, .string ⟨#[]⟩, .slice none 0 0, .slice o5 (Rw.makes l).length c5, .int .i64 0] 29 (0, 0))) := (hbl.block _ (by omega)).trans ((hbw10.block _ (by omega)).trans HX18.out)
  replace BB := Lib.hid (BB.out.trans (hbw10.mono BB.out.size))
  have HBL := Lib.hid hbl
  clear hbw10 hbl hs10 G24 HB10 HX08 HX18 HX28 Y0 Y1
  go_upto_region 9 with (first | (refine wpList_load_row rfl 29 _ rfl g3 rfl 29 #[.int .i64 kr, .string tr, .slice mro mrn mrc, .slice lro lrn lrc, .int .i64 pr] (0, 0) _ Z3.out Try.underlying29 rfl info40 ?_) | (refine wpList_load_row rfl 29 _ rfl (g1 + 1) rfl 29 #[.int .i64 4, .string ⟨#[]⟩, .slice none 0 0, .slice o5 (Rw.makes l).length c5, .int .i64 0] (0, 0) _ Z1.out Try.underlying29 rfl info40 ?_) | (go_at_call 24; refine G.out.mono ?_; rintro e w12 hr12; obtain ⟨v12, rfl, hrow12, hb12⟩ := hr12.rows; have HR12 := Lib.hid hrow12; have HB12 := Lib.hid hb12; clear hr12 hrow12 hb12 G))
  have hlen := len_getD (ls := [litB]) (n := 8000) (d := D) HW.out.1 HW.out.2.2.1
  have hsp := HW.out.2.2.2
  generalize (mRf [litB] 8000 P D).isSome = bb
  generalize (mRf [litB] 8000 P D).getD [] = r at HR10 HRN HTX HOK hlen
  generalize (mRf [litB] 8000 P.ren D).getD [] = r' at HR12 HRN
  obtain ⟨ao10, c10, rfl⟩ := HR10.out.form
  obtain ⟨ao12, c12, rfl⟩ := HR12.out.form
  have hb1012 : Below w10.heap.size w10 w12 := HBL.out.trans (HB12.out.mono HBL.out.size)
  replace BB := Lib.hid (BB.out.trans (hb1012.mono BB.out.size))
  replace HR10 := Lib.hid (HR10.out.below hb1012)
  have hll := HRN.out.1
  rw [hll] at HR12 ⊢
  obtain ⟨n, hn⟩ : ∃ n, n = r.length := ⟨_, rfl⟩
  rw [← hn] at HR10 HR12 hll hlen ⊢
  have HNL := Lib.hid (And.intro hn hll)
  have hn9 : n ≤ 1000 := by omega
  have qbb : (bb != bb) = false := by simp
  have qnn : ((n : Int) != (n : Int)) = false := by simp
  have H0 : Hid (NmI w12 n (.int .i64 0) w12) := ⟨0, Nat.zero_le _, rfl, Below.refl _ _⟩
  clear hb1012 HB12 HBL Z3 Z1 hn hll hlen hsp his HAP8 HLX8 HAR8 hg8 hg9 hds HLB
  go_wp2_with fail
  clear qbb qnn
  go_loopw [12] (fun iv wr => NmI w12 n iv wr) (fun iv _ => n - (intOf iv).toNat)
  case atStart => exact H0.out
  case round =>
   clear H0
   obtain ⟨i, hi, rfl, hbel⟩ := hrel
   have HB := Lib.hid hbel
   clear hbel
   by_cases hin : i < n
   ·have q1 : decide ((i : Int) < (n : Int)) = true := decide_eq_true (by omega)
    have hir : i < r.length := by rw [← HNL.out.1]; exact hin
    have hir' : i < r'.length := by rw [HNL.out.2]; exact hin
    obtain ⟨gx, -, -, -, -, rfl, hxc, ⟨cx, hcx⟩, -⟩ := HR10.out.get i hir
    obtain ⟨gy, -, -, -, -, rfl, hyc, ⟨cy, hcy⟩, -⟩ := HR12.out.get i hir'
    obtain ⟨rn1, rn2, rn3, rn4⟩ := HRN.out.2 i hir hir'
    have htx := HTX.out _ (List.getElem_mem hir)
    have hdx := HOK.out _ (List.getElem_mem hir)
    have hw := HB.out
    obtain ⟨gx2, xm, xl, xo, xc, e1, -, -, x1, x5, ⟨x6, x7, x8, x9, x10⟩, x11, hax⟩ := (HR10.out.below hw).get i hir
    injection e1 with e1; injection e1 with e1 _; subst e1
    obtain ⟨gy2, ym, yl, yo, yc, e1, -, -, y1, y5, ⟨y6, y7, y8, y9, y10⟩, y11, hay⟩ := (HR12.out.below hw).get i hir'
    injection e1 with e1; injection e1 with e1 _; subst e1
    rw [rn3] at y6 y7 y10 hay
    rw [rn2] at y5
    rw [rn1] at y1
    rw [rn4] at y11
    have ox := (At_one hax)
    have oy := (At_one hay)
    generalize r[i].name.text = tx at htx x1 y1
    generalize r[i].deep = dx at x5 y5
    generalize r[i].rows.length = lx at x11 y11
    have HAX := Lib.hid hax
    have HAY := Lib.hid hay
    have F34 := Lib.hid (fun (W : World) (hb : Below wr.heap.size wr W) => refsame_any 1000000000 (Nat.le_refl _) r[i].dat r[i].dat (by omega) _ _ _ _ W (Dt.At.keeps (Keeps.of_below hb) _ _ HAX.out) (Dt.At.keeps (Keeps.of_below hb) _ _ HAY.out))
    rw [same_refl] at F34
    generalize r[i].dat = dd at x6 x7 x10 y6 y7 y10 hdx F34 HAX HAY hax hay
    have hgx : gx < wr.heap.size := World.block_lt_of_cell? wr _ x1
    have hgy : gy < wr.heap.size := World.block_lt_of_cell? wr _ y1
    have HC : Hid (∀ W, Below wr.heap.size wr W → (W.cell? ⟨gx, i * 12 + 1, none⟩ = some (.string tx) ∧ W.cell? ⟨gx, i * 12 + 5, none⟩ = some (.int .i64 dx) ∧ W.cell? ⟨gx, i * 12 + 6, none⟩ = some (.int .i64 dd.kind) ∧ W.cell? ⟨gx, i * 12 + 7, none⟩ = some (.string dd.text) ∧ W.cell? ⟨gx, i * 12 + 8, none⟩ = some xm ∧ W.cell? ⟨gx, i * 12 + 9, none⟩ = some xl ∧ W.cell? ⟨gx, i * 12 + 10, none⟩ = some (.int .i64 dd.place) ∧ W.cell? ⟨gx, i * 12 + 11, none⟩ = some (.slice xo lx xc)) ∧
      W.cell? ⟨gy, i * 12 + 1, none⟩ = some (.string (tx ++ sfx)) ∧ W.cell? ⟨gy, i * 12 + 5, none⟩ = some (.int .i64 dx) ∧ W.cell? ⟨gy, i * 12 + 6, none⟩ = some (.int .i64 dd.kind) ∧ W.cell? ⟨gy, i * 12 + 7, none⟩ = some (.string dd.text) ∧ W.cell? ⟨gy, i * 12 + 8, none⟩ = some ym ∧ W.cell? ⟨gy, i * 12 + 9, none⟩ = some yl ∧ W.cell? ⟨gy, i * 12 + 10, none⟩ = some (.int .i64 dd.place) ∧ W.cell? ⟨gy, i * 12 + 11, none⟩ = some (.slice yo lx yc)) := by
     intro W hb
     have kx : ∀ j v, wr.cell? ⟨gx, j, none⟩ = some v → W.cell? ⟨gx, j, none⟩ = some v := fun j v h => (hb.cell (p := ⟨gx, j, none⟩) hgx).trans h
     have ky : ∀ j v, wr.cell? ⟨gy, j, none⟩ = some v → W.cell? ⟨gy, j, none⟩ = some v := fun j v h => (hb.cell (p := ⟨gy, j, none⟩) hgy).trans h
     exact ⟨⟨kx _ _ x1, kx _ _ x5, kx _ _ x6, kx _ _ x7, kx _ _ x8, kx _ _ x9, kx _ _ x10, kx _ _ x11⟩, ky _ _ y1, ky _ _ y5, ky _ _ y6, ky _ _ y7, ky _ _ y8, ky _ _ y9, ky _ _ y10, ky _ _ y11⟩
    clear x1 x5 x6 x7 x8 x9 x10 x11 y1 y5 y6 y7 y8 y9 y10 y11 hax hay hgx hgy hcx hcy rn1 rn2 rn3 rn4 hw hdx HAX HAY
    go_upto_region 14 with fail
    refine wp_region_noPanic ?_
    refine wp_region_held_drew (S := Below wr.heap.size wr) (by kernel_rfl) ((Below.refl _ _).drew) (fun hHeld => ?_)
    generalize wr.drew = V at hHeld ⊢
    refine qts [0, 1, 2, 3, 4, 5, 6, 7, 8, 9, 10, 11, 12, 13, 14, 15, 16, 17, 18, 19, 20, 21, 22, 23, 24, 25, 26, 27, 28, 29, 30, 31, 32, 33, 34, 35, 36, 37] hHeld ?_
    iterate 2 (refine qtc (v := ?_) rfl rfl (fun w' hw' => ?_) ?_; rotate_left; (focus ((obtain ⟨⟨a1, a5, a6, a7, a8, a9, a10, a11⟩, b1, b5, b6, b7, b8, b9, b10, b11⟩ := HC.out w' hw'; go_simp; try omega); try with_reducible rfl)); simp only [zt,zs,zz,Act.put,zi,zy,zx])
    (refine qtc (v := Value.pointer (some ⟨gy, i * 12, none⟩)) rfl rfl (fun w' hw' => ?_) ?_; (focus ((go_simp; try omega))); simp only [zt,zs,zz,Act.put,zi,zy,zx])
    iterate 5 (refine qtc (v := ?_) rfl rfl (fun w' hw' => ?_) ?_; rotate_left; (focus ((obtain ⟨⟨a1, a5, a6, a7, a8, a9, a10, a11⟩, b1, b5, b6, b7, b8, b9, b10, b11⟩ := HC.out w' hw'; go_simp; try omega); try with_reducible rfl)); simp only [zt,zs,zz,Act.put,zi,zy,zx])
    (refine qtc (v := Value.pointer (some ⟨gx, i * 12, none⟩)) rfl rfl (fun w' hw' => ?_) ?_; (focus ((go_simp; try omega))); simp only [zt,zs,zz,Act.put,zi,zy,zx])
    iterate 3 (refine qtc (v := ?_) rfl rfl (fun w' hw' => ?_) ?_; rotate_left; (focus ((obtain ⟨⟨a1, a5, a6, a7, a8, a9, a10, a11⟩, b1, b5, b6, b7, b8, b9, b10, b11⟩ := HC.out w' hw'; go_simp; try omega); try with_reducible rfl)); simp only [zt,zs,zz,Act.put,zi,zy,zx])
    (refine qtc (v := Value.string (tx ++ sfx)) rfl rfl (fun w' hw' => ?_) ?_; (focus ((go_simp; rw [if_neg (by omega)]; rfl))); simp only [zt,zs,zz,Act.put,zi,zy,zx])
    iterate 2 (refine qtc (v := Value.bool false) rfl rfl (fun w' hw' => ?_) ?_; (focus ((go_simp; try omega))); simp only [zt,zs,zz,Act.put,zi,zy,zx])
    iterate 2 (refine qtc (v := ?_) rfl rfl (fun w' hw' => ?_) ?_; rotate_left; (focus ((obtain ⟨⟨a1, a5, a6, a7, a8, a9, a10, a11⟩, b1, b5, b6, b7, b8, b9, b10, b11⟩ := HC.out w' hw'; go_simp; try omega); try with_reducible rfl)); simp only [zt,zs,zz,Act.put,zi,zy,zx])
    (refine qtc (v := Value.pointer (some ⟨gx, i * 12, none⟩)) rfl rfl (fun w' hw' => ?_) ?_; (focus ((go_simp; try omega))); simp only [zt,zs,zz,Act.put,zi,zy,zx])
    iterate 4 (refine qtc (v := ?_) rfl rfl (fun w' hw' => ?_) ?_; rotate_left; (focus ((obtain ⟨⟨a1, a5, a6, a7, a8, a9, a10, a11⟩, b1, b5, b6, b7, b8, b9, b10, b11⟩ := HC.out w' hw'; go_simp; try omega); try with_reducible rfl)); simp only [zt,zs,zz,Act.put,zi,zy,zx])
    (refine qtc (v := Value.pointer (some ⟨gy, i * 12, none⟩)) rfl rfl (fun w' hw' => ?_) ?_; (focus ((go_simp; try omega))); simp only [zt,zs,zz,Act.put,zi,zy,zx])
    iterate 2 (refine qtc (v := ?_) rfl rfl (fun w' hw' => ?_) ?_; rotate_left; (focus ((obtain ⟨⟨a1, a5, a6, a7, a8, a9, a10, a11⟩, b1, b5, b6, b7, b8, b9, b10, b11⟩ := HC.out w' hw'; go_simp; try omega); try with_reducible rfl)); simp only [zt,zs,zz,Act.put,zi,zy,zx])
    iterate 3 (refine qtc (v := Value.bool false) rfl rfl (fun w' hw' => ?_) ?_; (focus ((go_simp; try omega))); simp only [zt,zs,zz,Act.put,zi,zy,zx])
    iterate 2 (refine qtc (v := ?_) rfl rfl (fun w' hw' => ?_) ?_; rotate_left; (focus ((obtain ⟨⟨a1, a5, a6, a7, a8, a9, a10, a11⟩, b1, b5, b6, b7, b8, b9, b10, b11⟩ := HC.out w' hw'; go_simp; try omega); try with_reducible rfl)); simp only [zt,zs,zz,Act.put,zi,zy,zx])
    (refine qtc (v := Value.pointer (some ⟨gx, i * 12, none⟩)) rfl rfl (fun w' hw' => ?_) ?_; (focus ((go_simp; try omega))); simp only [zt,zs,zz,Act.put,zi,zy,zx])
    iterate 4 (refine qtc (v := ?_) rfl rfl (fun w' hw' => ?_) ?_; rotate_left; (focus ((obtain ⟨⟨a1, a5, a6, a7, a8, a9, a10, a11⟩, b1, b5, b6, b7, b8, b9, b10, b11⟩ := HC.out w' hw'; go_simp; try omega); try with_reducible rfl)); simp only [zt,zs,zz,Act.put,zi,zy,zx])
    (refine qtc (v := Value.pointer (some ⟨gy, i * 12, none⟩)) rfl rfl (fun w' hw' => ?_) ?_; (focus ((go_simp; try omega))); simp only [zt,zs,zz,Act.put,zi,zy,zx])
    iterate 2 (refine qtc (v := ?_) rfl rfl (fun w' hw' => ?_) ?_; rotate_left; (focus ((obtain ⟨⟨a1, a5, a6, a7, a8, a9, a10, a11⟩, b1, b5, b6, b7, b8, b9, b10, b11⟩ := HC.out w' hw'; go_simp; try omega); try with_reducible rfl)); simp only [zt,zs,zz,Act.put,zi,zy,zx])
    refine qtn ?_
    simp only [zt,zs,zz,Act.put,zi,zy,zx,qzl,qzn,qza,Nat.reduceAdd,Nat.reduceSub]
    refine wpAnyH_ready (rs := [38]) (by kernel_rfl) (by simp) ?_
    refine (AllReadyH.cons rfl (fun K hK => ?_) AllReadyH.nil)
    go_simp
    refine (F34.out V hHeld).mono ?_
    rintro e w24 ⟨rfl, hb24⟩
    have hHeld := hHeld.trans (hb24.mono hHeld.size)
    clear hb24
    refine hK.out _ _ hHeld (fun hHeld => ?_)
    clear hK K
    try simp only [zt,zs,zz,Act.put,zi,zy,zx]
    refine qts [39, 40, 41, 42, 43, 44, 45, 46, 47, 48, 49, 50, 51, 52, 53, 54, 55] hHeld ?_
    iterate 3 (refine qtc (v := Value.bool false) rfl rfl (fun w' hw' => ?_) ?_; (focus ((go_simp; try omega))); simp only [zt,zs,zz,Act.put,zi,zy,zx])
    iterate 2 (refine qtc (v := ?_) rfl rfl (fun w' hw' => ?_) ?_; rotate_left; (focus ((obtain ⟨⟨a1, a5, a6, a7, a8, a9, a10, a11⟩, b1, b5, b6, b7, b8, b9, b10, b11⟩ := HC.out w' hw'; go_simp; try omega); try with_reducible rfl)); simp only [zt,zs,zz,Act.put,zi,zy,zx])
    (refine qtc (v := Value.pointer (some ⟨gx, i * 12, none⟩)) rfl rfl (fun w' hw' => ?_) ?_; (focus ((go_simp; try omega))); simp only [zt,zs,zz,Act.put,zi,zy,zx])
    iterate 5 (refine qtc (v := ?_) rfl rfl (fun w' hw' => ?_) ?_; rotate_left; (focus ((obtain ⟨⟨a1, a5, a6, a7, a8, a9, a10, a11⟩, b1, b5, b6, b7, b8, b9, b10, b11⟩ := HC.out w' hw'; go_simp; try omega); try with_reducible rfl)); simp only [zt,zs,zz,Act.put,zi,zy,zx])
    (refine qtc (v := Value.pointer (some ⟨gy, i * 12, none⟩)) rfl rfl (fun w' hw' => ?_) ?_; (focus ((go_simp; try omega))); simp only [zt,zs,zz,Act.put,zi,zy,zx])
    iterate 3 (refine qtc (v := ?_) rfl rfl (fun w' hw' => ?_) ?_; rotate_left; (focus ((obtain ⟨⟨a1, a5, a6, a7, a8, a9, a10, a11⟩, b1, b5, b6, b7, b8, b9, b10, b11⟩ := HC.out w' hw'; go_simp; try omega); try with_reducible rfl)); simp only [zt,zs,zz,Act.put,zi,zy,zx])
    iterate 2 (refine qtc (v := Value.bool false) rfl rfl (fun w' hw' => ?_) ?_; (focus ((go_simp; try omega))); simp only [zt,zs,zz,Act.put,zi,zy,zx])
    refine qtn ?_
    simp only [zt,zs,zz,Act.put,zi,zy,zx,qzl,qzn,qza,Nat.reduceAdd,Nat.reduceSub]
    refine wpAnyH_done (by kernel_rfl) ?_ _
    refine NoPanic.normal ?_
    have hEnd := Lib.hid hHeld
    clear hHeld
    have HREL : Hid (NmI w12 n (.int .i64 ((i : Int) + 1)) w24) := ⟨i + 1, by omega, by go_num, HB.out.trans (hEnd.out.mono HB.out.size)⟩
    clear hEnd
    go_wp2_with fail
    go_roundw
    case rel => exact HREL.out
    case measure => simp [intOf]; omega
   ·have q1 : decide ((i : Int) < (n : Int)) = false := decide_eq_false (by omega)
    replace BB := Lib.hid (BB.out.trans (HB.out.mono BB.out.size))
    go_wp2_with fail
    go_ret
    exact ⟨rfl, BB.out⟩
end Go.Proofs.Ytecljchifebljaa
