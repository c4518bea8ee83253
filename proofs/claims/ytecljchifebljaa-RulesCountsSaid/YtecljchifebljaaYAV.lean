/- Rules: parts of lists, by a slice. -/
import Derived.Test.YtecljchifebljaaNR
import Derived.Test.YtecljchifebljaaYAA
import Derived.Test.YtecljchifebljaaYAC
import Derived.Test.YtecljchifebljaaOW
set_option linter.unusedVariables false
set_option linter.unusedSimpArgs false
namespace Go.Proofs.Ytecljchifebljaa
open Go Go.RowKit
/-- A slice of data, cut. -/
def cutV (ao : Option Addr) (lo hi cap : Nat) : Value := .slice (if cap = lo then ao else ao.map (·.add (lo * 5))) (hi - lo) (cap - lo)
theorem size29 (w : World) : (sizeOf (Try.prog.elem 25)).run Try.prog w = .ok 5 w := by
 have e : Try.prog.elem 25 = 29 := by kernel_rfl
 have h : (Try.prog.info? 29).map (·.size) = some 5 := by kernel_rfl
 rw [e]
 cases hq : Try.prog.info? 29 with
 | none => rw [hq] at h; cases h
 | some i =>
  rw [hq] at h
  have hs : i.size = 5 := by simpa using h
  simp [sizeOf, typeInfo, hq, hs]
theorem und25 : Try.prog.underlying 25 = some (.slice (Try.prog.elem 25)) := by kernel_rfl
theorem exec_cut_l {ρ : Operand → Value} {o : Oper} {x lo : Operand} {ao : Option Addr} {n cap k : Nat} {w : World} (ho : o.op = .slice 25 x (some lo) none none) (hx : ρ x = .slice ao n cap) (hl : ρ lo = .int .i64 (k : Int)) (hk : k ≤ n) : (execOp ρ o).run Try.prog w = .ok (.value (cutV ao k n cap)) w := by
 unfold execOp
 simp only [ho, hx, hl, Option.map_some, Option.map_none, Sem.run_bind, run_sliceAt_slice (P := Try.prog) w 25 _ _ _ _ und25, run_slice_l (P := Try.prog) w 25 ao n cap und25 .i64 (k : Int) (by omega) (by omega), size29, Result.andThen_ok, Sem.run_pure, sliced, Int.toNat_natCast]
 rfl
theorem exec_cut_h {ρ : Operand → Value} {o : Oper} {x hi : Operand} {ao : Option Addr} {n cap k : Nat} {w : World} (ho : o.op = .slice 25 x none (some hi) none) (hx : ρ x = .slice ao n cap) (hl : ρ hi = .int .i64 (k : Int)) (hk : k ≤ cap) : (execOp ρ o).run Try.prog w = .ok (.value (cutV ao 0 k cap)) w := by
 unfold execOp
 simp only [ho, hx, hl, Option.map_some, Option.map_none, Sem.run_bind, run_sliceAt_slice (P := Try.prog) w 25 _ _ _ _ und25, run_slice_h (P := Try.prog) w 25 ao n cap und25 .i64 (k : Int) (by omega) (by omega), size29, Result.andThen_ok, Sem.run_pure, sliced, Int.toNat_natCast]
 rfl
theorem exec_cut_lh {ρ : Operand → Value} {o : Oper} {x lo hi : Operand} {ao : Option Addr} {n cap k m : Nat} {w : World} (ho : o.op = .slice 25 x (some lo) (some hi) none) (hx : ρ x = .slice ao n cap) (hl : ρ lo = .int .i64 (k : Int)) (hh : ρ hi = .int .i64 (m : Int)) (hk : k ≤ m) (hm : m ≤ cap) : (execOp ρ o).run Try.prog w = .ok (.value (cutV ao k m cap)) w := by
 unfold execOp
 simp only [ho, hx, hl, hh, Option.map_some, Option.map_none, Sem.run_bind, run_sliceAt_slice (P := Try.prog) w 25 _ _ _ _ und25, run_slice_lh (P := Try.prog) w 25 ao n cap und25 .i64 .i64 (k : Int) (m : Int) (by omega) (by omega) (by omega), size29, Result.andThen_ok, Sem.run_pure, sliced, Int.toNat_natCast]
 rfl
theorem LAt.room {S : Nat → Prop} {w : World} {ao : Option Addr} {n cap : Nat} {l : List Dt} (h : LAt S w (.slice ao n cap) l) : n = l.length ∧ l.length ≤ cap := by
 rcases h with ⟨e, rfl⟩ | ⟨g, o, c, arr, fz, e, _, _, _, hc⟩
 ·injection e with _ e2 e3; exact ⟨e2, by simp⟩
 ·injection e with _ e2 e3; subst e3; exact ⟨e2, hc⟩
theorem LAt.cut {S : Nat → Prop} {w : World} {ao : Option Addr} {n cap : Nat} {l : List Dt} (h : LAt S w (.slice ao n cap) l) (lo hi : Nat) (h1 : lo ≤ hi) (h2 : hi ≤ l.length) : LAt S w (cutV ao lo hi cap) ((l.take hi).drop lo) := by
 have hr := h.room
 have h0 := h
 rcases h with ⟨e, rfl⟩ | ⟨g, o, c, arr, fz, e, _, _, _, hc⟩
 ·injection e with e1 e2 e3
  subst e1; subst e3
  have e : lo = 0 ∧ hi = 0 := by simp at h2; omega
  obtain ⟨rfl, rfl⟩ := e
  exact .inl ⟨rfl, rfl⟩
 ·injection e with e1 e2 e3
  subst e1; subst e3
  have ht := LAt.take h0 hi h2
  have hl : (l.take hi).length = hi := by rw [List.length_take]; omega
  unfold cutV
  by_cases hz : cap = lo
  ·rw [if_pos hz]
   have hd := LAt.dropz ht lo (by omega)
   rw [hl] at hd
   rw [show cap - lo = 0 by omega]; exact hd
  ·rw [if_neg hz]
   have hd := LAt.drop ht lo (by omega)
   rw [hl] at hd
   have e : (some (⟨g, o, none⟩ : Addr)).map (fun a => a.add (lo * 5)) = some ⟨g, o + lo * 5, none⟩ := by
    simp only [Option.map_some, Option.some.injEq]; unfold Addr.add; split <;> simp_all
   rw [e]; exact hd
end Go.Proofs.Ytecljchifebljaa
namespace Go.Proofs.Ytecljchifebljaa
open Go Go.RowKit
attribute [local go_sem] Oper.semAt_some
theorem sizes_take (l : List Dt) (k : Nat) : Dt.sizes (l.take k) ≤ Dt.sizes l := by
 induction l generalizing k with
 | nil => simp
 | cons d l ih => cases k with
  | zero => simp [Dt.sizes]
  | succ k => simp only [List.take_succ_cons, Dt.sizes]; have := ih k; omega
theorem sizes_split (l : List Dt) (k : Nat) : Dt.sizes (l.take k) + Dt.sizes (l.drop k) = Dt.sizes l := by
 induction l generalizing k with
 | nil => simp [Dt.sizes]
 | cons d l ih => cases k with
  | zero => simp [Dt.sizes]
  | succ k => simp only [List.take_succ_cons, List.drop_succ_cons, Dt.sizes]; have := ih k; omega
theorem wfs_take {l : List Dt} (h : wfs l) (k : Nat) : wfs (l.take k) := wfs_of fun j hj => by rw [List.getElem_take]; exact wfs_get h j (by rw [List.length_take] at hj; omega)
theorem wfs_drop {l : List Dt} (h : wfs l) (k : Nat) : wfs (l.drop k) := wfs_of fun j hj => by rw [List.getElem_drop]; exact wfs_get h (k + j) (by rw [List.length_drop] at hj; omega)
set_option maxHeartbeats 16000000 in
set_option maxRecDepth 100000 in
theorem listR_of (n : Nat) (hn : n ≤ 8000) (hE : EachR n) (hR : RowR n) : ListR n := by
 intro ps ds hsz hpat hwf A B bw ls v pv dv bs w hAB hBw hp hd hwds hbw hown hlen hds hdl
 have hpl := length_sizes ps
 have hb0 : Below w.heap.size w (w.alloc (.cells #[.map (some bw)] 96)) := (Below.refl _ _).alloc (Nat.le_refl _) _
 have hx0 := alloc_at w (.cells #[.map (some bw)] 96)
 have hs0 : (w.alloc (.cells #[.map (some bw)] 96)).heap.size = w.heap.size + 1 := by simp
 have FI := Lib.hid (index_any ps pv (w.alloc (.cells #[.map (some bw)] 96)) (hp.keeps (Keeps.of_below hb0)) (by omega))
 rcases pats_split hpat with ⟨hix, hnd⟩ | ⟨j, hix, hj, hdj, hd1, hd2⟩
 ·rw [hix] at FI
  have FE := Lib.hid (fun (W : World) (hW : Below w.heap.size w W) => hE ps ds hsz (fun p hp => pats_mem hpat p hp (hnd p hp)) hwf A B bw ls v pv dv bs W hAB (by have := hW.size; omega) (hp.keeps (Keeps.of_below hW)) (hd.keeps (Keeps.of_below hW)) (hwds.below hW (by omega)) hbw (hown.below hW) hlen hds hdl)
  have HML : Hid (mL ls (mRf ls n) ps ds = mE (mRf ls n) ps ds) := by show _ = _; unfold mL; rw [hix, if_pos (by decide)]
  obtain ⟨po, pc, rfl⟩ := hp.form
  obtain ⟨dq, dc, rfl⟩ := hd.form
  obtain ⟨vo, vc, rfl⟩ := hown.form
  obtain ⟨nb0, hnb0⟩ : ∃ n, n = bs.length := ⟨_, rfl⟩
  rw [← hnb0] at FE ⊢
  obtain ⟨np, hnp⟩ : ∃ n, n = ps.length := ⟨_, rfl⟩
  rw [← hnp] at FE FI ⊢
  have HB0 := Lib.hid hb0
  have HX0 := Lib.hid hx0
  clear hb0 hx0 hp hd hwds hown hds hwf hpat hE hR hnb0 hnp hpl hsz hlen hix hnd
  go_enter Try.func78, Try.ntmps78
  go_wp2_with fail
  refine FI.out.mono ?_
  rintro e w2 ⟨rfl, hb2⟩
  have hx2 := (hb2.block _ (by omega)).trans HX0.out
  have y0 : w2.cell? ⟨w.heap.size, 0, none⟩ = some (.map (some bw)) := by rw [Lib.cell_of_heap hx2]; rfl
  have HB2 := Lib.hid (HB0.out.trans (hb2.mono (by omega)))
  clear hb2 hx2 FI
  go_wp2_with fail
  refine (FE.out w2 HB2.out).mono ?_
  rintro e w3 ⟨v3, bs3, rfl, ho3, hg3, hr3, hl3⟩
  have HO := Lib.hid ho3
  have HG := Lib.hid hg3
  have HR := Lib.hid hr3
  clear ho3 hg3 hr3 y0
  go_wp2_with fail
  refine bodyPost_ret (results_tmp2 rfl _ _ _) rfl ?_
  rw [HML.out]
  exact ⟨v3, bs3, rfl, HO.out, (Grw.of_below HB2.out _).trans HG.out, HR.out, hl3⟩
 ·skip
  rw [show ixD ps = (j : Int) + 1 by rw [hix]; push_cast; rfl] at FI
  have hdroom := hd
  obtain ⟨dq, dc, rfl⟩ := hd.form
  obtain ⟨po, pc, rfl⟩ := hp.form
  have hnp2 : j + 2 ≤ ps.length := by omega
  have hpjm : ps[j]'(by omega) ∈ ps.take (j + 1) := by rw [List.mem_take_iff_getElem]; exact ⟨j, by omega, rfl⟩
  have hpjp : (ps[j]'(by omega)).pat = true := pats_mem hpat _ (List.getElem_mem _) (hd1 _ hpjm)
  have hpjw : (ps[j]'(by omega)).wf := wfs_get hwf j (by omega)
  have hpjs := size_get ps j (by omega)
  have hss := sizes_split ps j
  have hsd : ps.drop j = ps[j]'(by omega) :: ps.drop (j + 1) := List.drop_eq_getElem_cons (by omega)
  have hsd2 : ps.drop (j + 1) = ps[j + 1]'(by omega) :: ps.drop (j + 2) := List.drop_eq_getElem_cons (by omega)
  rw [hsd, hsd2] at hss
  simp only [Dt.sizes] at hss
  have hm1 : ∀ p ∈ ps.take j, p.pat = true := fun p hm => pats_mem hpat p (List.mem_of_mem_take hm) (hd1 p (by rw [List.mem_take_iff_getElem] at hm ⊢; obtain ⟨i, hi, e⟩ := hm; exact ⟨i, by omega, e⟩))
  have hm2 : ∀ p ∈ ps.drop (j + 2), p.pat = true := fun p hm => pats_mem hpat p (List.mem_of_mem_drop hm) (hd2 p hm)
  have hg0 : (ps[j]?).getD dZ = ps[j]'(by omega) := by rw [List.getElem?_eq_getElem (by omega : j < ps.length), Option.getD_some]
  have HML : Hid (mL ls (mRf ls n) ps ds = if ds.length < j + (ps.length - (j + 2)) then none else match mE (mRf ls n) (ps.take j) (ds.take j) with
    | none => none
    | some r1 => match allR (mRf ls n (ps[j]'(by omega))) ((ds.take (ds.length - (ps.length - (j + 2)))).drop j) with
     | none => none
     | some all => match mE (mRf ls n) (ps.drop (j + 2)) (ds.drop (ds.length - (ps.length - (j + 2)))) with
      | none => none
      | some r3 => some (r1 ++ mkRows ((ps[j]'(by omega)).vars (isVar ls) 1) all ++ r3)) := by
   show _ = _
   unfold mL
   rw [hix, if_neg (by omega)]
   simp only [Int.toNat_natCast, Nat.add_sub_cancel, hg0]
   rfl
  obtain ⟨pj, hpj⟩ : ∃ p, p = ps[j]'(by omega) := ⟨_, rfl⟩
  rw [← hpj] at hpjp hpjw hpjs hss HML
  obtain ⟨gp, op, k, t, mv, lv, pl, he, hSp, _, hatp, e0, e1, e2, e3, e4, o5, o6⟩ := (show LAt (fun g => g < A) w (.slice po ps.length pc) ps from hp).get j (by omega)
  obtain ⟨k', t', mo, mn, mc, lo, ln, lc, pl', hfive⟩ := At_slices hatp
  simp only [Array.mk.injEq, List.cons.injEq, Value.int.injEq, Value.string.injEq, true_and, and_true] at hfive
  obtain ⟨rfl, rfl, rfl, rfl, rfl⟩ := hfive
  rw [← hpj] at hatp
  first | subst he | (simp only [Option.some.injEq, Addr.mk.injEq, and_true] at he; obtain ⟨rfl, rfl⟩ := he)
  have hSP : gp < A := hSp
  have HP := Lib.hid hp
  have HD := Lib.hid hdroom
  have hrp := hp.room.2
  have hrd := hdroom.room.2
  have HOWN := hown
  obtain ⟨vo, vc, rfl⟩ := hown.form
  replace HOWN := Lib.hid HOWN
  have HLOW := Lib.hid (fun x hx => (hown.low x hx).1)
  obtain ⟨nb, hnb⟩ : ∃ n, n = bs.length := ⟨_, rfl⟩
  rw [← hnb] at HOWN HLOW ⊢
  have HNB := Lib.hid hnb
  have HATP := Lib.hid hatp
  have HW := Lib.hid hwds
  have HDS := Lib.hid hds
  have HPJ := Lib.hid (And.intro hpjp hpjw)
  have HM12 := Lib.hid (And.intro hm1 hm2)
  have HWF := Lib.hid hwf
  have HX0 := Lib.hid hx0
  have HB0 := Lib.hid hb0
  have HEE := Lib.hid hE
  have HRR := Lib.hid hR
  have HE0 := Lib.hid (And.intro e0 (And.intro e1 (And.intro e2 (And.intro e3 e4))))
  have HPS := Lib.hid (And.intro hpjs hss)
  clear hp hd hdroom hown hnb hatp hwds hds hpjp hpjw hm1 hm2 hwf hx0 hb0 hE hR e0 e1 e2 e3 e4 hpj hix hdj hd1 hd2 hpat hpjm hsd hsd2 hg0 hpjs hss hSp
  go_enter Try.func78, Try.ntmps78
  go_wp2_with fail
  refine FI.out.mono ?_
  rintro e w2 ⟨rfl, hb2⟩
  have hx2 := (hb2.block _ (by omega)).trans HX0.out
  have HB2 := Lib.hid (HB0.out.trans (hb2.mono (by omega)))
  have HX2 := Lib.hid hx2
  have q0 : decide ((j : Int) + 1 < 1) = false := decide_eq_false (by omega)
  clear hb2 hx2 FI
  by_cases hlt : ds.length < j + (ps.length - (j + 2))
  ·go_upto_region 4 with fail
   refine wp_region_noPanic ?_
   refine wp_region_held_drew (S := fun _ => True) (by kernel_rfl) trivial (fun hHeld => ?_)
   have hdr : Below w2.heap.size w2 w2.drew := (Below.refl _ _).drew
   generalize w2.drew = V at hHeld hdr ⊢
   have HDR := Lib.hid hdr
   clear hdr
   refine qts [0, 1, 2, 3, 4, 5, 6, 7, 8, 9, 10, 11] hHeld ?_
   (refine qtc (v := ?_) rfl rfl (fun w' hw' => ?_) ?_; rotate_left; (focus (go_simp; try with_reducible rfl)); simp only [zt,zs,zz,Act.put,zi,zy,zx])
   (refine qtc (v := Value.int .i64 (j : Int)) rfl rfl (fun w' hw' => ?_) ?_; (focus ((go_simp; first | done | exact IntWalk.i64_in _ ⟨by omega, by omega⟩ | (congr 2; exact IntWalk.i64_in _ ⟨by omega, by omega⟩) | (rw [IntWalk.i64_in _ ⟨by omega, by omega⟩]; first | rfl | (congr 2; omega))))); simp only [zt,zs,zz,Act.put,zi,zy,zx])
   iterate 4 (refine qtc (v := ?_) rfl rfl (fun w' hw' => ?_) ?_; rotate_left; (focus (go_simp; try with_reducible rfl)); simp only [zt,zs,zz,Act.put,zi,zy,zx])
   (refine qtc (v := Value.int .i64 ((j + 2 : Nat) : Int)) rfl rfl (fun w' hw' => ?_) ?_; (focus ((go_simp; first | done | exact IntWalk.i64_in _ ⟨by omega, by omega⟩ | (congr 2; exact IntWalk.i64_in _ ⟨by omega, by omega⟩) | (rw [IntWalk.i64_in _ ⟨by omega, by omega⟩]; first | rfl | (congr 2; omega))))); simp only [zt,zs,zz,Act.put,zi,zy,zx])
   (refine qtc (v := cutV (some ⟨gp, op, none⟩) (j + 2) ps.length pc) rfl rfl (fun w' hw' => ?_) ?_; (focus (exact exec_cut_l rfl rfl rfl (by omega))); simp only [zt,zs,zz,Act.put,zi,zy,zx])
   (refine qtc (v := Value.int .i64 ((ps.length - (j + 2) : Nat) : Int)) rfl rfl (fun w' hw' => ?_) ?_; (focus ((unfold cutV; go_simp))); simp only [zt,zs,zz,Act.put,zi,zy,zx])
   (refine qtc (v := Value.int .i64 ((ds.length : Int) - ((ps.length - (j + 2) : Nat) : Int))) rfl rfl (fun w' hw' => ?_) ?_; (focus ((go_simp; first | done | exact IntWalk.i64_in _ ⟨by omega, by omega⟩ | (congr 2; exact IntWalk.i64_in _ ⟨by omega, by omega⟩) | (rw [IntWalk.i64_in _ ⟨by omega, by omega⟩]; first | rfl | (congr 2; omega))))); simp only [zt,zs,zz,Act.put,zi,zy,zx])
   (refine qtc (v := Value.int .i64 (j : Int)) rfl rfl (fun w' hw' => ?_) ?_; (focus (go_simp)); simp only [zt,zs,zz,Act.put,zi,zy,zx])
   (refine qtc (v := Value.int .i64 ((ds.length : Int) - ((ps.length - (j + 2) : Nat) : Int))) rfl rfl (fun w' hw' => ?_) ?_; (focus (go_simp)); simp only [zt,zs,zz,Act.put,zi,zy,zx])
   refine qtn ?_
   simp only [zt,zs,zz,Act.put,zi,zy,zx,qzl,qzn,qza,Nat.reduceAdd,Nat.reduceSub]
   refine wpAnyH_done (by kernel_rfl) ?_ _
   refine NoPanic.normal ?_
   clear hHeld
   have q1 : decide ((ds.length : Int) - ((ps.length - (j + 2) : Nat) : Int) < (j : Int)) = true := decide_eq_true (by omega)
   go_wp2_with fail
   refine bodyPost_ret (results_tmp2 rfl _ _ _) rfl ?_
   rw [HML.out, if_pos hlt]
   have hend : Below w.heap.size w V := HB2.out.trans (HDR.out.mono HB2.out.size)
   exact ⟨_, bs, rfl, HOWN.out.below hend, Grw.of_below hend _, fun r h => (by cases h), by omega⟩
  ·obtain ⟨m, hm⟩ : ∃ m, m = ds.length - (ps.length - (j + 2)) := ⟨_, rfl⟩
   have hml := HML.out
   rw [if_neg hlt, ← hm] at hml
   have HML2 := Lib.hid hml
   have hjm : j ≤ m := by omega
   have hmd : m ≤ ds.length := by omega
   have hm2 : (ds.length : Int) - ((ps.length - (j + 2) : Nat) : Int) = (m : Int) := by omega
   have HMM := Lib.hid hm2
   clear hm hml hm2 HML
   go_upto_region 4 with fail
   refine wp_region_noPanic ?_
   refine wp_region_held_drew (S := fun _ => True) (by kernel_rfl) trivial (fun hHeld => ?_)
   have hdr : Below w2.heap.size w2 w2.drew := (Below.refl _ _).drew
   generalize w2.drew = V at hHeld hdr ⊢
   have hVb : Below w.heap.size w V := HB2.out.trans (hdr.mono HB2.out.size)
   have hVx : V.heap[w.heap.size]? = some (Obj.cells #[.map (some bw)] 96 (0, 0)) := (hdr.block _ (by have := (Array.getElem?_eq_some_iff.1 HX2.out).1; omega)).trans HX2.out
   have HVB := Lib.hid hVb
   have HVX := Lib.hid hVx
   clear hdr hVb hVx
   refine qts [0, 1, 2, 3, 4, 5, 6, 7, 8, 9, 10, 11] hHeld ?_
   (refine qtc (v := ?_) rfl rfl (fun w' hw' => ?_) ?_; rotate_left; (focus (go_simp; try with_reducible rfl)); simp only [zt,zs,zz,Act.put,zi,zy,zx])
   (refine qtc (v := Value.int .i64 (j : Int)) rfl rfl (fun w' hw' => ?_) ?_; (focus ((go_simp; first | done | exact IntWalk.i64_in _ ⟨by omega, by omega⟩ | (congr 2; exact IntWalk.i64_in _ ⟨by omega, by omega⟩) | (rw [IntWalk.i64_in _ ⟨by omega, by omega⟩]; first | rfl | (congr 2; omega))))); simp only [zt,zs,zz,Act.put,zi,zy,zx])
   iterate 4 (refine qtc (v := ?_) rfl rfl (fun w' hw' => ?_) ?_; rotate_left; (focus (go_simp; try with_reducible rfl)); simp only [zt,zs,zz,Act.put,zi,zy,zx])
   (refine qtc (v := Value.int .i64 ((j + 2 : Nat) : Int)) rfl rfl (fun w' hw' => ?_) ?_; (focus ((go_simp; first | done | exact IntWalk.i64_in _ ⟨by omega, by omega⟩ | (congr 2; exact IntWalk.i64_in _ ⟨by omega, by omega⟩) | (rw [IntWalk.i64_in _ ⟨by omega, by omega⟩]; first | rfl | (congr 2; omega))))); simp only [zt,zs,zz,Act.put,zi,zy,zx])
   (refine qtc (v := cutV (some ⟨gp, op, none⟩) (j + 2) ps.length pc) rfl rfl (fun w' hw' => ?_) ?_; (focus (exact exec_cut_l rfl rfl rfl (by omega))); simp only [zt,zs,zz,Act.put,zi,zy,zx])
   (refine qtc (v := Value.int .i64 ((ps.length - (j + 2) : Nat) : Int)) rfl rfl (fun w' hw' => ?_) ?_; (focus ((unfold cutV; go_simp))); simp only [zt,zs,zz,Act.put,zi,zy,zx])
   (refine qtc (v := Value.int .i64 (m : Int)) rfl rfl (fun w' hw' => ?_) ?_; (focus ((go_simp; rw [HMM.out]; first | done | exact IntWalk.i64_in _ ⟨by omega, by omega⟩ | (congr 2; exact IntWalk.i64_in _ ⟨by omega, by omega⟩)))); simp only [zt,zs,zz,Act.put,zi,zy,zx])
   (refine qtc (v := Value.int .i64 (j : Int)) rfl rfl (fun w' hw' => ?_) ?_; (focus (go_simp)); simp only [zt,zs,zz,Act.put,zi,zy,zx])
   (refine qtc (v := Value.int .i64 (m : Int)) rfl rfl (fun w' hw' => ?_) ?_; (focus (go_simp)); simp only [zt,zs,zz,Act.put,zi,zy,zx])
   refine qtn ?_
   simp only [zt,zs,zz,Act.put,zi,zy,zx,qzl,qzn,qza,Nat.reduceAdd,Nat.reduceSub]
   refine wpAnyH_done (by kernel_rfl) ?_ _
   refine NoPanic.normal ?_
   clear hHeld
   have q1 : decide ((m : Int) < (j : Int)) = false := decide_eq_false (by omega)
   go_upto_region 7 with fail
   have HG0 : Hid (Grw w V (.slice vo nb vc) (.slice vo nb vc)) := Grw.of_below HVB.out _
   have HO0 : Hid (OwnR A B V (.slice vo nb vc) bs) := HOWN.out.below HVB.out
   have hB7 : Below B w V := HG0.out.below hBw (fun x hx => HLOW.out x hx)
   have HB7 := Lib.hid hB7
   refine wp_region_noPanic ?_
   refine wp_region_held_drew (S := KeepsB (fun g => g < A ∨ g = w.heap.size) V) (by kernel_rfl) (KeepsB.of_below ((Below.refl _ _).drew)) (fun hHeld => ?_)
   have hD7 : Below V.heap.size V V.drew := (Below.refl _ _).drew
   generalize V.drew = V7 at hHeld hD7 ⊢
   have HD7 := Lib.hid hD7
   have hs7 := hD7.size
   have hsb7 := hB7.size
   have HC7 : Hid (∀ w', KeepsB (fun g => g < A ∨ g = w.heap.size) V w' → w'.cell? ⟨w.heap.size, 0, none⟩ = some (.map (some bw))) := by
    intro w' h
    have c := h.cell (.inr rfl) (show V.cell? ⟨w.heap.size, 0, none⟩ = some (.map (some bw)) by rw [Lib.cell_of_heap HVX.out]; rfl)
    exact c
   have hBV7 : Below B w V7 := hB7.trans (hD7.mono (by omega))
   have FE7 := Lib.hid (HEE.out (ps.take j) (ds.take j) (Nat.le_trans (sizes_take ps j) hsz) HM12.out.1 (wfs_take HWF.out j) A B bw ls (.slice vo nb vc) (cutV (some ⟨gp, op, none⟩) 0 j pc) (cutV dq 0 j dc) bs V7 hAB (by omega)
    (by have h := LAt.cut (HP.out.keeps (keeps_low (hBV7.mono hAB))) 0 j (Nat.zero_le _) (by omega); simpa using h) (by have h := LAt.cut (HD.out.keeps (keeps_low (hBV7.mono hAB))) 0 j (Nat.zero_le _) (by omega); simpa using h) (HW.out.below hBV7 (Nat.lt_of_lt_of_le hbw hAB)) hbw (HO0.out.below HD7.out) (by have := sizes_take ps j; omega) (fun d hd => HDS.out d (List.mem_of_mem_take hd)) (by rw [List.length_take]; omega))
   clear hB7 hD7 hBV7
   refine qts [0, 1, 2, 3, 4, 5, 6, 7] hHeld ?_
   (refine qtc (v := ?_) rfl rfl (fun w' hw' => ?_) ?_; rotate_left; (focus ((have y0 := HC7.out w' hw'; go_simp); try with_reducible rfl)); simp only [zt,zs,zz,Act.put,zi,zy,zx])
   iterate 3 (refine qtc (v := ?_) rfl rfl (fun w' hw' => ?_) ?_; rotate_left; (focus (go_simp; try with_reducible rfl)); simp only [zt,zs,zz,Act.put,zi,zy,zx])
   (refine qtc (v := cutV (some ⟨gp, op, none⟩) 0 j pc) rfl rfl (fun w' hw' => ?_) ?_; (focus (exact exec_cut_h rfl rfl rfl (by omega))); simp only [zt,zs,zz,Act.put,zi,zy,zx])
   iterate 2 (refine qtc (v := ?_) rfl rfl (fun w' hw' => ?_) ?_; rotate_left; (focus (go_simp; try with_reducible rfl)); simp only [zt,zs,zz,Act.put,zi,zy,zx])
   (refine qtc (v := cutV dq 0 j dc) rfl rfl (fun w' hw' => ?_) ?_; (focus (exact exec_cut_h rfl rfl rfl (by omega))); simp only [zt,zs,zz,Act.put,zi,zy,zx])
   refine qtn ?_
   simp only [zt,zs,zz,Act.put,zi,zy,zx,qzl,qzn,qza,Nat.reduceAdd,Nat.reduceSub]
   refine wpAnyH_ready (rs := [8]) (by kernel_rfl) (by simp) ?_
   refine (AllReadyH.cons rfl (fun K hK => ?_) AllReadyH.nil)
   go_simp
   refine FE7.out.mono ?_
   rintro e w3 ⟨v7, bs7, rfl, ho7, hg7, hr7, hl7⟩
   obtain ⟨vo7, vc7, hvf7⟩ := ho7.form
   subst hvf7
   obtain ⟨nb7, hnb7⟩ : ∃ n, n = bs7.length := ⟨_, rfl⟩
   rw [← hnb7] at ho7 hg7 ⊢
   have hown7 := HO0.out.below HD7.out
   have hHeld := KeepsB.trans hHeld (KeepsB.of_grown hg7.1 (fun g hs e => by have hlo := (hown7.low g e.symm).1; rcases hs with h | h; (· have : g < A := h; omega); subst h; exact (hown7.ne_block ((HD7.out.block _ (Array.getElem?_eq_some_iff.1 HVX.out).1).trans HVX.out) (by decide)).elim (fun h => by rw [h] at e; cases e) (fun h => h e.symm)))
   have HO7 := Lib.hid ho7
   have HG7 := Lib.hid ((HG0.out.trans (Grw.of_below HD7.out _)).trans hg7)
   have HR7 := Lib.hid hr7
   have HL7 := Lib.hid hl7
   have HN7 := Lib.hid hnb7
   have HX7 := Lib.hid ((hg7.1.block _ (by have := (Array.getElem?_eq_some_iff.1 HVX.out).1; omega) (fun e => (hown7.ne_block ((HD7.out.block _ (Array.getElem?_eq_some_iff.1 HVX.out).1).trans HVX.out) (by decide)).elim (fun h => by rw [h] at e; cases e) (fun h => h e.symm))).trans ((HD7.out.block _ (Array.getElem?_eq_some_iff.1 HVX.out).1).trans HVX.out))
   clear ho7 hg7 hr7 hl7 hnb7 hown7
   refine hK.out _ _ hHeld (fun hHeld => ?_)
   clear hK K
   try simp only [zt,zs,zz,Act.put,zi,zy,zx]
   refine qts [9, 10, 11, 12, 13] hHeld ?_
   iterate 5 (refine qtc (v := ?_) rfl rfl (fun w' hw' => ?_) ?_; rotate_left; (focus (go_simp; try with_reducible rfl)); simp only [zt,zs,zz,Act.put,zi,zy,zx])
   refine qtn ?_
   simp only [zt,zs,zz,Act.put,zi,zy,zx,qzl,qzn,qza,Nat.reduceAdd,Nat.reduceSub]
   refine wpAnyH_done (by kernel_rfl) ?_ _
   refine NoPanic.normal ?_
   clear hHeld
   have qj : (j : Int) < (ps.length : Int) := by omega
   obtain ⟨res, hres⟩ : ∃ r, r = mE (mRf ls n) (ps.take j) (ds.take j) := ⟨_, rfl⟩
   have hml := HML2.out
   rw [← hres] at HR7 hml ⊢
   have HML3 := Lib.hid hml
   clear hres hml HML2
   cases res with
   | none =>
    rw [show (none : Option (List Bd)).isSome = false from rfl]
    go_wp2_with fail
    refine bodyPost_ret (results_tmp2 rfl _ _ _) rfl ?_
    rw [HML3.out]
    exact ⟨_, bs7, rfl, HO7.out, HG7.out, fun r h => (by cases h), by have := HL7.out; have := sizes_take ps j; omega⟩
   | some r1 =>
    rw [show (some r1).isSome = true from rfl]
    have hb7 : bs7 = bs ++ r1 := HR7.out r1 rfl
    have HB7e := Lib.hid hb7
    clear hb7
    go_upto_region 9 with fail
    have hB9 : Below B w w3 := HG7.out.below hBw (fun x hx => HLOW.out x hx)
    have HB9 := Lib.hid hB9
    refine wp_region_noPanic ?_
    refine wp_region_held_drew (S := KeepsB (fun g => g < A ∨ g = w.heap.size) w3) (by kernel_rfl) (KeepsB.of_below ((Below.refl _ _).drew)) (fun hHeld => ?_)
    have hD9 : Below w3.heap.size w3 w3.drew := (Below.refl _ _).drew
    generalize w3.drew = V9 at hHeld hD9 ⊢
    have HD9 := Lib.hid hD9
    have hs9 := hD9.size
    have hsb9 := hB9.size
    have HC9 : Hid (∀ w', KeepsB (fun g => g < A ∨ g = w.heap.size) w3 w' → w'.cell? ⟨w.heap.size, 0, none⟩ = some (.map (some bw)) ∧ w'.cell? ⟨gp, op + j * 5, none⟩ = some (.int .i64 k) ∧ w'.cell? ⟨gp, op + j * 5 + 1, none⟩ = some (.string t) ∧ w'.cell? ⟨gp, op + j * 5 + 2, none⟩ = some (.slice mo mn mc) ∧ w'.cell? ⟨gp, op + j * 5 + 3, none⟩ = some (.slice lo ln lc) ∧ w'.cell? ⟨gp, op + j * 5 + 4, none⟩ = some (.int .i64 pl)) := by
     intro w' h
     have c := h.cell (.inr rfl) (show w3.cell? ⟨w.heap.size, 0, none⟩ = some (.map (some bw)) by rw [Lib.cell_of_heap HX7.out]; rfl)
     obtain ⟨e0, e1, e2, e3, e4⟩ := HE0.out
     have q : gp < B := Nat.lt_of_lt_of_le hSP hAB
     exact ⟨c, h.cell (.inl hSP) ((hB9.cell q).trans e0), h.cell (.inl hSP) ((hB9.cell q).trans e1), h.cell (.inl hSP) ((hB9.cell q).trans e2), h.cell (.inl hSP) ((hB9.cell q).trans e3), h.cell (.inl hSP) ((hB9.cell q).trans e4)⟩
    have hBV9 : Below B w V9 := hB9.trans (hD9.mono (by omega))
    have FE9 := Lib.hid (HRR.out pj ((ds.take m).drop j) (by have := HPS.out.1; omega) HPJ.out.1 HPJ.out.2 A B bw ls (.slice vo7 nb7 vc7) (cutV dq j m dc) _ bs7 V9 hAB (by omega) (Dt.At.keeps (keeps_low (hBV9.mono hAB)) _ _ HATP.out)
     (LAt.cut (HD.out.keeps (keeps_low (hBV9.mono hAB))) j m hjm hmd) (HW.out.below hBV9 (Nat.lt_of_lt_of_le hbw hAB)) hbw (HO7.out.below HD9.out) (by have := HL7.out; have := HPS.out.2; omega) (fun d hd => HDS.out d (List.mem_of_mem_take (List.mem_of_mem_drop hd))) (by rw [List.length_drop, List.length_take]; omega))
    clear hB9 hD9 hBV9
    refine qts [0, 1, 2, 3, 4, 5, 6, 7, 8, 9] hHeld ?_
    (refine qtc (v := ?_) rfl rfl (fun w' hw' => ?_) ?_; rotate_left; (focus ((obtain ⟨y0, e0, e1, e2, e3, e4⟩ := HC9.out w' hw'; go_simp); try with_reducible rfl)); simp only [zt,zs,zz,Act.put,zi,zy,zx])
    iterate 3 (refine qtc (v := ?_) rfl rfl (fun w' hw' => ?_) ?_; rotate_left; (focus (go_simp; try with_reducible rfl)); simp only [zt,zs,zz,Act.put,zi,zy,zx])
    (refine qtc (v := ?_) rfl rfl (fun w' hw' => ?_) ?_; rotate_left; (focus ((go_simp; try rw [if_pos qj]); try with_reducible rfl)); simp only [zt,zs,zz,Act.put,zi,zy,zx])
    (refine qtc (v := ?_) rfl rfl (fun w' hw' => ?_) ?_; rotate_left; (focus ((obtain ⟨y0, e0, e1, e2, e3, e4⟩ := HC9.out w' hw'; go_simp); try with_reducible rfl)); simp only [zt,zs,zz,Act.put,zi,zy,zx])
    iterate 3 (refine qtc (v := ?_) rfl rfl (fun w' hw' => ?_) ?_; rotate_left; (focus (go_simp; try with_reducible rfl)); simp only [zt,zs,zz,Act.put,zi,zy,zx])
    (refine qtc (v := cutV dq j m dc) rfl rfl (fun w' hw' => ?_) ?_; (focus (exact exec_cut_lh rfl rfl rfl rfl (by omega) (by omega))); simp only [zt,zs,zz,Act.put,zi,zy,zx])
    refine qtn ?_
    simp only [zt,zs,zz,Act.put,zi,zy,zx,qzl,qzn,qza,Nat.reduceAdd,Nat.reduceSub]
    refine wpAnyH_ready (rs := [10]) (by kernel_rfl) (by simp) ?_
    refine (AllReadyH.cons rfl (fun K hK => ?_) AllReadyH.nil)
    go_simp
    refine FE9.out.mono ?_
    rintro e w4 ⟨v9, bs9, rfl, ho9, hg9, hr9, hl9⟩
    obtain ⟨vo9, vc9, hvf9⟩ := ho9.form
    subst hvf9
    obtain ⟨nb9, hnb9⟩ : ∃ n, n = bs9.length := ⟨_, rfl⟩
    rw [← hnb9] at ho9 hg9 ⊢
    have hown9 := HO7.out.below HD9.out
    have hHeld := KeepsB.trans hHeld (KeepsB.of_grown hg9.1 (fun g hs e => by have hlo := (hown9.low g e.symm).1; rcases hs with h | h; (· have : g < A := h; omega); subst h; exact (hown9.ne_block ((HD9.out.block _ (Array.getElem?_eq_some_iff.1 HX7.out).1).trans HX7.out) (by decide)).elim (fun h => by rw [h] at e; cases e) (fun h => h e.symm)))
    have HO9 := Lib.hid ho9
    have HG9 := Lib.hid ((HG7.out.trans (Grw.of_below HD9.out _)).trans hg9)
    have HR9 := Lib.hid hr9
    have HL9 := Lib.hid hl9
    have HN9 := Lib.hid hnb9
    have HX9 := Lib.hid ((hg9.1.block _ (by have := (Array.getElem?_eq_some_iff.1 HX7.out).1; omega) (fun e => (hown9.ne_block ((HD9.out.block _ (Array.getElem?_eq_some_iff.1 HX7.out).1).trans HX7.out) (by decide)).elim (fun h => by rw [h] at e; cases e) (fun h => h e.symm))).trans ((HD9.out.block _ (Array.getElem?_eq_some_iff.1 HX7.out).1).trans HX7.out))
    clear ho9 hg9 hr9 hl9 hnb9 hown9
    refine hK.out _ _ hHeld (fun hHeld => ?_)
    clear hK K
    try simp only [zt,zs,zz,Act.put,zi,zy,zx]
    refine qts [11, 12, 13, 14, 15] hHeld ?_
    iterate 5 (refine qtc (v := ?_) rfl rfl (fun w' hw' => ?_) ?_; rotate_left; (focus (go_simp; try with_reducible rfl)); simp only [zt,zs,zz,Act.put,zi,zy,zx])
    refine qtn ?_
    simp only [zt,zs,zz,Act.put,zi,zy,zx,qzl,qzn,qza,Nat.reduceAdd,Nat.reduceSub]
    refine wpAnyH_done (by kernel_rfl) ?_ _
    refine NoPanic.normal ?_
    clear hHeld
    obtain ⟨al, hal⟩ : ∃ r, r = allR (mRf ls n pj) ((ds.take m).drop j) := ⟨_, rfl⟩
    have hml := HML3.out
    rw [← hal] at HR9 hml ⊢
    have HML4 := Lib.hid hml
    clear hal hml HML3
    cases al with
    | none =>
     rw [show (Option.map (mkRows (pj.vars (isVar ls) 1)) (none : Option (List (List Bd)))).isSome = false from rfl]
     go_wp2_with fail
     refine bodyPost_ret (results_tmp2 rfl _ _ _) rfl ?_
     rw [HML4.out]
     exact ⟨_, bs9, rfl, HO9.out, HG9.out, fun r h => (by cases h), by have := HL9.out; have := HL7.out; have := HPS.out.2; omega⟩
    | some all =>
     rw [show (Option.map (mkRows (pj.vars (isVar ls) 1)) (some all)).isSome = true from rfl]
     have hb9 : bs9 = bs7 ++ mkRows (pj.vars (isVar ls) 1) all := HR9.out _ rfl
     have HB9e := Lib.hid hb9
     clear hb9
     go_upto_region 11 with fail
     have hB11 : Below B w w4 := HG9.out.below hBw (fun x hx => HLOW.out x hx)
     have HB11 := Lib.hid hB11
     refine wp_region_noPanic ?_
     refine wp_region_held_drew (S := KeepsB (fun g => g < A ∨ g = w.heap.size) w4) (by kernel_rfl) (KeepsB.of_below ((Below.refl _ _).drew)) (fun hHeld => ?_)
     have hD11 : Below w4.heap.size w4 w4.drew := (Below.refl _ _).drew
     generalize w4.drew = V11 at hHeld hD11 ⊢
     have HD11 := Lib.hid hD11
     have hs11 := hD11.size
     have hsb11 := hB11.size
     have HC11 : Hid (∀ w', KeepsB (fun g => g < A ∨ g = w.heap.size) w4 w' → w'.cell? ⟨w.heap.size, 0, none⟩ = some (.map (some bw))) := by
      intro w' h
      have c := h.cell (.inr rfl) (show w4.cell? ⟨w.heap.size, 0, none⟩ = some (.map (some bw)) by rw [Lib.cell_of_heap HX9.out]; rfl)
      exact c
     have hBV11 : Below B w V11 := hB11.trans (hD11.mono (by omega))
     have FE11 := Lib.hid (HEE.out (ps.drop (j + 2)) (ds.drop m) (by have := sizes_split ps (j + 2); omega) HM12.out.2 (wfs_drop HWF.out (j + 2)) A B bw ls (.slice vo9 nb9 vc9) (cutV (some ⟨gp, op, none⟩) (j + 2) ps.length pc) (cutV dq m ds.length dc) bs9 V11 hAB (by omega)
      (by have h := LAt.cut (HP.out.keeps (keeps_low (hBV11.mono hAB))) (j + 2) ps.length (by omega) (Nat.le_refl _); rw [List.take_length] at h; exact h) (by have h := LAt.cut (HD.out.keeps (keeps_low (hBV11.mono hAB))) m ds.length hmd (Nat.le_refl _); rw [List.take_length] at h; exact h) (HW.out.below hBV11 (Nat.lt_of_lt_of_le hbw hAB)) hbw (HO9.out.below HD11.out) (by have := HL9.out; have := HL7.out; have := HPS.out.2; omega) (fun d hd => HDS.out d (List.mem_of_mem_drop hd)) (by rw [List.length_drop]; omega))
     clear hB11 hD11 hBV11
     refine qts [0, 1, 2, 3, 4, 5, 6, 7, 8] hHeld ?_
     (refine qtc (v := ?_) rfl rfl (fun w' hw' => ?_) ?_; rotate_left; (focus ((have y0 := HC11.out w' hw'; go_simp); try with_reducible rfl)); simp only [zt,zs,zz,Act.put,zi,zy,zx])
     iterate 3 (refine qtc (v := ?_) rfl rfl (fun w' hw' => ?_) ?_; rotate_left; (focus (go_simp; try with_reducible rfl)); simp only [zt,zs,zz,Act.put,zi,zy,zx])
     (refine qtc (v := Value.int .i64 ((j + 2 : Nat) : Int)) rfl rfl (fun w' hw' => ?_) ?_; (focus ((go_simp; first | done | exact IntWalk.i64_in _ ⟨by omega, by omega⟩ | (congr 2; exact IntWalk.i64_in _ ⟨by omega, by omega⟩) | (rw [IntWalk.i64_in _ ⟨by omega, by omega⟩]; first | rfl | (congr 2; omega))))); simp only [zt,zs,zz,Act.put,zi,zy,zx])
     (refine qtc (v := cutV (some ⟨gp, op, none⟩) (j + 2) ps.length pc) rfl rfl (fun w' hw' => ?_) ?_; (focus (exact exec_cut_l rfl rfl rfl (by omega))); simp only [zt,zs,zz,Act.put,zi,zy,zx])
     iterate 2 (refine qtc (v := ?_) rfl rfl (fun w' hw' => ?_) ?_; rotate_left; (focus (go_simp; try with_reducible rfl)); simp only [zt,zs,zz,Act.put,zi,zy,zx])
     (refine qtc (v := cutV dq m ds.length dc) rfl rfl (fun w' hw' => ?_) ?_; (focus (exact exec_cut_l rfl rfl rfl (by omega))); simp only [zt,zs,zz,Act.put,zi,zy,zx])
     refine qtn ?_
     simp only [zt,zs,zz,Act.put,zi,zy,zx,qzl,qzn,qza,Nat.reduceAdd,Nat.reduceSub]
     refine wpAnyH_ready (rs := [9]) (by kernel_rfl) (by simp) ?_
     refine (AllReadyH.cons rfl (fun K hK => ?_) AllReadyH.nil)
     go_simp
     refine FE11.out.mono ?_
     rintro e w5 ⟨v11, bs11, rfl, ho11, hg11, hr11, hl11⟩
     obtain ⟨vo11, vc11, hvf11⟩ := ho11.form
     subst hvf11
     obtain ⟨nb11, hnb11⟩ : ∃ n, n = bs11.length := ⟨_, rfl⟩
     rw [← hnb11] at ho11 hg11 ⊢
     have hown11 := HO9.out.below HD11.out
     have hHeld := KeepsB.trans hHeld (KeepsB.of_grown hg11.1 (fun g hs e => by have hlo := (hown11.low g e.symm).1; rcases hs with h | h; (· have : g < A := h; omega); subst h; exact (hown11.ne_block ((HD11.out.block _ (Array.getElem?_eq_some_iff.1 HX9.out).1).trans HX9.out) (by decide)).elim (fun h => by rw [h] at e; cases e) (fun h => h e.symm)))
     have HO11 := Lib.hid ho11
     have HG11 := Lib.hid ((HG9.out.trans (Grw.of_below HD11.out _)).trans hg11)
     have HR11 := Lib.hid hr11
     have HL11 := Lib.hid hl11
     have HN11 := Lib.hid hnb11
     have HX11 := Lib.hid ((hg11.1.block _ (by have := (Array.getElem?_eq_some_iff.1 HX9.out).1; omega) (fun e => (hown11.ne_block ((HD11.out.block _ (Array.getElem?_eq_some_iff.1 HX9.out).1).trans HX9.out) (by decide)).elim (fun h => by rw [h] at e; cases e) (fun h => h e.symm))).trans ((HD11.out.block _ (Array.getElem?_eq_some_iff.1 HX9.out).1).trans HX9.out))
     clear ho11 hg11 hr11 hl11 hnb11 hown11
     refine hK.out _ _ hHeld (fun hHeld => ?_)
     clear hK K
     try simp only [zt,zs,zz,Act.put,zi,zy,zx]
     refine qts [10, 11, 12, 13, 14] hHeld ?_
     iterate 5 (refine qtc (v := ?_) rfl rfl (fun w' hw' => ?_) ?_; rotate_left; (focus (go_simp; try with_reducible rfl)); simp only [zt,zs,zz,Act.put,zi,zy,zx])
     refine qtn ?_
     simp only [zt,zs,zz,Act.put,zi,zy,zx,qzl,qzn,qza,Nat.reduceAdd,Nat.reduceSub]
     refine wpAnyH_done (by kernel_rfl) ?_ _
     refine NoPanic.normal ?_
     clear hHeld
     obtain ⟨r3, hr3⟩ : ∃ r, r = mE (mRf ls n) (ps.drop (j + 2)) (ds.drop m) := ⟨_, rfl⟩
     have hml := HML4.out
     rw [← hr3] at HR11 hml ⊢
     have HML5 := Lib.hid hml
     clear hr3 hml HML4
     go_wp2_with fail
     refine bodyPost_ret (results_tmp2 rfl _ _ _) rfl ?_
     rw [HML5.out]
     have hlen5 : bs11.length ≤ bs.length + Dt.sizes ps := by have := HL11.out; have := HL9.out; have := HL7.out; have := HPS.out.2; omega
     have hO := HO11.out
     cases r3 with
     | none => exact ⟨_, bs11, rfl, hO, HG11.out, fun r h => (by cases h), hlen5⟩
     | some r =>
      refine ⟨_, bs11, rfl, hO, HG11.out, fun q h => ?_, hlen5⟩
      injection h with h
      rw [← h, HR11.out r rfl, HB9e.out, HB7e.out]
      simp
theorem matchR_any : ∀ n, n ≤ 8000 → MatchR n
 | 0, _ => fun p _ h => absurd h (by cases p; simp [Dt.size])
 | n + 1, h => matchR_of n (by omega) (listR_of n (by omega) (eachR_of n (by omega) (matchR_any n (by omega))) (rowR_of n (by omega) (matchR_any n (by omega))))
end Go.Proofs.Ytecljchifebljaa
namespace Go.Proofs.Ytecljchifebljaa
open Go Go.RowKit
/-- The first j bindings are in memory of their own (from N on); the others name and hold what they did (below A). -/
def EH (A N : Nat) (bs : List Bd) (j : Nat) (W : World) (i : Nat) (G : Nat → Prop) (cs : Array Value) : Prop :=
 ∃ b, bs[i]? = some b ∧ (i < j → Bd.OAt (fun x => N ≤ x) W b G cs) ∧ (j ≤ i → Bd.OAt (fun x => x < A) W b G cs)
theorem bd_size_get : ∀ (l : List Bd) (j : Nat) (h : j < l.length), (l[j]).size ≤ Bd.sizes l
 | [], j, h => absurd h (by simp)
 | b :: l, 0, _ => by simp only [List.getElem_cons_zero, Bd.sizes]; omega
 | b :: l, j + 1, h => by
  have := bd_size_get l j (by simpa using h)
  simp only [List.getElem_cons_succ, Bd.sizes]; omega
theorem two_five {W Y1 Y2 : World} {g j : Nat} {cur : Array Value} {u0 u1 u2 u3 u4 v0 v1 v2 v3 v4 : Value} (hg : W.heap[g]? = some (Obj.cells cur 60 (0, 0))) (hb : j * 12 + 12 ≤ cur.size)
  (e1 : Y1 = (((((W.setCell ⟨g, j * 12, none⟩ u0).setCell ⟨g, j * 12 + 1, none⟩ u1).setCell ⟨g, j * 12 + 2, none⟩ u2).setCell ⟨g, j * 12 + 3, none⟩ u3).setCell ⟨g, j * 12 + 4, none⟩ u4))
  (e2 : Y2 = (((((Y1.setCell ⟨g, j * 12 + 6, none⟩ v0).setCell ⟨g, j * 12 + 7, none⟩ v1).setCell ⟨g, j * 12 + 8, none⟩ v2).setCell ⟨g, j * 12 + 9, none⟩ v3).setCell ⟨g, j * 12 + 10, none⟩ v4)) :
  ∃ c2, Y2.heap[g]? = some (Obj.cells c2 60 (0, 0)) ∧ c2.size = cur.size ∧ (∀ t, t < 5 → c2[j * 12 + t]? = #[u0, u1, u2, u3, u4][t]?) ∧ c2[j * 12 + 5]? = cur[j * 12 + 5]? ∧ (∀ t, t < 5 → c2[j * 12 + 6 + t]? = #[v0, v1, v2, v3, v4][t]?) ∧ c2[j * 12 + 11]? = cur[j * 12 + 11]? ∧ (∀ i, (i < j * 12 ∨ j * 12 + 12 ≤ i) → c2[i]? = cur[i]?) ∧ W.grownBy Y2 (some g) := by
 obtain ⟨c1, x1, s1, t1, o1, g1⟩ := five_setT 60 W g (j * 12) cur u0 u1 u2 u3 u4 hg (by omega)
 rw [← e1] at x1 g1
 obtain ⟨c2, x2, s2, t2, o2, g2⟩ := five_setT 60 Y1 g (j * 12 + 6) c1 v0 v1 v2 v3 v4 x1 (by omega)
 rw [← e2] at x2 g2
 exact ⟨c2, x2, by omega, fun t ht => by rw [o2 _ (by omega)]; exact t1 t ht, by rw [o2 _ (by omega), o1 _ (by omega)], t2, by rw [o2 _ (by omega), o1 _ (by omega)], fun i hi => by rw [o2 _ (by omega), o1 _ (by omega)], grown_same g1 g2⟩
theorem own_step {A N : Nat} {F : Nat → Prop} {wr w9 : World} {g m cap j : Nat} {bs : List Bd} {cur c2 : Array Value} {c : Nat → Nat} {n d : Dt} {q : Int} {l : List Bd} {m1 l1 m2 l2 lv : Value}
  (hA : A ≤ N) (hF : ∀ x, F x → A ≤ x ∧ x < N) (hN : N ≤ wr.heap.size) (h : RowC F (EH A N bs j wr) wr (.slice (some ⟨g, 0, none⟩) m cap) m c) (hj : j < m) (hgF : F g)
  (hg : wr.heap[g]? = some (.cells cur 60 (0, 0))) (hg9 : w9.heap[g]? = some (.cells c2 60 (0, 0))) (hs : c2.size = cur.size) (hout : ∀ t, (t < 12 * j ∨ 12 * j + 12 ≤ t) → c2[t]? = cur[t]?) (hb : bs[j]? = some (.mk n q d l))
  (hin : ∀ t, t < 12 → c2[12 * j + t]? = ((n.five m1 l1 ++ [Value.int .i64 q] ++ d.five m2 l2 ++ [lv]).toArray)[t]?) (hn : Dt.At (fun x => N ≤ x) w9 n (n.five m1 l1).toArray) (hd : Dt.At (fun x => N ≤ x) w9 d (d.five m2 l2).toArray)
  (hrow : RowN (fun x => N ≤ x) (fun x => F x ∧ g ≠ x ∧ c x = j) w9 lv l) (hold : ∀ x, x < wr.heap.size → x ≠ g → ¬ (F x ∧ g ≠ x ∧ c x = j) → w9.heap[x]? = wr.heap[x]?) :
  ∃ c', RowC F (EH A N bs (j + 1) w9) w9 (.slice (some ⟨g, 0, none⟩) m cap) m c' := by
 have hk1 : KeepsB (fun x => N ≤ x) wr w9 := fun x cc T fz hx hh => ⟨fz, by
  have hx : N ≤ x := hx
  rw [hold x (Array.getElem?_eq_some_iff.1 hh).1 (fun e => by have := (hF g hgF).2; omega) (fun e => by have := (hF x e.1).2; omega)]; exact hh⟩
 have hk2 : KeepsB (fun x => x < A) wr w9 := fun x cc T fz hx hh => ⟨fz, by
  have hx : x < A := hx
  rw [hold x (Array.getElem?_eq_some_iff.1 hh).1 (fun e => by have := (hF g hgF).1; omega) (fun e => by have := (hF x e.1).1; omega)]; exact hh⟩
 classical
 refine ⟨_, RowC.put (G := fun _ => False) (cs' := (n.five m1 l1 ++ [Value.int .i64 q] ++ d.five m2 l2 ++ [lv]).toArray) h hj hg hg9 hs (by unfold Dt.five; rfl) hin hout (fun x hx => hx) (fun x hx => hx.elim) ?_ ?_⟩
 ·rintro i K K' cc hi hne hK hKK ⟨b, hb1, hb2, hb3⟩
  have hKs : ∀ x, K x → w9.heap[x]? = wr.heap[x]? := fun x hx => by
   obtain ⟨y1, y2, y3⟩ := hK x hx
   exact hold x (by have := (hF x y1).2; omega) (fun e => y2 e.symm) (fun e => hne (by omega))
  refine ⟨b, hb1, fun hlt => ?_, fun hle => ?_⟩
  ·exact Bd.OAt.mono (fun _ h => h) _ _ _ _ hKK (Bd.OAt.keeps hk1 _ _ _ hKs (hb2 (by omega)))
  ·exact Bd.OAt.mono (fun _ h => h) _ _ _ _ hKK (Bd.OAt.keeps hk2 _ _ _ hKs (hb3 (by omega)))
 ·refine ⟨.mk n q d l, hb, fun _ => ?_, fun h => absurd h (by omega)⟩
  rw [OAt_mk]
  exact ⟨m1, l1, m2, l2, lv, rfl, hn, hd, hrow.mono (fun _ h => h) (fun x hx => ⟨hx.1, hx.2.1, by rw [if_neg (fun h => h.elim)]; exact hx.2.2⟩)⟩
mutual
/-- Names and data are not too large. -/
def BdOk : Bd → Prop
 | .mk n _ d l => n.size ≤ 1000000 ∧ d.size ≤ 1000000 ∧ l.length ≤ 1000000 ∧ BdsOk l
def BdsOk : List Bd → Prop
 | [] => True
 | b :: r => BdOk b ∧ BdsOk r
end
theorem BdsOk_iff : ∀ (l : List Bd), BdsOk l ↔ ∀ b ∈ l, BdOk b
 | [] => by unfold BdsOk; simp
 | b :: r => by
  unfold BdsOk
  rw [BdsOk_iff r]
  simp
theorem BdOk_mk (n : Dt) (q : Int) (d : Dt) (l : List Bd) : BdOk (.mk n q d l) ↔ (n.size ≤ 1000000 ∧ d.size ≤ 1000000 ∧ l.length ≤ 1000000 ∧ ∀ b ∈ l, BdOk b) := by rw [BdOk, BdsOk_iff]
/-- What own leaves: the same row, all in memory of its own; only its own blocks are written. -/
def RetOwnR (F : Nat → Prop) (v : Value) (bs : List Bd) (w : World) (e : Ending) (w' : World) : Prop :=
 e = .returned (.tuple #[]) ∧ RowN (fun x => w.heap.size ≤ x) F w' v bs ∧ (∀ x, x < w.heap.size → ¬ F x → w'.heap[x]? = w.heap[x]?) ∧ w'.os = w.os ∧ w'.tape = w.tape ∧ w'.output = w.output ∧ w.heap.size ≤ w'.heap.size
end Go.Proofs.Ytecljchifebljaa
