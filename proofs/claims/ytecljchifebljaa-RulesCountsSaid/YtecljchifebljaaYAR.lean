/- Rules: the program's match, of a pattern without dots. -/
import Derived.Test.YtecljchifebljaaYAA
import Derived.Test.YtecljchifebljaaYAC
import Derived.Test.YtecljchifebljaaOW
set_option linter.unusedVariables false
set_option linter.unusedSimpArgs false
namespace Go.Proofs.Ytecljchifebljaa
open Go Go.RowKit
attribute [local go_sem] Oper.semAt_some
def Dt.dl : Dt → List Dt | .mk _ _ _ l _ => l
mutual
/-- No dots anywhere inside. -/
def Dt.nod : Dt → Bool
 | .mk _ _ _ l _ => nods l
def nods : List Dt → Bool
 | [] => true
 | d :: r => !d.dots && d.nod && nods r
end
theorem nod_mk (k : Int) (t : ByteArray) (ms : List Int) (l : List Dt) (p : Int) : (Dt.mk k t ms l p).nod = nods l := by rw [Dt.nod]
theorem nods_cons (d : Dt) (r : List Dt) : nods (d :: r) = (!d.dots && d.nod && nods r) := by rw [nods]
theorem nods_index : ∀ (l : List Dt), nods l = true → ∀ i (h : i < l.length), l[i].dots = false ∧ l[i].nod = true
 | [], _, i, h => absurd h (by simp)
 | d :: r, hn, 0, _ => by
  rw [nods_cons] at hn
  simp only [Bool.and_eq_true, Bool.not_eq_true'] at hn
  exact ⟨hn.1.1, hn.1.2⟩
 | d :: r, hn, i + 1, h => by
  rw [nods_cons] at hn
  simp only [Bool.and_eq_true, Bool.not_eq_true'] at hn
  exact nods_index r hn.2 i (by simpa using h)
theorem ixD_nods (l : List Dt) (h : nods l = true) : ixD l = -1 := by
 unfold ixD
 rw [List.findIdx?_eq_none_iff.2 (fun x hx => by obtain ⟨i, hi, rfl⟩ := List.getElem_of_mem hx; exact (nods_index l h i hi).1)]
mutual
/-- What a pattern's variables are bound to, in their order; none: it does not match. -/
def Dt.mB (ls : List ByteArray) : Dt → Dt → Option (List Bd)
 | .mk k t ms l p, d => if roleOf ls (.mk k t ms l p) = 2 then (if d.isS t = true then some [] else none) else if roleOf ls (.mk k t ms l p) = 3 then some [] else if roleOf ls (.mk k t ms l p) = 4 then some [.mk (.mk k t ms l p) 0 d []]
  else if k ≠ d.kind then none else if k = 1 ∨ k = 2 then (if (t.toList == d.text.toList) = true then some [] else none) else if k = 4 then mBs ls l d.dl else none
def mBs (ls : List ByteArray) : List Dt → List Dt → Option (List Bd)
 | [], [] => some []
 | p :: ps, d :: ds => match p.mB ls d with
  | none => none
  | some r => match mBs ls ps ds with
   | none => none
   | some r2 => some (r ++ r2)
 | _, _ => none
end
theorem mB_mk (ls : List ByteArray) (k : Int) (t : ByteArray) (ms : List Int) (l : List Dt) (p : Int) (d : Dt) : (Dt.mk k t ms l p).mB ls d = if roleOf ls (.mk k t ms l p) = 2 then (if d.isS t = true then some [] else none) else if roleOf ls (.mk k t ms l p) = 3 then some [] else if roleOf ls (.mk k t ms l p) = 4 then some [.mk (.mk k t ms l p) 0 d []]
  else if k ≠ d.kind then none else if k = 1 ∨ k = 2 then (if (t.toList == d.text.toList) = true then some [] else none) else if k = 4 then mBs ls l d.dl else none := by rw [Dt.mB]
/-- What a call of match leaves: a row that holds more; all that is bound, if it matches. -/
def RetM (B : Nat) (w : World) (v : Value) (bs : List Bd) (sz : Nat) (res : Option (List Bd)) (e : Ending) (w' : World) : Prop :=
 ∃ v' bs', e = .returned (.tuple #[v', .bool res.isSome]) ∧ OwnPI (fun g => g < B) B w' v' bs' ∧ Grw w w' v v' ∧ (∀ r, res = some r → bs' = bs ++ r) ∧ bs'.length ≤ bs.length + sz
def ListC (n : Nat) : Prop := ∀ (ps ds : List Dt), Dt.sizes ps ≤ n → nods ps = true → wfs ps → ∀ (B bw : Nat) (ls : List ByteArray) (v pv dv : Value) (bs : List Bd) (w : World), B ≤ w.heap.size → LAt (fun g => g < B) w pv ps → LAt (fun g => g < B) w dv ds → WordsAt w bw ls → bw < B → OwnPI (fun g => g < B) B w v bs → bs.length + Dt.sizes ps ≤ 3000000 → (∀ d ∈ ds, d.size ≤ 1000000) → ds.length ≤ 1000000 →
 Calls Try.prog 78 #[.agg #[.map (some bw)], v, pv, dv] w (RetM B w v bs (Dt.sizes ps) (mBs ls ps ds))
def MatchC (n : Nat) : Prop := ∀ (p d : Dt), p.size ≤ n → p.nod = true → p.wf → ∀ (B bw : Nat) (ls : List ByteArray) (v : Value) (pcs dcs : Array Value) (bs : List Bd) (w : World), B ≤ w.heap.size → Dt.At (fun g => g < B) w p pcs → Dt.At (fun g => g < B) w d dcs → WordsAt w bw ls → bw < B → OwnPI (fun g => g < B) B w v bs → bs.length + p.size ≤ 3000000 → d.size ≤ 1000000 →
 Calls Try.prog 53 #[.agg #[.map (some bw)], v, .agg pcs, .agg dcs] w (RetM B w v bs p.size (p.mB ls d))
set_option maxHeartbeats 16000000 in
set_option maxRecDepth 100000 in
theorem match_of (n : Nat) (hn : n ≤ 1000000) (HLC : ListC n) : MatchC (n + 1) := by
 intro d0 e0 hd hnod hwf B bw ls v pcs dcs bs w hBw hat hdat hwds hbw hown hlen hez
 have HLC := Lib.hid HLC
 obtain ⟨dd, hdd⟩ : ∃ x, x = d0 := ⟨_, rfl⟩
 obtain ⟨ee, hee⟩ : ∃ x, x = e0 := ⟨_, rfl⟩
 have hat0 := hat
 have hdat0 := hdat
 have hwf0 := hwf
 rw [← hdd] at hat0 hwf0 hlen ⊢
 rw [← hee] at hdat0 ⊢
 obtain ⟨k, t, ms, l, p⟩ := d0
 obtain ⟨k2, t2, ms2, l2, p2⟩ := e0
 have HMB := Lib.hid (mB_mk ls k t ms l p ee)
 rw [← hdd] at HMB
 have hwl : wfs l := ((wf_mk ..).1 hwf).2.2.1
 have htz : t.size ≤ 1000000 := ((wf_mk ..).1 hwf).2.1
 have hddt : dd.text = t ∧ dd.size = 1 + Dt.sizes l := by rw [hdd]; exact ⟨rfl, by simp only [Dt.size]⟩
 have heek : ee.kind = k2 ∧ ee.text = t2 ∧ ee.dl = l2 := by rw [hee]; exact ⟨rfl, rfl, rfl⟩
 have heel : l2.length ≤ 1000000 := by have := length_sizes l2; simp only [Dt.size] at hez; omega
 have hdsz : ∀ d ∈ l2, d.size ≤ 1000000 := fun d hd => by
  obtain ⟨i, hi, rfl⟩ := List.getElem_of_mem hd
  have := size_get l2 i hi; simp only [Dt.size] at hez; omega
 have HDSZ := Lib.hid hdsz
 clear hdsz
 have hszl : Dt.sizes l ≤ n := by simp only [Dt.size] at hd; omega
 rw [nod_mk] at hnod
 rw [At_mk] at hat hdat
 obtain ⟨mv, lv, rfl, hm, hl⟩ := hat
 obtain ⟨mv2, lv2, rfl, hm2, hl2⟩ := hdat
 obtain ⟨mo, mc, rfl⟩ := MAt.form2 hm
 obtain ⟨lo, lc, rfl⟩ := hl.form
 obtain ⟨mo2, mc2, rfl⟩ := MAt.form2 hm2
 obtain ⟨lo2, lc2, rfl⟩ := hl2.form
 obtain ⟨mn, hmn⟩ : ∃ n, n = ms.length := ⟨_, rfl⟩
 obtain ⟨mn2, hmn2⟩ : ∃ n, n = ms2.length := ⟨_, rfl⟩
 rw [← hmn] at hat0 ⊢
 rw [← hmn2] at hdat0 ⊢
 obtain ⟨vo, vc, rfl⟩ := hown.form
 obtain ⟨nb, hnb⟩ : ∃ n, n = bs.length := ⟨_, rfl⟩
 rw [← hnb] at hown ⊢
 have hb0 : Below w.heap.size w (((w.alloc (.cells #[.map (some bw)] 96)).alloc (.cells #[.int .i64 k, .string t, .slice mo mn mc, .slice lo l.length lc, .int .i64 p] 29)).alloc (.cells #[.int .i64 k2, .string t2, .slice mo2 mn2 mc2, .slice lo2 l2.length lc2, .int .i64 p2] 29)) := (((Below.refl _ _).alloc (Nat.le_refl _) _).alloc (by simp) _).alloc (by simp <;> omega) _
 have hx0 : (((w.alloc (.cells #[.map (some bw)] 96)).alloc (.cells #[.int .i64 k, .string t, .slice mo mn mc, .slice lo l.length lc, .int .i64 p] 29)).alloc (.cells #[.int .i64 k2, .string t2, .slice mo2 mn2 mc2, .slice lo2 l2.length lc2, .int .i64 p2] 29)).heap[w.heap.size]? = some (Obj.cells #[.map (some bw)] 96 (0, 0)) := (Lib.alloc_old _ _ _ (by simp <;> omega)).trans ((Lib.alloc_old _ _ _ (by simp)).trans (alloc_at _ _))
 have hx1 : (((w.alloc (.cells #[.map (some bw)] 96)).alloc (.cells #[.int .i64 k, .string t, .slice mo mn mc, .slice lo l.length lc, .int .i64 p] 29)).alloc (.cells #[.int .i64 k2, .string t2, .slice mo2 mn2 mc2, .slice lo2 l2.length lc2, .int .i64 p2] 29)).heap[w.heap.size + 1]? = some (Obj.cells #[.int .i64 k, .string t, .slice mo mn mc, .slice lo l.length lc, .int .i64 p] 29 (0, 0)) := (Lib.alloc_old _ _ _ (by simp <;> omega)).trans (second2 _ _ _)
 have hx2 : (((w.alloc (.cells #[.map (some bw)] 96)).alloc (.cells #[.int .i64 k, .string t, .slice mo mn mc, .slice lo l.length lc, .int .i64 p] 29)).alloc (.cells #[.int .i64 k2, .string t2, .slice mo2 mn2 mc2, .slice lo2 l2.length lc2, .int .i64 p2] 29)).heap[w.heap.size + 1 + 1]? = some (Obj.cells #[.int .i64 k2, .string t2, .slice mo2 mn2 mc2, .slice lo2 l2.length lc2, .int .i64 p2] 29 (0, 0)) := by
  have s2 : ((w.alloc (.cells #[.map (some bw)] 96)).alloc (.cells #[.int .i64 k, .string t, .slice mo mn mc, .slice lo l.length lc, .int .i64 p] 29)).heap.size = w.heap.size + 1 + 1 := by simp
  have h := alloc_at ((w.alloc (.cells #[.map (some bw)] 96)).alloc (.cells #[.int .i64 k, .string t, .slice mo mn mc, .slice lo l.length lc, .int .i64 p] 29)) (.cells #[.int .i64 k2, .string t2, .slice mo2 mn2 mc2, .slice lo2 l2.length lc2, .int .i64 p2] 29)
  rw [s2] at h; exact h
 have hs9 : (((w.alloc (.cells #[.map (some bw)] 96)).alloc (.cells #[.int .i64 k, .string t, .slice mo mn mc, .slice lo l.length lc, .int .i64 p] 29)).alloc (.cells #[.int .i64 k2, .string t2, .slice mo2 mn2 mc2, .slice lo2 l2.length lc2, .int .i64 p2] 29)).heap.size = w.heap.size + 3 := by simp
 have HAT := Lib.hid hat0
 have HDAT := Lib.hid hdat0
 have HL := Lib.hid hl
 have HL2 := Lib.hid hl2
 have HOWN := Lib.hid hown
 have HW := Lib.hid hwds
 have HWL := Lib.hid hwl
 have HNOD := Lib.hid hnod
 have HNB := Lib.hid hnb
 have HDD := Lib.hid hddt
 have HEE := Lib.hid heek
 have HEI : Hid (ee.isS t = ((k2 == 3) && (t2.toList == t.toList))) := by show _ = _; rw [hee]; rfl
 clear hat0 hdat0 hwf0 hwf hm hl hm2 hl2 hown hwds hwl hnod hmn hmn2 hnb hddt heek hdd hee hd
 go_enter Try.func53, Try.ntmps53
 go_upto_region 1 with fail
 obtain ⟨X, hX⟩ : ∃ X, X = (((w.alloc (.cells #[.map (some bw)] 96)).alloc (.cells #[.int .i64 k, .string t, .slice mo mn mc, .slice lo l.length lc, .int .i64 p] 29)).alloc (.cells #[.int .i64 k2, .string t2, .slice mo2 mn2 mc2, .slice lo2 l2.length lc2, .int .i64 p2] 29)) := ⟨_, rfl⟩
 rw [← hX] at hb0 hx0 hx1 hx2 hs9
 rw [← hX]
 clear hX
 have HB0 := Lib.hid hb0
 have HX0 := Lib.hid hx0
 have HX1 := Lib.hid hx1
 have HX2 := Lib.hid hx2
 clear hb0 hx0 hx1 hx2
 have y0 : X.cell? ⟨w.heap.size, 0, none⟩ = some (.map (some bw)) := by rw [Lib.cell_of_heap HX0.out]; rfl
 have y10 : X.cell? ⟨w.heap.size + 1, 0, none⟩ = some (.int .i64 k) := by rw [Lib.cell_of_heap HX1.out]; rfl
 have y11 : X.cell? ⟨w.heap.size + 1, 1, none⟩ = some (.string t) := by rw [Lib.cell_of_heap HX1.out]; rfl
 have y12 : X.cell? ⟨w.heap.size + 1, 2, none⟩ = some (.slice mo mn mc) := by rw [Lib.cell_of_heap HX1.out]; rfl
 have y13 : X.cell? ⟨w.heap.size + 1, 3, none⟩ = some (.slice lo l.length lc) := by rw [Lib.cell_of_heap HX1.out]; rfl
 have y14 : X.cell? ⟨w.heap.size + 1, 4, none⟩ = some (.int .i64 p) := by rw [Lib.cell_of_heap HX1.out]; rfl
 go_wp2_with fail
 refine (role_any (Dt.At.keeps (Keeps.of_below HB0.out) _ _ HAT.out) (by rw [HDD.out.1]; exact htz) bw ls (HW.out.below HB0.out HW.out.lt)).mono ?_
 rintro e w3 ⟨rfl, hb3⟩
 clear y0 y10 y11 y12 y13 y14
 have hs3 := hb3.size
 have HX3 := Lib.hid ((hb3.block _ (by omega)).trans HX0.out)
 have HP3 := Lib.hid ((hb3.block _ (by omega)).trans HX1.out)
 have HD3 := Lib.hid ((hb3.block _ (by omega)).trans HX2.out)
 have HB3 := Lib.hid (HB0.out.trans (hb3.mono (by omega)))
 have HO3 := Lib.hid (HOWN.out.below HB3.out)
 have HG3 := Lib.hid (Grw.of_below HB3.out (.slice vo nb vc))
 have hB3 : B ≤ w3.heap.size := by omega
 clear hb3 HX0 HX1 HX2
 obtain ⟨ro, hro⟩ : ∃ r, r = roleOf ls dd := ⟨_, rfl⟩
 rw [← hro] at HMB ⊢
 have HRO := Lib.hid hro
 clear hro
 have y0 : w3.cell? ⟨w.heap.size, 0, none⟩ = some (.map (some bw)) := by rw [Lib.cell_of_heap HX3.out]; rfl
 have y10 : w3.cell? ⟨w.heap.size + 1, 0, none⟩ = some (.int .i64 k) := by rw [Lib.cell_of_heap HP3.out]; rfl
 have y11 : w3.cell? ⟨w.heap.size + 1, 1, none⟩ = some (.string t) := by rw [Lib.cell_of_heap HP3.out]; rfl
 have y12 : w3.cell? ⟨w.heap.size + 1, 2, none⟩ = some (.slice mo mn mc) := by rw [Lib.cell_of_heap HP3.out]; rfl
 have y13 : w3.cell? ⟨w.heap.size + 1, 3, none⟩ = some (.slice lo l.length lc) := by rw [Lib.cell_of_heap HP3.out]; rfl
 have y14 : w3.cell? ⟨w.heap.size + 1, 4, none⟩ = some (.int .i64 p) := by rw [Lib.cell_of_heap HP3.out]; rfl
 have y20 : w3.cell? ⟨w.heap.size + 1 + 1, 0, none⟩ = some (.int .i64 k2) := by rw [Lib.cell_of_heap HD3.out]; rfl
 have y21 : w3.cell? ⟨w.heap.size + 1 + 1, 1, none⟩ = some (.string t2) := by rw [Lib.cell_of_heap HD3.out]; rfl
 have y22 : w3.cell? ⟨w.heap.size + 1 + 1, 2, none⟩ = some (.slice mo2 mn2 mc2) := by rw [Lib.cell_of_heap HD3.out]; rfl
 have y23 : w3.cell? ⟨w.heap.size + 1 + 1, 3, none⟩ = some (.slice lo2 l2.length lc2) := by rw [Lib.cell_of_heap HD3.out]; rfl
 have y24 : w3.cell? ⟨w.heap.size + 1 + 1, 4, none⟩ = some (.int .i64 p2) := by rw [Lib.cell_of_heap HD3.out]; rfl
 have SAME : Hid (∀ res : Option (List Bd), (∀ r, res = some r → r = []) → ∀ W, Below w3.heap.size w3 W → RetM B w (.slice vo nb vc) bs dd.size res (.returned (.tuple #[.slice vo nb vc, .bool res.isSome])) W) := by
  intro res hres W hW
  exact ⟨_, bs, rfl, HO3.out.below hW, HG3.out.trans (Grw.of_below hW _), fun r h => by rw [hres r h, List.append_nil], Nat.le_add_right _ _⟩
 by_cases h2 : ro = 2
 ·have q2 : (ro == 2) = true := beq_iff_eq.2 h2
  have HR : Hid (dd.mB ls ee = if ((k2 == 3) && (t2.toList == t.toList)) = true then some [] else none) := by show _ = _; rw [HMB.out, if_pos h2, HEI.out]
  clear h2
  go_wp2_with fail
  refine (is_any k2 t2 t _ _ p2 _ _ rfl rfl rfl rfl w3).mono ?_
  rintro e w4 ⟨rfl, hb4⟩
  clear y0 y10 y11 y12 y13 y14 y20 y21 y22 y23 y24
  go_wp2_with fail
  refine bodyPost_ret (results_tmp2 rfl _ _ _) rfl ?_
  have h := SAME.out (dd.mB ls ee) (fun r h => by rw [HR.out] at h; split at h <;> simp_all) w4 hb4
  rw [show ((k2 == 3) && (t2.toList == t.toList)) = (dd.mB ls ee).isSome by rw [HR.out]; cases ((k2 == 3) && (t2.toList == t.toList)) <;> rfl]
  exact h
 ·have q2 : (ro == 2) = false := beq_eq_false_iff_ne.2 h2
  by_cases h3 : ro = 3
  ·have q3 : (ro == 3) = true := beq_iff_eq.2 h3
   have HR : Hid (dd.mB ls ee = some []) := by show _ = _; rw [HMB.out, if_neg h2, if_pos h3]
   clear h2 h3
   go_wp2_with fail
   refine bodyPost_ret (results_tmp2 rfl _ _ _) rfl ?_
   rw [HR.out]
   exact SAME.out _ (fun r h => by injection h with h; exact h.symm) w3 (Below.refl _ _)
  ·have q3 : (ro == 3) = false := beq_eq_false_iff_ne.2 h3
   by_cases h4 : ro = 4
   ·have q4 : (ro == 4) = true := beq_iff_eq.2 h4
    have HR : Hid (dd.mB ls ee = some [.mk dd 0 ee []]) := by show _ = _; rw [HMB.out, if_neg h2, if_neg h3, if_pos h4]
    clear h2 h3 h4
    have hb9 : Below w3.heap.size w3 (w3.alloc (.cells #[.int .i64 k, .string t, .slice mo mn mc, .slice lo l.length lc, .int .i64 p, .int .i64 0, .int .i64 k2, .string t2, .slice mo2 mn2 mc2, .slice lo2 l2.length lc2, .int .i64 p2, .slice none 0 0] 60)) := (Below.refl _ _).alloc (Nat.le_refl _) _
    have hs9 := hb9.size
    have hpd : Bd.PAt (fun g => g < B) (w3.alloc (.cells #[.int .i64 k, .string t, .slice mo mn mc, .slice lo l.length lc, .int .i64 p, .int .i64 0, .int .i64 k2, .string t2, .slice mo2 mn2 mc2, .slice lo2 l2.length lc2, .int .i64 p2, .slice none 0 0] 60)) (.mk dd 0 ee []) #[.int .i64 k, .string t, .slice mo mn mc, .slice lo l.length lc, .int .i64 p, .int .i64 0, .int .i64 k2, .string t2, .slice mo2 mn2 mc2, .slice lo2 l2.length lc2, .int .i64 p2, .slice none 0 0] := by
     rw [BdPAt_mk]
     have hk9 : Keeps (fun g => g < B) w (w3.alloc (.cells #[.int .i64 k, .string t, .slice mo mn mc, .slice lo l.length lc, .int .i64 p, .int .i64 0, .int .i64 k2, .string t2, .slice mo2 mn2 mc2, .slice lo2 l2.length lc2, .int .i64 p2, .slice none 0 0] 60)) := keeps_low ((HB3.out.mono hBw).trans (hb9.mono (by omega)))
     have ha := Dt.At.keeps hk9 _ _ HAT.out
     have hc := Dt.At.keeps hk9 _ _ HDAT.out
     have hfk := five_is ha
     have hfd := five_is hc
     refine ⟨.slice mo mn mc, .slice lo l.length lc, .slice mo2 mn2 mc2, .slice lo2 l2.length lc2, .slice none 0 0, ?_, ?_, ?_, .inl ⟨rfl, rfl⟩⟩
     ·have h9 := congrArg Array.toList hfk
      have h8 := congrArg Array.toList hfd
      simp only [List.toList_toArray] at h9 h8
      show _ = (dd.five _ _ ++ [Value.int .i64 0] ++ ee.five _ _ ++ [_]).toArray
      rw [← h9, ← h8]; rfl
     ·rw [← hfk]; exact ha
     ·rw [← hfd]; exact hc
    obtain ⟨xs, hxo, hsn⟩ := OwnPI.snoc (HO3.out.below hb9) rfl hpd (fun x hx h => by have := (HO3.out.low x hx).1; have : x < B := h; omega)
    have HSN := Lib.hid hsn
    have HXO := Lib.hid hxo
    have hB9 : B ≤ (w3.alloc (.cells #[.int .i64 k, .string t, .slice mo mn mc, .slice lo l.length lc, .int .i64 p, .int .i64 0, .int .i64 k2, .string t2, .slice mo2 mn2 mc2, .slice lo2 l2.length lc2, .int .i64 p2, .slice none 0 0] 60)).heap.size := by omega
    have HG9 := Lib.hid (HG3.out.trans (Grw.of_below hb9 _))
    have hnl1 : bs.length + 1 ≤ 1000000000 := by omega
    have hAT := alloc_at w3 (.cells #[.int .i64 k, .string t, .slice mo mn mc, .slice lo l.length lc, .int .i64 p, .int .i64 0, .int .i64 k2, .string t2, .slice mo2 mn2 mc2, .slice lo2 l2.length lc2, .int .i64 p2, .slice none 0 0] 60)
    have HNEW : Hid (∀ i u, [.int .i64 k, .string t, .slice mo mn mc, .slice lo l.length lc, .int .i64 p, .int .i64 0, .int .i64 k2, .string t2, .slice mo2 mn2 mc2, .slice lo2 l2.length lc2, .int .i64 p2, .slice none 0 0][i]? = some u → (w3.alloc (.cells #[.int .i64 k, .string t, .slice mo mn mc, .slice lo l.length lc, .int .i64 p, .int .i64 0, .int .i64 k2, .string t2, .slice mo2 mn2 mc2, .slice lo2 l2.length lc2, .int .i64 p2, .slice none 0 0] 60)).cell? ⟨w3.heap.size, i, none⟩ = some u) := fun i u hu => by rw [Lib.cell_of_heap hAT]; simpa using hu
    clear hsn hxo hb9 hs9 hpd hAT
    go_wp2_with (refine wpList_appP rfl (Operand.tmp 26) (Operand.tmp 30) rfl B (.slice vo nb vc) bs.length xs rfl HXO.out w3.heap.size 1 rfl [.int .i64 k, .string t, .slice mo mn mc, .slice lo l.length lc, .int .i64 p, .int .i64 0, .int .i64 k2, .string t2, .slice mo2 mn2 mc2, .slice lo2 l2.length lc2, .int .i64 p2, .slice none 0 0] rfl HNEW.out (by simp [Value.oneCell']) hnl1 hB9 ?_; intro v' w9 h9 hg hv; have H9 := Lib.hid h9; have HGR := Lib.hid hg; have HVV := Lib.hid hv; clear h9 hg hv)
    refine bodyPost_ret (results_tmp2 rfl _ _ _) rfl ?_
    refine ⟨v', bs ++ [.mk dd 0 ee []], by rw [HR.out]; rfl, HSN.out v' w9 H9.out HGR.out, HG9.out.trans ⟨HGR.out, ?_⟩, fun r h => by rw [HR.out] at h; injection h with h; rw [← h], by rw [List.length_append]; have := HDD.out.2; simp; omega⟩
    rcases HVV.out with e | e
    ·exact .inl e
    ·exact .inr ⟨_, e, Nat.le_refl _, (H9.out.lt _ e).2⟩
   ·have q4 : (ro == 4) = false := beq_eq_false_iff_ne.2 h4
    have HR : Hid (dd.mB ls ee = if k ≠ k2 then none else if k = 1 ∨ k = 2 then (if (t.toList == t2.toList) = true then some [] else none) else if k = 4 then mBs ls l l2 else none) := by show _ = _; rw [HMB.out, if_neg h2, if_neg h3, if_neg h4, HEE.out.1, HEE.out.2.1, HEE.out.2.2]
    clear h2 h3 h4
    by_cases hkk : k = k2
    ·have qn : (k != k2) = false := by rw [bne_eq_false_iff_eq]; exact hkk
     have HR2 : Hid (dd.mB ls ee = if k = 1 ∨ k = 2 then (if (t.toList == t2.toList) = true then some [] else none) else if k = 4 then mBs ls l l2 else none) := by show _ = _; rw [HR.out, if_neg (fun h => h hkk)]
     clear hkk
     by_cases k1 : k = 1
     ·have q1 : (k == 1) = true := beq_iff_eq.2 k1
      have HR3 : Hid (dd.mB ls ee = if (t.toList == t2.toList) = true then some [] else none) := by show _ = _; rw [HR2.out, if_pos (.inl k1)]
      clear k1
      go_upto_region 11 with fail
      clear y0 y10 y12 y13 y14 y20 y22 y23 y24
      have hS0 : w3.drew.heap[w.heap.size + 1]? = some (Obj.cells #[.int .i64 k, .string t, .slice mo mn mc, .slice lo l.length lc, .int .i64 p] 29 (0, 0)) ∧ w3.drew.heap[w.heap.size + 1 + 1]? = some (Obj.cells #[.int .i64 k2, .string t2, .slice mo2 mn2 mc2, .slice lo2 l2.length lc2, .int .i64 p2] 29 (0, 0)) := ⟨HP3.out, HD3.out⟩
      refine wp_region_noPanic ?_
      refine wp_region_held_drew (S := fun W => W.heap[w.heap.size + 1]? = some (Obj.cells #[.int .i64 k, .string t, .slice mo mn mc, .slice lo l.length lc, .int .i64 p] 29 (0, 0)) ∧ W.heap[w.heap.size + 1 + 1]? = some (Obj.cells #[.int .i64 k2, .string t2, .slice mo2 mn2 mc2, .slice lo2 l2.length lc2, .int .i64 p2] 29 (0, 0))) (by kernel_rfl) hS0 (fun hHeld => ?_)
      clear y11 y21
      have hbd : Below w3.heap.size w3 w3.drew := (Below.refl _ _).drew
      generalize w3.drew = V at hHeld hbd ⊢
      clear hS0
      refine qts [0, 1, 2, 3, 4, 5, 6, 7] hHeld ?_
      iterate 2 (refine qtc (v := ?_) rfl rfl (fun w' hw' => ?_) ?_; rotate_left; (focus (go_simp; try with_reducible rfl)); simp only [zt,zs,zz,Act.put,zi,zy,zx])
      (refine qtc (v := ?_) rfl rfl (fun w' hw' => ?_) ?_; rotate_left; (focus ((have e1 := Lib.cell_of_heap hw'.1 1; have e2 := Lib.cell_of_heap hw'.2 1; simp only [List.getElem?_toArray, List.getElem?_cons_succ, List.getElem?_cons_zero] at e1 e2; go_simp); try with_reducible rfl)); simp only [zt,zs,zz,Act.put,zi,zy,zx])
      (refine qtc (v := ?_) rfl rfl (fun w' hw' => ?_) ?_; rotate_left; (focus (go_simp; try with_reducible rfl)); simp only [zt,zs,zz,Act.put,zi,zy,zx])
      (refine qtc (v := ?_) rfl rfl (fun w' hw' => ?_) ?_; rotate_left; (focus ((have e1 := Lib.cell_of_heap hw'.1 1; have e2 := Lib.cell_of_heap hw'.2 1; simp only [List.getElem?_toArray, List.getElem?_cons_succ, List.getElem?_cons_zero] at e1 e2; go_simp); try with_reducible rfl)); simp only [zt,zs,zz,Act.put,zi,zy,zx])
      iterate 3 (refine qtc (v := ?_) rfl rfl (fun w' hw' => ?_) ?_; rotate_left; (focus (go_simp; try with_reducible rfl)); simp only [zt,zs,zz,Act.put,zi,zy,zx])
      refine qtn ?_
      simp only [zt,zs,zz,Act.put,zi,zy,zx,qzl,qzn,qza,Nat.reduceAdd,Nat.reduceSub]
      refine wpAnyH_done (by kernel_rfl) ?_ _
      refine NoPanic.normal ?_
      clear hHeld
      go_wp2_with fail
      refine bodyPost_ret (results_tmp2 rfl _ _ _) rfl ?_
      have h := SAME.out (dd.mB ls ee) (fun r h => by rw [HR3.out] at h; split at h <;> simp_all) V hbd
      rw [show (t.toList == t2.toList) = (dd.mB ls ee).isSome by rw [HR3.out]; cases (t.toList == t2.toList) <;> rfl]
      exact h
     ·have q1 : (k == 1) = false := beq_eq_false_iff_ne.2 k1
      by_cases k22 : k = 2
      ·have q22 : (k == 2) = true := beq_iff_eq.2 k22
       have HR3 : Hid (dd.mB ls ee = if (t.toList == t2.toList) = true then some [] else none) := by show _ = _; rw [HR2.out, if_pos (.inr k22)]
       clear k1 k22
       go_upto_region 11 with fail
       clear y0 y10 y12 y13 y14 y20 y22 y23 y24
       have hS0 : w3.drew.heap[w.heap.size + 1]? = some (Obj.cells #[.int .i64 k, .string t, .slice mo mn mc, .slice lo l.length lc, .int .i64 p] 29 (0, 0)) ∧ w3.drew.heap[w.heap.size + 1 + 1]? = some (Obj.cells #[.int .i64 k2, .string t2, .slice mo2 mn2 mc2, .slice lo2 l2.length lc2, .int .i64 p2] 29 (0, 0)) := ⟨HP3.out, HD3.out⟩
       refine wp_region_noPanic ?_
       refine wp_region_held_drew (S := fun W => W.heap[w.heap.size + 1]? = some (Obj.cells #[.int .i64 k, .string t, .slice mo mn mc, .slice lo l.length lc, .int .i64 p] 29 (0, 0)) ∧ W.heap[w.heap.size + 1 + 1]? = some (Obj.cells #[.int .i64 k2, .string t2, .slice mo2 mn2 mc2, .slice lo2 l2.length lc2, .int .i64 p2] 29 (0, 0))) (by kernel_rfl) hS0 (fun hHeld => ?_)
       clear y11 y21
       have hbd : Below w3.heap.size w3 w3.drew := (Below.refl _ _).drew
       generalize w3.drew = V at hHeld hbd ⊢
       clear hS0
       refine qts [0, 1, 2, 3, 4, 5, 6, 7] hHeld ?_
       iterate 2 (refine qtc (v := ?_) rfl rfl (fun w' hw' => ?_) ?_; rotate_left; (focus (go_simp; try with_reducible rfl)); simp only [zt,zs,zz,Act.put,zi,zy,zx])
       (refine qtc (v := ?_) rfl rfl (fun w' hw' => ?_) ?_; rotate_left; (focus ((have e1 := Lib.cell_of_heap hw'.1 1; have e2 := Lib.cell_of_heap hw'.2 1; simp only [List.getElem?_toArray, List.getElem?_cons_succ, List.getElem?_cons_zero] at e1 e2; go_simp); try with_reducible rfl)); simp only [zt,zs,zz,Act.put,zi,zy,zx])
       (refine qtc (v := ?_) rfl rfl (fun w' hw' => ?_) ?_; rotate_left; (focus (go_simp; try with_reducible rfl)); simp only [zt,zs,zz,Act.put,zi,zy,zx])
       (refine qtc (v := ?_) rfl rfl (fun w' hw' => ?_) ?_; rotate_left; (focus ((have e1 := Lib.cell_of_heap hw'.1 1; have e2 := Lib.cell_of_heap hw'.2 1; simp only [List.getElem?_toArray, List.getElem?_cons_succ, List.getElem?_cons_zero] at e1 e2; go_simp); try with_reducible rfl)); simp only [zt,zs,zz,Act.put,zi,zy,zx])
       iterate 3 (refine qtc (v := ?_) rfl rfl (fun w' hw' => ?_) ?_; rotate_left; (focus (go_simp; try with_reducible rfl)); simp only [zt,zs,zz,Act.put,zi,zy,zx])
       refine qtn ?_
       simp only [zt,zs,zz,Act.put,zi,zy,zx,qzl,qzn,qza,Nat.reduceAdd,Nat.reduceSub]
       refine wpAnyH_done (by kernel_rfl) ?_ _
       refine NoPanic.normal ?_
       clear hHeld
       go_wp2_with fail
       refine bodyPost_ret (results_tmp2 rfl _ _ _) rfl ?_
       have h := SAME.out (dd.mB ls ee) (fun r h => by rw [HR3.out] at h; split at h <;> simp_all) V hbd
       rw [show (t.toList == t2.toList) = (dd.mB ls ee).isSome by rw [HR3.out]; cases (t.toList == t2.toList) <;> rfl]
       exact h
      ·have q22 : (k == 2) = false := beq_eq_false_iff_ne.2 k22
       by_cases k4 : k = 4
       ·have q44 : (k == 4) = true := beq_iff_eq.2 k4
        have HR3 : Hid (dd.mB ls ee = mBs ls l l2) := by show _ = _; rw [HR2.out, if_neg (fun h => h.elim k1 k22), if_pos k4]
        clear k1 k22 k4
        go_wp2_with fail
        refine (HLC.out l l2 hszl HNOD.out HWL.out B bw ls _ _ _ bs w3 hB3 (HL.out.keeps (keeps_low (HB3.out.mono hBw))) (HL2.out.keeps (keeps_low (HB3.out.mono hBw))) (HW.out.below HB3.out HW.out.lt) hbw HO3.out (by have := HDD.out.2; omega) HDSZ.out heel).mono ?_
        rintro e w4 ⟨v', bs', rfl, ho4, hg4, hr4, hl4⟩
        clear y0 y10 y11 y12 y13 y14 y20 y21 y22 y23 y24
        have HO4 := Lib.hid ho4
        have HG4 := Lib.hid hg4
        have HR4 := Lib.hid hr4
        clear ho4 hg4 hr4
        go_wp2_with fail
        refine bodyPost_ret (results_tmp2 rfl _ _ _) rfl ?_
        rw [HR3.out]
        exact ⟨v', bs', rfl, HO4.out, HG3.out.trans HG4.out, HR4.out, by have := HDD.out.2; omega⟩
       ·have q44 : (k == 4) = false := beq_eq_false_iff_ne.2 k4
        have HR3 : Hid (dd.mB ls ee = none) := by show _ = _; rw [HR2.out, if_neg (fun h => h.elim k1 k22), if_neg k4]
        clear k1 k22 k4
        go_wp2_with fail
        refine bodyPost_ret (results_tmp2 rfl _ _ _) rfl ?_
        rw [HR3.out]
        exact SAME.out none (fun r h => by cases h) w3 (Below.refl _ _)
    ·have qn : (k != k2) = true := by rw [bne_iff_ne]; exact hkk
     have HR2 : Hid (dd.mB ls ee = none) := by show _ = _; rw [HR.out, if_pos hkk]
     clear hkk
     go_wp2_with fail
     refine bodyPost_ret (results_tmp2 rfl _ _ _) rfl ?_
     rw [HR2.out]
     exact SAME.out none (fun r h => by cases h) w3 (Below.refl _ _)
end Go.Proofs.Ytecljchifebljaa
namespace Go.Proofs.Ytecljchifebljaa
open Go Go.RowKit
attribute [local go_sem] Oper.semAt_some
def EachC (n : Nat) : Prop := ∀ (ps ds : List Dt), Dt.sizes ps ≤ n → nods ps = true → wfs ps → ∀ (B bw : Nat) (ls : List ByteArray) (v pv dv : Value) (bs : List Bd) (w : World), B ≤ w.heap.size → LAt (fun g => g < B) w pv ps → LAt (fun g => g < B) w dv ds → WordsAt w bw ls → bw < B → OwnPI (fun g => g < B) B w v bs → bs.length + Dt.sizes ps ≤ 3000000 → (∀ d ∈ ds, d.size ≤ 1000000) → ds.length ≤ 1000000 →
 Calls Try.prog 90 #[.agg #[.map (some bw)], v, pv, dv] w (RetM B w v bs (Dt.sizes ps) (mBs ls ps ds))
theorem mBs_len (ls : List ByteArray) : ∀ (ps ds : List Dt), ps.length ≠ ds.length → mBs ls ps ds = none
 | [], [], h => absurd rfl h
 | p :: ps, d :: ds, h => by
  rw [mBs, mBs_len ls ps ds (fun e => h (by simp [e]))]
  cases p.mB ls d <;> rfl
 | [], d :: ds, _ => by unfold mBs; rfl
 | p :: ps, [], _ => by unfold mBs; rfl
theorem mBs_cons (ls : List ByteArray) (p d : Dt) (ps ds : List Dt) : mBs ls (p :: ps) (d :: ds) = match p.mB ls d with
  | none => none
  | some r => match mBs ls ps ds with
   | none => none
   | some r2 => some (r ++ r2) := by first | (rw [mBs]; done) | (rw [mBs]; rfl)
def EaInv (B bw : Nat) (ls : List ByteArray) (ps ds : List Dt) (bs : List Bd) (w : World) (v : Value) (v' isv iv : Value) (W : World) : Prop :=
 ∃ (i : Nat) (b : Bool) (bs' : List Bd), isv = .bool b ∧ iv = .int .i64 (i : Int) ∧ i ≤ ps.length ∧ OwnPI (fun g => g < B) B W v' bs' ∧ Grw w W v v' ∧ (∃ fz, W.heap[w.heap.size]? = some (Obj.cells #[.map (some bw)] 96 fz)) ∧ bs'.length + Dt.sizes (ps.drop i) ≤ bs.length + Dt.sizes ps ∧
  (b = true → ps.length = ds.length ∧ ∃ r0, bs' = bs ++ r0 ∧ mBs ls ps ds = (mBs ls (ps.drop i) (ds.drop i)).map (r0 ++ ·)) ∧ (b = false → mBs ls ps ds = none)
set_option maxHeartbeats 16000000 in
set_option maxRecDepth 100000 in
theorem each_of (n : Nat) (hn : n ≤ 1000000) (hM : MatchC n) : EachC n := by
 intro ps ds hsz hnod hwf B bw ls v pv dv bs w hBw hp hd hwds hbw hown hlen hds hdl
 have HM := Lib.hid hM
 have HP := Lib.hid hp
 have HD := Lib.hid hd
 have HW := Lib.hid hwds
 have HOWN := Lib.hid hown
 have HNOD := Lib.hid hnod
 have HWF := Lib.hid hwf
 have HDS := Lib.hid hds
 obtain ⟨po, pc, rfl⟩ := hp.form
 obtain ⟨dq, dc, rfl⟩ := hd.form
 have hpl := length_sizes ps
 obtain ⟨vo, vc, hvf⟩ := hown.form
 have HLOW := Lib.hid (fun x hx => (hown.low x hx).1)
 have hb0 : Below w.heap.size w (w.alloc (.cells #[.map (some bw)] 96)) := (Below.refl _ _).alloc (Nat.le_refl _) _
 have hx0 := alloc_at w (.cells #[.map (some bw)] 96)
 have hs0 : (w.alloc (.cells #[.map (some bw)] 96)).heap.size = w.heap.size + 1 := by simp
 have HI : Hid (∀ b : Bool, (b = true → ps.length = ds.length) → (b = false → ps.length ≠ ds.length) → EaInv B bw ls ps ds bs w v v (.bool b) (.int .i64 0) (w.alloc (.cells #[.map (some bw)] 96))) := by
  intro b h1 h2
  refine ⟨0, b, bs, rfl, rfl, Nat.zero_le _, hown.below hb0, Grw.of_below hb0 v, ⟨_, hx0⟩, by simp, fun h => ⟨h1 h, [], by simp, ?_⟩, fun h => mBs_len ls ps ds (h2 h)⟩
  simp only [List.drop_zero, List.nil_append]
  cases mBs ls ps ds <;> rfl
 subst hvf
 obtain ⟨nb0, hnb0⟩ : ∃ n, n = bs.length := ⟨_, rfl⟩
 rw [← hnb0] at HI HOWN HLOW ⊢
 have HNB0 := Lib.hid hnb0
 clear hnb0
 clear hM hp hd hwds hown hnod hwf hds hb0 hx0 hs0
 go_enter Try.func90, Try.ntmps90
 go_wp2_with fail
 obtain ⟨b0, qe⟩ : ∃ b : Bool, ((ps.length : Int) == (ds.length : Int)) = b := ⟨_, rfl⟩
 have H0 := Lib.hid (HI.out b0 (fun h => by rw [h, beq_iff_eq] at qe; omega) (fun h => by rw [h, beq_eq_false_iff_ne] at qe; omega))
 go_wp2_with fail
 go_loopw [1, 10, 11] (fun v' isv iv wr => EaInv B bw ls ps ds bs w (.slice vo nb0 vc) v' isv iv wr) (fun _ _ iv _ => ps.length - (intOf iv).toNat)
 case atStart => first | exact H0.out | (rw [qe]; exact H0.out)
 case round =>
  clear H0 qe
  obtain ⟨j, b, bs', rfl, rfl, hj, ho, hg, ⟨fz9, hx⟩, hlb, ht, hf⟩ := hrel
  have HO := Lib.hid ho
  have HG := Lib.hid hg
  have HX := Lib.hid hx
  have HT := Lib.hid ht
  have HF := Lib.hid hf
  obtain ⟨vo', vc', hvf⟩ := ho.form
  obtain ⟨nb', hnb'⟩ : ∃ n, n = bs'.length := ⟨_, rfl⟩
  rw [← hnb'] at hvf
  subst hvf
  have HNB' := Lib.hid hnb'
  have hlowv := Lib.hid (fun x hx => (ho.low x hx).1)
  have hsr := hg.1.size
  clear hnb' ho hg hx ht hf
  cases b with
  | false =>
   have HN := Lib.hid (HF.out rfl)
   go_wp2_with fail
   refine bodyPost_ret (results_tmp2 rfl _ _ _) rfl ?_
   exact ⟨_, bs', by rw [HN.out]; rfl, HO.out, HG.out, fun r h => (by rw [HN.out] at h; cases h), by omega⟩
  | true =>
   obtain ⟨hleq, r0, hr0, hrest⟩ := HT.out rfl
   by_cases hlt : j < ps.length
   ·have q1 : decide ((j : Int) < (ps.length : Int)) = true := decide_eq_true (by omega)
    have hBW : Below B w wr := HG.out.below hBw (fun x hx => HLOW.out x hx)
    have hlt2 : j < ds.length := by omega
    have HLEQ := Lib.hid hleq
    clear hleq
    obtain ⟨g, o, k, t, mv, lv, p, he, hS, _, hat, e0, e1, e2, e3, e4, o5, o6⟩ := (HP.out.keeps (keeps_low hBW)).get j hlt
    obtain ⟨g2, o2, k2, t2, mv2, lv2, p2, he2, hS2, _, hat2, e20, e21, e22, e23, e24, o25, o26⟩ := (HD.out.keeps (keeps_low hBW)).get j hlt2
    first | subst he | (simp only [Option.some.injEq, Addr.mk.injEq, and_true] at he; obtain ⟨rfl, rfl⟩ := he)
    first | subst he2 | (simp only [Option.some.injEq, Addr.mk.injEq, and_true] at he2; obtain ⟨rfl, rfl⟩ := he2)
    have hsj := size_get ps j hlt
    have hwj := wfs_get HWF.out j hlt
    have hnj := (nods_index ps HNOD.out j hlt).2
    have hdz := HDS.out ds[j] (List.getElem_mem hlt2)
    have hdr : Dt.sizes (ps.drop j) = (ps[j]).size + Dt.sizes (ps.drop (j + 1)) := by rw [List.drop_eq_getElem_cons hlt]; simp only [Dt.sizes]
    have hmc := mBs_cons ls ps[j] ds[j] (ps.drop (j + 1)) (ds.drop (j + 1))
    rw [← List.drop_eq_getElem_cons hlt, ← List.drop_eq_getElem_cons hlt2] at hmc
    rw [hmc] at hrest
    obtain ⟨pj, hpj⟩ : ∃ d, d = ps[j] := ⟨_, rfl⟩
    obtain ⟨dj, hdj⟩ : ∃ d, d = ds[j] := ⟨_, rfl⟩
    rw [← hpj, ← hdj] at hrest
    rw [← hpj] at hat hsj hwj hnj hdr
    rw [← hdj] at hat2 hdz
    have HREST := Lib.hid hrest
    have HR0 := Lib.hid hr0
    have HC : Hid (∀ w', KeepsB (fun g => g < B ∨ g = w.heap.size) wr w' → w'.cell? ⟨w.heap.size, 0, none⟩ = some (.map (some bw)) ∧ (w'.cell? ⟨g, o + j * 5, none⟩ = some (.int .i64 k) ∧ w'.cell? ⟨g, o + j * 5 + 1, none⟩ = some (.string t) ∧ w'.cell? ⟨g, o + j * 5 + 2, none⟩ = some mv ∧ w'.cell? ⟨g, o + j * 5 + 3, none⟩ = some lv ∧ w'.cell? ⟨g, o + j * 5 + 4, none⟩ = some (.int .i64 p)) ∧
      (w'.cell? ⟨g2, o2 + j * 5, none⟩ = some (.int .i64 k2) ∧ w'.cell? ⟨g2, o2 + j * 5 + 1, none⟩ = some (.string t2) ∧ w'.cell? ⟨g2, o2 + j * 5 + 2, none⟩ = some mv2 ∧ w'.cell? ⟨g2, o2 + j * 5 + 3, none⟩ = some lv2 ∧ w'.cell? ⟨g2, o2 + j * 5 + 4, none⟩ = some (.int .i64 p2))) := by
     intro w' h
     have c := h.cell (.inr rfl) (show wr.cell? ⟨w.heap.size, 0, none⟩ = some (.map (some bw)) by rw [Lib.cell_of_heap HX.out]; rfl)
     exact ⟨c, ⟨h.cell (.inl hS) e0, h.cell (.inl hS) e1, h.cell (.inl hS) e2, h.cell (.inl hS) e3, h.cell (.inl hS) e4⟩, h.cell (.inl hS2) e20, h.cell (.inl hS2) e21, h.cell (.inl hS2) e22, h.cell (.inl hS2) e23, h.cell (.inl hS2) e24⟩
    have HAT := Lib.hid hat
    have HAT2 := Lib.hid hat2
    have HWJ := Lib.hid hwj
    have HBW := Lib.hid hBW
    clear e0 e1 e2 e3 e4 e20 e21 e22 e23 e24 hS hS2 hat hat2 hpj hdj hmc hrest hr0 hwj hBW
    go_upto_region 5 with fail
    refine wp_region_noPanic ?_
    refine wp_region_held_drew (S := KeepsB (fun g => g < B ∨ g = w.heap.size) wr) (by kernel_rfl) (KeepsB.of_below ((Below.refl _ _).drew)) (fun hHeld => ?_)
    have hbd : Below wr.heap.size wr wr.drew := (Below.refl _ _).drew
    generalize wr.drew = V at hHeld hbd ⊢
    have HBD := Lib.hid hbd
    have hsd := hbd.size
    clear hbd
    refine qts [0, 1, 2, 3, 4, 5, 6, 7, 8, 9] hHeld ?_
    iterate 10 (refine qtc (v := ?_) rfl rfl (fun w' hw' => ?_) ?_; rotate_left; (focus ((obtain ⟨c0, ⟨e0, e1, e2, e3, e4⟩, e20, e21, e22, e23, e24⟩ := HC.out w' hw'; go_simp); try with_reducible rfl)); simp only [zt,zs,zz,Act.put,zi,zy,zx])
    refine qtn ?_
    simp only [zt,zs,zz,Act.put,zi,zy,zx,qzl,qzn,qza,Nat.reduceAdd,Nat.reduceSub]
    refine wpAnyH_ready (rs := [10]) (by kernel_rfl) (by simp) ?_
    refine (AllReadyH.cons rfl (fun K hK => ?_) AllReadyH.nil)
    go_simp
    refine (HM.out pj dj (by omega) hnj HWJ.out B bw ls _ _ _ bs' V (by omega) (Dt.At.keeps (Keeps.of_below HBD.out) _ _ HAT.out) (Dt.At.keeps (Keeps.of_below HBD.out) _ _ HAT2.out) ((HW.out.below HBW.out hbw).below HBD.out (by omega)) hbw (HO.out.below HBD.out) (by have := HNB'.out; omega) hdz).mono ?_
    rintro e w6 ⟨v6, bs6, rfl, ho6, hg6, hr6, hl6⟩
    have hS6 : KeepsB (fun g => g < B ∨ g = w.heap.size) wr w6 := KeepsB.trans hHeld (KeepsB.of_grown hg6.1 (fun g hs e => by have hlo := hlowv.out g e.symm; rcases hs with h | h; (· have : g < B := h; omega); subst h; exact (HO.out.ne_block HX.out (by decide)).elim (fun h => by rw [h] at e; cases e) (fun h => h e.symm)))
    have HO6 := Lib.hid ho6
    have HG6 := Lib.hid hg6
    have HR6 := Lib.hid hr6
    obtain ⟨vo6, vc6, hv6⟩ := ho6.form
    subst hv6
    have hX6 := hS6 _ _ _ _ (.inr rfl) HX.out
    clear ho6 hg6 hr6
    refine hK.out _ _ hS6 (fun hHeld => ?_)
    clear hK K
    try simp only [zt,zs,zz,Act.put,zi,zy,zx]
    refine qts [11, 12, 13, 14, 15] hHeld ?_
    iterate 5 (refine qtc (v := ?_) rfl rfl (fun w' hw' => ?_) ?_; rotate_left; (focus (go_simp; try with_reducible rfl)); simp only [zt,zs,zz,Act.put,zi,zy,zx])
    refine qtn ?_
    simp only [zt,zs,zz,Act.put,zi,zy,zx,qzl,qzn,qza,Nat.reduceAdd,Nat.reduceSub]
    refine wpAnyH_done (by kernel_rfl) ?_ _
    refine NoPanic.normal ?_
    clear hHeld
    obtain ⟨b6, hb6⟩ : ∃ b, b = (pj.mB ls dj).isSome := ⟨_, rfl⟩
    rw [← hb6]
    have HB6 := Lib.hid hb6
    obtain ⟨n6, hn6⟩ : ∃ n, n = bs6.length := ⟨_, rfl⟩
    rw [← hn6]
    rw [← hn6] at HO6 HG6
    have HN6 := Lib.hid hn6
    clear hb6 hn6
    go_wp2_with fail
    go_roundw
    case rel =>
     have hgw : Grw w w6 (.slice vo nb0 vc) (.slice vo6 n6 vc6) := (HG.out.trans (Grw.of_below HBD.out _)).trans HG6.out
     have hinv : EaInv B bw ls ps ds bs w (.slice vo nb0 vc) (.slice vo6 n6 vc6) (.bool b6) (.int .i64 ((j + 1 : Nat) : Int)) w6 := by
      refine ⟨j + 1, b6, bs6, rfl, rfl, by omega, HO6.out, hgw, hX6, by have := HN6.out; omega, fun h => ⟨HLEQ.out, ?_⟩, fun h => ?_⟩
      ·rw [HB6.out] at h
       obtain ⟨r, hr⟩ := Option.isSome_iff_exists.1 h
       refine ⟨r0 ++ r, by rw [HR6.out r hr, HR0.out, List.append_assoc], ?_⟩
       rw [HREST.out, hr]
       cases mBs ls (ps.drop (j + 1)) (ds.drop (j + 1)) <;> simp
      ·rw [HB6.out] at h
       rw [HREST.out, Option.isSome_eq_false_iff.1 h |> Option.isNone_iff_eq_none.1]
       rfl
     first | exact hinv | exact ⟨_, _, _, hinv, rfl, rfl, by go_num⟩ | exact ⟨_, _, _, hinv, rfl, rfl, rfl⟩
    case measure => simp [intOf]; omega
   ·obtain rfl : j = ps.length := by omega
    have q1 : decide ((ps.length : Int) < (ps.length : Int)) = false := decide_eq_false (by omega)
    have HR : Hid (mBs ls ps ds = some r0) := by
     show _ = _
     rw [hrest, List.drop_length, show ds.drop ps.length = [] from List.drop_eq_nil_of_le (by omega), show mBs ls [] [] = some [] by rw [mBs]]
     simp
    have HR0 := Lib.hid hr0
    clear hrest hr0
    go_wp2_with fail
    refine bodyPost_ret (results_tmp2 rfl _ _ _) rfl ?_
    exact ⟨_, bs', by rw [HR.out]; rfl, HO.out, HG.out, fun r h => (by rw [HR.out] at h; injection h with h; rw [← h]; exact HR0.out), by omega⟩
end Go.Proofs.Ytecljchifebljaa
namespace Go.Proofs.Ytecljchifebljaa
open Go Go.RowKit
set_option maxHeartbeats 8000000 in
set_option maxRecDepth 100000 in
theorem list_of (n : Nat) (hn : n ≤ 1000000) (hE : EachC n) : ListC n := by
 intro ps ds hsz hnod hwf B bw ls v pv dv bs w hBw hp hd hwds hbw hown hlen hds hdl
 have hpl := length_sizes ps
 have hb0 : Below w.heap.size w (w.alloc (.cells #[.map (some bw)] 96)) := (Below.refl _ _).alloc (Nat.le_refl _) _
 have hx0 := alloc_at w (.cells #[.map (some bw)] 96)
 have hs0 : (w.alloc (.cells #[.map (some bw)] 96)).heap.size = w.heap.size + 1 := by simp
 have FI := Lib.hid (index_any ps pv (w.alloc (.cells #[.map (some bw)] 96)) (hp.keeps (Keeps.of_below hb0)) (by omega))
 rw [ixD_nods ps hnod] at FI
 have FE := Lib.hid (fun (W : World) (hW : Below w.heap.size w W) => hE ps ds hsz hnod hwf B bw ls v pv dv bs W (by have := hW.size; omega) (hp.keeps (Keeps.of_below hW)) (hd.keeps (Keeps.of_below hW)) (hwds.below hW hwds.lt) hbw (hown.below hW) hlen hds hdl)
 obtain ⟨po, pc, rfl⟩ := hp.form
 obtain ⟨dq, dc, rfl⟩ := hd.form
 obtain ⟨vo, vc, rfl⟩ := hown.form
 obtain ⟨nb0, hnb0⟩ : ∃ n, n = bs.length := ⟨_, rfl⟩
 rw [← hnb0] at FE ⊢
 obtain ⟨np, hnp⟩ : ∃ n, n = ps.length := ⟨_, rfl⟩
 rw [← hnp] at FE FI ⊢
 have HB0 := Lib.hid hb0
 have HX0 := Lib.hid hx0
 clear hb0 hx0 hp hd hwds hown hds hwf hnod hE hnb0 hnp hpl hsz hlen
 go_enter Try.func78, Try.ntmps78
 go_wp2_with fail
 refine FI.out.mono ?_
 rintro e w2 ⟨rfl, hb2⟩
 have hx2 := (hb2.block _ (by omega)).trans HX0.out
 have y0 : w2.cell? ⟨w.heap.size, 0, none⟩ = some (.map (some bw)) := by rw [Lib.cell_of_heap hx2]; rfl
 have HB2 := Lib.hid (HB0.out.trans (hb2.mono (by omega)))
 clear hb2 hx2 FI
 go_wp2_with fail
 refine (FE.out w2 HB2.out).mono ?_
 rintro e w3 ⟨v3, bs3, rfl, ho3, hg3, hr3, hl3⟩
 have HO := Lib.hid ho3
 have HG := Lib.hid hg3
 have HR := Lib.hid hr3
 clear ho3 hg3 hr3 y0
 go_wp2_with fail
 refine bodyPost_ret (results_tmp2 rfl _ _ _) rfl ?_
 exact ⟨v3, bs3, rfl, HO.out, (Grw.of_below HB2.out _).trans HG.out, HR.out, hl3⟩
theorem match_any : ∀ n, n ≤ 1000000 → MatchC n
 | 0, _ => fun p _ h => absurd h (by cases p; simp [Dt.size])
 | n + 1, h => match_of n (by omega) (list_of n (by omega) (each_of n (by omega) (match_any n (by omega))))
end Go.Proofs.Ytecljchifebljaa
