/- Rules: what match, list, each and row of the program leave. -/
import Derived.Test.YtecljchifebljaaYAS
import Derived.Test.YtecljchifebljaaYAN
import Derived.Test.YtecljchifebljaaYAA
import Derived.Test.YtecljchifebljaaYAC
import Derived.Test.YtecljchifebljaaVB
set_option linter.unusedVariables false
set_option linter.unusedSimpArgs false
namespace Go.Proofs.Ytecljchifebljaa
open Go Go.RowKit
/-- A row of bindings that the call owns: its blocks stand from B on, what it names and holds below A. -/
def OwnR (A B : Nat) (w : World) (v : Value) (bs : List Bd) : Prop := RowN (fun g => g < A) (fun x => B ≤ x) w v bs
theorem OwnR.form {A B : Nat} {w : World} {v : Value} {bs : List Bd} (h : OwnR A B w v bs) : ∃ ao c, v = .slice ao bs.length c := RowN.form h
theorem OwnR.low {A B : Nat} {w : World} {v : Value} {bs : List Bd} (h : OwnR A B w v bs) : ∀ x, v.ownBlock = some x → B ≤ x ∧ x < w.heap.size := RowN.own h
theorem OwnR.below {A B : Nat} {w w' : World} {v : Value} {bs : List Bd} (h : OwnR A B w v bs) (hb : Below w.heap.size w w') : OwnR A B w' v bs := RowN.below h hb
theorem OwnR.mono {A B A' B' : Nat} {w : World} {v : Value} {bs : List Bd} (h : OwnR A B w v bs) (hA : A ≤ A') (hB : B' ≤ B) : OwnR A' B' w v bs := RowN.mono h (fun g (h : g < A) => Nat.lt_of_lt_of_le h hA) (fun x (h : B ≤ x) => Nat.le_trans hB h)
theorem OwnR.nil (A B : Nat) (w : World) : OwnR A B w (.slice none 0 0) [] := RowN.nil _ _ _
/-- Behind an append of a binding without rows. -/
theorem OwnR.snoc {A B : Nat} {w : World} {v : Value} {bs : List Bd} {b : Bd} {cs : Array Value} (h : OwnR A B w v bs) (hAB : A ≤ B) (hB : B ≤ w.heap.size) (h5 : cs.size = 12) (hb : Bd.OAt (fun g => g < A) w b (fun _ => False) cs) :
  ∃ xs, w.ownsRow 0 60 12 v bs.length xs ∧ ∀ v' w9, w9.ownsRow 0 60 12 v' (bs.length + 1) (xs ++ cs.toList) → w.grownBy w9 v.ownBlock → (v'.ownBlock = v.ownBlock ∨ v'.ownBlock = some w.heap.size) → OwnR A B w9 v' (bs ++ [b]) := by
 obtain ⟨xs, h1, h2⟩ := RowN.snoc h h5 hb (fun _ h => h.elim) (fun x hx (hlt : x < A) => by have := (h.low x hx).1; omega)
 refine ⟨xs, h1, fun v' w9 h9 hg hv => (h2 v' w9 h9 hg hv).mono (fun _ h => h) ?_⟩
 rintro x (hx | hx | hx)
 ·exact hx
 ·exact hx.elim
 ·rcases hv with e | e
  ·exact (h.low x (e ▸ hx)).1
  ·rw [e] at hx; injection hx with hx; show B ≤ x; omega
theorem OwnR.ne_block {A B x : Nat} {w : World} {v : Value} {bs : List Bd} (h : OwnR A B w v bs) {c : Array Value} {T : TypeId} {fz : Nat × Nat} (hx : w.heap[x]? = some (.cells c T fz)) (hT : T ≠ 60) : v.ownBlock = none ∨ v.ownBlock ≠ some x := by
 obtain ⟨xs, _, ho, _⟩ := h
 rcases ho.2 with ⟨e1, _⟩ | ⟨g, cap, cur, e1, _, e3, _⟩
 ·rw [e1]; exact .inl rfl
 ·rw [e1]
  refine .inr fun e => ?_
  simp only [Value.ownBlock, Option.some.injEq] at e
  subst e
  rw [e3] at hx
  injection hx with hx
  injection hx with _ hx _
  exact hT hx.symm
theorem mRf_mk (ls : List ByteArray) (n : Nat) (k : Int) (t : ByteArray) (ms : List Int) (l : List Dt) (p : Int) (d : Dt) : mRf ls (n + 1) (.mk k t ms l p) d = if roleOf ls (.mk k t ms l p) = 2 then (if d.isS t = true then some [] else none) else if roleOf ls (.mk k t ms l p) = 3 then some [] else if roleOf ls (.mk k t ms l p) = 4 then some [.mk (.mk k t ms l p) 0 d []]
  else if k ≠ d.kind then none else if k = 1 ∨ k = 2 then (if (t.toList == d.text.toList) = true then some [] else none) else if k = 4 then mL ls (mRf ls n) l d.dl9 else none := by rw [mRf]; rfl
/-- What a call of match leaves: a row that holds more; all that is bound, if it matches. -/
def RetR (A B : Nat) (w : World) (v : Value) (bs : List Bd) (sz : Nat) (res : Option (List Bd)) (e : Ending) (w' : World) : Prop :=
 ∃ v' bs', e = .returned (.tuple #[v', .bool res.isSome]) ∧ OwnR A B w' v' bs' ∧ Grw w w' v v' ∧ (∀ r, res = some r → bs' = bs ++ r) ∧ bs'.length ≤ bs.length + sz
def ListR (n : Nat) : Prop := ∀ (ps ds : List Dt), Dt.sizes ps ≤ n → pats ps true false = true → wfs ps → ∀ (A B bw : Nat) (ls : List ByteArray) (v pv dv : Value) (bs : List Bd) (w : World), A ≤ B → B ≤ w.heap.size → LAt (fun g => g < A) w pv ps → LAt (fun g => g < A) w dv ds → WordsAt w bw ls → bw < A → OwnR A B w v bs → bs.length + Dt.sizes ps ≤ 3000000 → (∀ d ∈ ds, d.size ≤ 1000000) → ds.length ≤ 1000000 →
 Calls Try.prog 78 #[.agg #[.map (some bw)], v, pv, dv] w (RetR A B w v bs (Dt.sizes ps) (mL ls (mRf ls n) ps ds))
def EachR (n : Nat) : Prop := ∀ (ps ds : List Dt), Dt.sizes ps ≤ n → (∀ p ∈ ps, p.pat = true) → wfs ps → ∀ (A B bw : Nat) (ls : List ByteArray) (v pv dv : Value) (bs : List Bd) (w : World), A ≤ B → B ≤ w.heap.size → LAt (fun g => g < A) w pv ps → LAt (fun g => g < A) w dv ds → WordsAt w bw ls → bw < A → OwnR A B w v bs → bs.length + Dt.sizes ps ≤ 3000000 → (∀ d ∈ ds, d.size ≤ 1000000) → ds.length ≤ 1000000 →
 Calls Try.prog 90 #[.agg #[.map (some bw)], v, pv, dv] w (RetR A B w v bs (Dt.sizes ps) (mE (mRf ls n) ps ds))
def MatchR (n : Nat) : Prop := ∀ (p d : Dt), p.size ≤ n → p.pat = true → p.wf → ∀ (A B bw : Nat) (ls : List ByteArray) (v : Value) (pcs dcs : Array Value) (bs : List Bd) (w : World), A ≤ B → B ≤ w.heap.size → Dt.At (fun g => g < A) w p pcs → Dt.At (fun g => g < A) w d dcs → WordsAt w bw ls → bw < A → OwnR A B w v bs → bs.length + p.size ≤ 3000000 → d.size ≤ 1000000 →
 Calls Try.prog 53 #[.agg #[.map (some bw)], v, .agg pcs, .agg dcs] w (RetR A B w v bs p.size (mRf ls n p d))
def RowR (n : Nat) : Prop := ∀ (p : Dt) (ds : List Dt), p.size ≤ n → p.pat = true → p.wf → ∀ (A B bw : Nat) (ls : List ByteArray) (v dv : Value) (pcs : Array Value) (bs : List Bd) (w : World), A ≤ B → B ≤ w.heap.size → Dt.At (fun g => g < A) w p pcs → LAt (fun g => g < A) w dv ds → WordsAt w bw ls → bw < A → OwnR A B w v bs → bs.length + p.size ≤ 3000000 → (∀ d ∈ ds, d.size ≤ 1000000) → ds.length ≤ 1000000 →
 Calls Try.prog 91 #[.agg #[.map (some bw)], v, .agg pcs, dv] w (RetR A B w v bs p.size ((allR (mRf ls n p) ds).map (mkRows (p.vars (isVar ls) 1))))
end Go.Proofs.Ytecljchifebljaa
namespace Go.Proofs.Ytecljchifebljaa
open Go Go.RowKit
attribute [local go_sem] Oper.semAt_some
set_option maxHeartbeats 16000000 in
set_option maxRecDepth 100000 in
theorem matchR_of (n : Nat) (hn : n ≤ 1000000) (HLC : ListR n) : MatchR (n + 1) := by
 intro d0 e0 hd hnod hwf A B bw ls v pcs dcs bs w hAB hBw hat hdat hwds hbw hown hlen hez
 have HLC := Lib.hid HLC
 obtain ⟨dd, hdd⟩ : ∃ x, x = d0 := ⟨_, rfl⟩
 obtain ⟨ee, hee⟩ : ∃ x, x = e0 := ⟨_, rfl⟩
 have hat0 := hat
 have hdat0 := hdat
 have hwf0 := hwf
 rw [← hdd] at hat0 hwf0 hlen ⊢
 rw [← hee] at hdat0 ⊢
 obtain ⟨k, t, ms, l, p⟩ := d0
 obtain ⟨k2, t2, ms2, l2, p2⟩ := e0
 have HMB := Lib.hid (mRf_mk ls n k t ms l p ee)
 rw [← hdd] at HMB
 have hwl : wfs l := ((wf_mk ..).1 hwf).2.2.1
 have htz : t.size ≤ 1000000 := ((wf_mk ..).1 hwf).2.1
 have hddt : dd.text = t ∧ dd.size = 1 + Dt.sizes l := by rw [hdd]; exact ⟨rfl, by simp only [Dt.size]⟩
 have heek : ee.kind = k2 ∧ ee.text = t2 ∧ ee.dl9 = l2 := by rw [hee]; exact ⟨rfl, rfl, rfl⟩
 have heel : l2.length ≤ 1000000 := by have := length_sizes l2; simp only [Dt.size] at hez; omega
 have hdsz : ∀ d ∈ l2, d.size ≤ 1000000 := fun d hd => by
  obtain ⟨i, hi, rfl⟩ := List.getElem_of_mem hd
  have := size_get l2 i hi; simp only [Dt.size] at hez; omega
 have HDSZ := Lib.hid hdsz
 clear hdsz
 have hszl : Dt.sizes l ≤ n := by simp only [Dt.size] at hd; omega
 rw [pat_mk, Bool.and_eq_true] at hnod
 replace hnod := hnod.2
 rw [At_mk] at hat hdat
 obtain ⟨mv, lv, rfl, hm, hl⟩ := hat
 obtain ⟨mv2, lv2, rfl, hm2, hl2⟩ := hdat
 obtain ⟨mo, mc, rfl⟩ := MAt.form2 hm
 obtain ⟨lo, lc, rfl⟩ := hl.form
 obtain ⟨mo2, mc2, rfl⟩ := MAt.form2 hm2
 obtain ⟨lo2, lc2, rfl⟩ := hl2.form
 obtain ⟨mn, hmn⟩ : ∃ n, n = ms.length := ⟨_, rfl⟩
 obtain ⟨mn2, hmn2⟩ : ∃ n, n = ms2.length := ⟨_, rfl⟩
 rw [← hmn] at hat0 ⊢
 rw [← hmn2] at hdat0 ⊢
 obtain ⟨vo, vc, rfl⟩ := hown.form
 obtain ⟨nb, hnb⟩ : ∃ n, n = bs.length := ⟨_, rfl⟩
 rw [← hnb] at hown ⊢
 have hb0 : Below w.heap.size w (((w.alloc (.cells #[.map (some bw)] 96)).alloc (.cells #[.int .i64 k, .string t, .slice mo mn mc, .slice lo l.length lc, .int .i64 p] 29)).alloc (.cells #[.int .i64 k2, .string t2, .slice mo2 mn2 mc2, .slice lo2 l2.length lc2, .int .i64 p2] 29)) := (((Below.refl _ _).alloc (Nat.le_refl _) _).alloc (by simp) _).alloc (by simp <;> omega) _
 have hx0 : (((w.alloc (.cells #[.map (some bw)] 96)).alloc (.cells #[.int .i64 k, .string t, .slice mo mn mc, .slice lo l.length lc, .int .i64 p] 29)).alloc (.cells #[.int .i64 k2, .string t2, .slice mo2 mn2 mc2, .slice lo2 l2.length lc2, .int .i64 p2] 29)).heap[w.heap.size]? = some (Obj.cells #[.map (some bw)] 96 (0, 0)) := (Lib.alloc_old _ _ _ (by simp <;> omega)).trans ((Lib.alloc_old _ _ _ (by simp)).trans (alloc_at _ _))
 have hx1 : (((w.alloc (.cells #[.map (some bw)] 96)).alloc (.cells #[.int .i64 k, .string t, .slice mo mn mc, .slice lo l.length lc, .int .i64 p] 29)).alloc (.cells #[.int .i64 k2, .string t2, .slice mo2 mn2 mc2, .slice lo2 l2.length lc2, .int .i64 p2] 29)).heap[w.heap.size + 1]? = some (Obj.cells #[.int .i64 k, .string t, .slice mo mn mc, .slice lo l.length lc, .int .i64 p] 29 (0, 0)) := (Lib.alloc_old _ _ _ (by simp <;> omega)).trans (second2 _ _ _)
 have hx2 : (((w.alloc (.cells #[.map (some bw)] 96)).alloc (.cells #[.int .i64 k, .string t, .slice mo mn mc, .slice lo l.length lc, .int .i64 p] 29)).alloc (.cells #[.int .i64 k2, .string t2, .slice mo2 mn2 mc2, .slice lo2 l2.length lc2, .int .i64 p2] 29)).heap[w.heap.size + 1 + 1]? = some (Obj.cells #[.int .i64 k2, .string t2, .slice mo2 mn2 mc2, .slice lo2 l2.length lc2, .int .i64 p2] 29 (0, 0)) := by
  have s2 : ((w.alloc (.cells #[.map (some bw)] 96)).alloc (.cells #[.int .i64 k, .string t, .slice mo mn mc, .slice lo l.length lc, .int .i64 p] 29)).heap.size = w.heap.size + 1 + 1 := by simp
  have h := alloc_at ((w.alloc (.cells #[.map (some bw)] 96)).alloc (.cells #[.int .i64 k, .string t, .slice mo mn mc, .slice lo l.length lc, .int .i64 p] 29)) (.cells #[.int .i64 k2, .string t2, .slice mo2 mn2 mc2, .slice lo2 l2.length lc2, .int .i64 p2] 29)
  rw [s2] at h; exact h
 have hs9 : (((w.alloc (.cells #[.map (some bw)] 96)).alloc (.cells #[.int .i64 k, .string t, .slice mo mn mc, .slice lo l.length lc, .int .i64 p] 29)).alloc (.cells #[.int .i64 k2, .string t2, .slice mo2 mn2 mc2, .slice lo2 l2.length lc2, .int .i64 p2] 29)).heap.size = w.heap.size + 3 := by simp
 have HAT := Lib.hid hat0
 have HDAT := Lib.hid hdat0
 have HL := Lib.hid hl
 have HL2 := Lib.hid hl2
 have HOWN := Lib.hid hown
 have HW := Lib.hid hwds
 have HWL := Lib.hid hwl
 have HNOD := Lib.hid hnod
 have HNB := Lib.hid hnb
 have HDD := Lib.hid hddt
 have HEE := Lib.hid heek
 have HEI : Hid (ee.isS t = ((k2 == 3) && (t2.toList == t.toList))) := by show _ = _; rw [hee]; rfl
 clear hat0 hdat0 hwf0 hwf hm hl hm2 hl2 hown hwds hwl hnod hmn hmn2 hnb hddt heek hdd hee hd
 go_enter Try.func53, Try.ntmps53
 go_upto_region 1 with fail
 obtain ⟨X, hX⟩ : ∃ X, X = (((w.alloc (.cells #[.map (some bw)] 96)).alloc (.cells #[.int .i64 k, .string t, .slice mo mn mc, .slice lo l.length lc, .int .i64 p] 29)).alloc (.cells #[.int .i64 k2, .string t2, .slice mo2 mn2 mc2, .slice lo2 l2.length lc2, .int .i64 p2] 29)) := ⟨_, rfl⟩
 rw [← hX] at hb0 hx0 hx1 hx2 hs9
 rw [← hX]
 clear hX
 have HB0 := Lib.hid hb0
 have HX0 := Lib.hid hx0
 have HX1 := Lib.hid hx1
 have HX2 := Lib.hid hx2
 clear hb0 hx0 hx1 hx2
 have y0 : X.cell? ⟨w.heap.size, 0, none⟩ = some (.map (some bw)) := by rw [Lib.cell_of_heap HX0.out]; rfl
 have y10 : X.cell? ⟨w.heap.size + 1, 0, none⟩ = some (.int .i64 k) := by rw [Lib.cell_of_heap HX1.out]; rfl
 have y11 : X.cell? ⟨w.heap.size + 1, 1, none⟩ = some (.string t) := by rw [Lib.cell_of_heap HX1.out]; rfl
 have y12 : X.cell? ⟨w.heap.size + 1, 2, none⟩ = some (.slice mo mn mc) := by rw [Lib.cell_of_heap HX1.out]; rfl
 have y13 : X.cell? ⟨w.heap.size + 1, 3, none⟩ = some (.slice lo l.length lc) := by rw [Lib.cell_of_heap HX1.out]; rfl
 have y14 : X.cell? ⟨w.heap.size + 1, 4, none⟩ = some (.int .i64 p) := by rw [Lib.cell_of_heap HX1.out]; rfl
 go_wp2_with fail
 refine (role_any (Dt.At.keeps (Keeps.of_below HB0.out) _ _ HAT.out) (by rw [HDD.out.1]; exact htz) bw ls (HW.out.below HB0.out HW.out.lt)).mono ?_
 rintro e w3 ⟨rfl, hb3⟩
 clear y0 y10 y11 y12 y13 y14
 have hs3 := hb3.size
 have HX3 := Lib.hid ((hb3.block _ (by omega)).trans HX0.out)
 have HP3 := Lib.hid ((hb3.block _ (by omega)).trans HX1.out)
 have HD3 := Lib.hid ((hb3.block _ (by omega)).trans HX2.out)
 have HB3 := Lib.hid (HB0.out.trans (hb3.mono (by omega)))
 have HO3 := Lib.hid (HOWN.out.below HB3.out)
 have HG3 := Lib.hid (Grw.of_below HB3.out (.slice vo nb vc))
 have hB3 : B ≤ w3.heap.size := by omega
 clear hb3 HX0 HX1 HX2
 obtain ⟨ro, hro⟩ : ∃ r, r = roleOf ls dd := ⟨_, rfl⟩
 rw [← hro] at HMB ⊢
 have HRO := Lib.hid hro
 clear hro
 have y0 : w3.cell? ⟨w.heap.size, 0, none⟩ = some (.map (some bw)) := by rw [Lib.cell_of_heap HX3.out]; rfl
 have y10 : w3.cell? ⟨w.heap.size + 1, 0, none⟩ = some (.int .i64 k) := by rw [Lib.cell_of_heap HP3.out]; rfl
 have y11 : w3.cell? ⟨w.heap.size + 1, 1, none⟩ = some (.string t) := by rw [Lib.cell_of_heap HP3.out]; rfl
 have y12 : w3.cell? ⟨w.heap.size + 1, 2, none⟩ = some (.slice mo mn mc) := by rw [Lib.cell_of_heap HP3.out]; rfl
 have y13 : w3.cell? ⟨w.heap.size + 1, 3, none⟩ = some (.slice lo l.length lc) := by rw [Lib.cell_of_heap HP3.out]; rfl
 have y14 : w3.cell? ⟨w.heap.size + 1, 4, none⟩ = some (.int .i64 p) := by rw [Lib.cell_of_heap HP3.out]; rfl
 have y20 : w3.cell? ⟨w.heap.size + 1 + 1, 0, none⟩ = some (.int .i64 k2) := by rw [Lib.cell_of_heap HD3.out]; rfl
 have y21 : w3.cell? ⟨w.heap.size + 1 + 1, 1, none⟩ = some (.string t2) := by rw [Lib.cell_of_heap HD3.out]; rfl
 have y22 : w3.cell? ⟨w.heap.size + 1 + 1, 2, none⟩ = some (.slice mo2 mn2 mc2) := by rw [Lib.cell_of_heap HD3.out]; rfl
 have y23 : w3.cell? ⟨w.heap.size + 1 + 1, 3, none⟩ = some (.slice lo2 l2.length lc2) := by rw [Lib.cell_of_heap HD3.out]; rfl
 have y24 : w3.cell? ⟨w.heap.size + 1 + 1, 4, none⟩ = some (.int .i64 p2) := by rw [Lib.cell_of_heap HD3.out]; rfl
 have SAME : Hid (∀ res : Option (List Bd), (∀ r, res = some r → r = []) → ∀ W, Below w3.heap.size w3 W → RetR A B w (.slice vo nb vc) bs dd.size res (.returned (.tuple #[.slice vo nb vc, .bool res.isSome])) W) := by
  intro res hres W hW
  exact ⟨_, bs, rfl, HO3.out.below hW, HG3.out.trans (Grw.of_below hW _), fun r h => by rw [hres r h, List.append_nil], Nat.le_add_right _ _⟩
 by_cases h2 : ro = 2
 ·have q2 : (ro == 2) = true := beq_iff_eq.2 h2
  have HR : Hid (mRf ls (n + 1) dd ee = if ((k2 == 3) && (t2.toList == t.toList)) = true then some [] else none) := by show _ = _; rw [HMB.out, if_pos h2, HEI.out]
  clear h2
  go_wp2_with fail
  refine (is_any k2 t2 t _ _ p2 _ _ rfl rfl rfl rfl w3).mono ?_
  rintro e w4 ⟨rfl, hb4⟩
  clear y0 y10 y11 y12 y13 y14 y20 y21 y22 y23 y24
  go_wp2_with fail
  refine bodyPost_ret (results_tmp2 rfl _ _ _) rfl ?_
  have h := SAME.out (mRf ls (n + 1) dd ee) (fun r h => by rw [HR.out] at h; split at h <;> simp_all) w4 hb4
  rw [show ((k2 == 3) && (t2.toList == t.toList)) = (mRf ls (n + 1) dd ee).isSome by rw [HR.out]; cases ((k2 == 3) && (t2.toList == t.toList)) <;> rfl]
  exact h
 ·have q2 : (ro == 2) = false := beq_eq_false_iff_ne.2 h2
  by_cases h3 : ro = 3
  ·have q3 : (ro == 3) = true := beq_iff_eq.2 h3
   have HR : Hid (mRf ls (n + 1) dd ee = some []) := by show _ = _; rw [HMB.out, if_neg h2, if_pos h3]
   clear h2 h3
   go_wp2_with fail
   refine bodyPost_ret (results_tmp2 rfl _ _ _) rfl ?_
   rw [HR.out]
   exact SAME.out _ (fun r h => by injection h with h; exact h.symm) w3 (Below.refl _ _)
  ·have q3 : (ro == 3) = false := beq_eq_false_iff_ne.2 h3
   by_cases h4 : ro = 4
   ·have q4 : (ro == 4) = true := beq_iff_eq.2 h4
    have HR : Hid (mRf ls (n + 1) dd ee = some [.mk dd 0 ee []]) := by show _ = _; rw [HMB.out, if_neg h2, if_neg h3, if_pos h4]
    clear h2 h3 h4
    have hb9 : Below w3.heap.size w3 (w3.alloc (.cells #[.int .i64 k, .string t, .slice mo mn mc, .slice lo l.length lc, .int .i64 p, .int .i64 0, .int .i64 k2, .string t2, .slice mo2 mn2 mc2, .slice lo2 l2.length lc2, .int .i64 p2, .slice none 0 0] 60)) := (Below.refl _ _).alloc (Nat.le_refl _) _
    have hs9 := hb9.size
    have hpd : Bd.OAt (fun g => g < A) (w3.alloc (.cells #[.int .i64 k, .string t, .slice mo mn mc, .slice lo l.length lc, .int .i64 p, .int .i64 0, .int .i64 k2, .string t2, .slice mo2 mn2 mc2, .slice lo2 l2.length lc2, .int .i64 p2, .slice none 0 0] 60)) (.mk dd 0 ee []) (fun _ => False) #[.int .i64 k, .string t, .slice mo mn mc, .slice lo l.length lc, .int .i64 p, .int .i64 0, .int .i64 k2, .string t2, .slice mo2 mn2 mc2, .slice lo2 l2.length lc2, .int .i64 p2, .slice none 0 0] := by
     rw [OAt_mk]
     have hk9 : Keeps (fun g => g < A) w (w3.alloc (.cells #[.int .i64 k, .string t, .slice mo mn mc, .slice lo l.length lc, .int .i64 p, .int .i64 0, .int .i64 k2, .string t2, .slice mo2 mn2 mc2, .slice lo2 l2.length lc2, .int .i64 p2, .slice none 0 0] 60)) := keeps_low ((HB3.out.mono (Nat.le_trans hAB hBw)).trans (hb9.mono (by omega)))
     have ha := Dt.At.keeps hk9 _ _ HAT.out
     have hc := Dt.At.keeps hk9 _ _ HDAT.out
     have hfk := five_is ha
     have hfd := five_is hc
     refine ⟨.slice mo mn mc, .slice lo l.length lc, .slice mo2 mn2 mc2, .slice lo2 l2.length lc2, .slice none 0 0, ?_, ?_, ?_, RowN.nil _ _ _⟩
     ·have h9 := congrArg Array.toList hfk
      have h8 := congrArg Array.toList hfd
      simp only [List.toList_toArray] at h9 h8
      show _ = (dd.five _ _ ++ [Value.int .i64 0] ++ ee.five _ _ ++ [_]).toArray
      rw [← h9, ← h8]; rfl
     ·rw [← hfk]; exact ha
     ·rw [← hfd]; exact hc
    have hB9 : B ≤ (w3.alloc (.cells #[.int .i64 k, .string t, .slice mo mn mc, .slice lo l.length lc, .int .i64 p, .int .i64 0, .int .i64 k2, .string t2, .slice mo2 mn2 mc2, .slice lo2 l2.length lc2, .int .i64 p2, .slice none 0 0] 60)).heap.size := by omega
    obtain ⟨xs, hxo, hsn⟩ := OwnR.snoc (HO3.out.below hb9) hAB hB9 rfl hpd
    have HSN := Lib.hid hsn
    have HXO := Lib.hid hxo
    have HG9 := Lib.hid (HG3.out.trans (Grw.of_below hb9 _))
    have hnl1 : bs.length + 1 ≤ 1000000000 := by omega
    have hAT := alloc_at w3 (.cells #[.int .i64 k, .string t, .slice mo mn mc, .slice lo l.length lc, .int .i64 p, .int .i64 0, .int .i64 k2, .string t2, .slice mo2 mn2 mc2, .slice lo2 l2.length lc2, .int .i64 p2, .slice none 0 0] 60)
    have HNEW : Hid (∀ i u, [.int .i64 k, .string t, .slice mo mn mc, .slice lo l.length lc, .int .i64 p, .int .i64 0, .int .i64 k2, .string t2, .slice mo2 mn2 mc2, .slice lo2 l2.length lc2, .int .i64 p2, .slice none 0 0][i]? = some u → (w3.alloc (.cells #[.int .i64 k, .string t, .slice mo mn mc, .slice lo l.length lc, .int .i64 p, .int .i64 0, .int .i64 k2, .string t2, .slice mo2 mn2 mc2, .slice lo2 l2.length lc2, .int .i64 p2, .slice none 0 0] 60)).cell? ⟨w3.heap.size, i, none⟩ = some u) := fun i u hu => by rw [Lib.cell_of_heap hAT]; simpa using hu
    clear hsn hxo hb9 hs9 hpd hAT
    go_wp2_with (refine wpList_appP rfl (Operand.tmp 26) (Operand.tmp 30) rfl 0 (.slice vo nb vc) bs.length xs rfl HXO.out w3.heap.size 1 rfl [.int .i64 k, .string t, .slice mo mn mc, .slice lo l.length lc, .int .i64 p, .int .i64 0, .int .i64 k2, .string t2, .slice mo2 mn2 mc2, .slice lo2 l2.length lc2, .int .i64 p2, .slice none 0 0] rfl HNEW.out (by simp [Value.oneCell']) hnl1 (Nat.zero_le _) ?_; intro v' w9 h9 hg hv; have H9 := Lib.hid h9; have HGR := Lib.hid hg; have HVV := Lib.hid hv; clear h9 hg hv)
    refine bodyPost_ret (results_tmp2 rfl _ _ _) rfl ?_
    refine ⟨v', bs ++ [.mk dd 0 ee []], by rw [HR.out]; rfl, HSN.out v' w9 H9.out HGR.out HVV.out, HG9.out.trans ⟨HGR.out, ?_⟩, fun r h => by rw [HR.out] at h; injection h with h; rw [← h], by rw [List.length_append]; have := HDD.out.2; simp; omega⟩
    rcases HVV.out with e | e
    ·exact .inl e
    ·exact .inr ⟨_, e, Nat.le_refl _, (H9.out.lt _ e).2⟩
   ·have q4 : (ro == 4) = false := beq_eq_false_iff_ne.2 h4
    have HR : Hid (mRf ls (n + 1) dd ee = if k ≠ k2 then none else if k = 1 ∨ k = 2 then (if (t.toList == t2.toList) = true then some [] else none) else if k = 4 then mL ls (mRf ls n) l l2 else none) := by show _ = _; rw [HMB.out, if_neg h2, if_neg h3, if_neg h4, HEE.out.1, HEE.out.2.1, HEE.out.2.2]
    clear h2 h3 h4
    by_cases hkk : k = k2
    ·have qn : (k != k2) = false := by rw [bne_eq_false_iff_eq]; exact hkk
     have HR2 : Hid (mRf ls (n + 1) dd ee = if k = 1 ∨ k = 2 then (if (t.toList == t2.toList) = true then some [] else none) else if k = 4 then mL ls (mRf ls n) l l2 else none) := by show _ = _; rw [HR.out, if_neg (fun h => h hkk)]
     clear hkk
     by_cases k1 : k = 1
     ·have q1 : (k == 1) = true := beq_iff_eq.2 k1
      have HR3 : Hid (mRf ls (n + 1) dd ee = if (t.toList == t2.toList) = true then some [] else none) := by show _ = _; rw [HR2.out, if_pos (.inl k1)]
      clear k1
      go_upto_region 11 with fail
      clear y0 y10 y12 y13 y14 y20 y22 y23 y24
      have hS0 : w3.drew.heap[w.heap.size + 1]? = some (Obj.cells #[.int .i64 k, .string t, .slice mo mn mc, .slice lo l.length lc, .int .i64 p] 29 (0, 0)) ∧ w3.drew.heap[w.heap.size + 1 + 1]? = some (Obj.cells #[.int .i64 k2, .string t2, .slice mo2 mn2 mc2, .slice lo2 l2.length lc2, .int .i64 p2] 29 (0, 0)) := ⟨HP3.out, HD3.out⟩
      refine wp_region_noPanic ?_
      refine wp_region_held_drew (S := fun W => W.heap[w.heap.size + 1]? = some (Obj.cells #[.int .i64 k, .string t, .slice mo mn mc, .slice lo l.length lc, .int .i64 p] 29 (0, 0)) ∧ W.heap[w.heap.size + 1 + 1]? = some (Obj.cells #[.int .i64 k2, .string t2, .slice mo2 mn2 mc2, .slice lo2 l2.length lc2, .int .i64 p2] 29 (0, 0))) (by kernel_rfl) hS0 (fun hHeld => ?_)
      clear y11 y21
      have hbd : Below w3.heap.size w3 w3.drew := (Below.refl _ _).drew
      generalize w3.drew = V at hHeld hbd ⊢
      clear hS0
      refine qts [0, 1, 2, 3, 4, 5, 6, 7] hHeld ?_
      iterate 2 (refine qtc (v := ?_) rfl rfl (fun w' hw' => ?_) ?_; rotate_left; (focus (go_simp; try with_reducible rfl)); simp only [zt,zs,zz,Act.put,zi,zy,zx])
      (refine qtc (v := ?_) rfl rfl (fun w' hw' => ?_) ?_; rotate_left; (focus ((have e1 := Lib.cell_of_heap hw'.1 1; have e2 := Lib.cell_of_heap hw'.2 1; simp only [List.getElem?_toArray, List.getElem?_cons_succ, List.getElem?_cons_zero] at e1 e2; go_simp); try with_reducible rfl)); simp only [zt,zs,zz,Act.put,zi,zy,zx])
      (refine qtc (v := ?_) rfl rfl (fun w' hw' => ?_) ?_; rotate_left; (focus (go_simp; try with_reducible rfl)); simp only [zt,zs,zz,Act.put,zi,zy,zx])
      (refine qtc (v := ?_) rfl rfl (fun w' hw' => ?_) ?_; rotate_left; (focus ((have e1 := Lib.cell_of_heap hw'.1 1; have e2 := Lib.cell_of_heap hw'.2 1; simp only [List.getElem?_toArray, List.getElem?_cons_succ, List.getElem?_cons_zero] at e1 e2; go_simp); try with_reducible rfl)); simp only [zt,zs,zz,Act.put,zi,zy,zx])
      iterate 3 (refine qtc (v := ?_) rfl rfl (fun w' hw' => ?_) ?_; rotate_left; (focus (go_simp; try with_reducible rfl)); simp only [zt,zs,zz,Act.put,zi,zy,zx])
      refine qtn ?_
      simp only [zt,zs,zz,Act.put,zi,zy,zx,qzl,qzn,qza,Nat.reduceAdd,Nat.reduceSub]
      refine wpAnyH_done (by kernel_rfl) ?_ _
      refine NoPanic.normal ?_
      clear hHeld
      go_wp2_with fail
      refine bodyPost_ret (results_tmp2 rfl _ _ _) rfl ?_
      have h := SAME.out (mRf ls (n + 1) dd ee) (fun r h => by rw [HR3.out] at h; split at h <;> simp_all) V hbd
      rw [show (t.toList == t2.toList) = (mRf ls (n + 1) dd ee).isSome by rw [HR3.out]; cases (t.toList == t2.toList) <;> rfl]
      exact h
     ·have q1 : (k == 1) = false := beq_eq_false_iff_ne.2 k1
      by_cases k22 : k = 2
      ·have q22 : (k == 2) = true := beq_iff_eq.2 k22
       have HR3 : Hid (mRf ls (n + 1) dd ee = if (t.toList == t2.toList) = true then some [] else none) := by show _ = _; rw [HR2.out, if_pos (.inr k22)]
       clear k1 k22
       go_upto_region 11 with fail
       clear y0 y10 y12 y13 y14 y20 y22 y23 y24
       have hS0 : w3.drew.heap[w.heap.size + 1]? = some (Obj.cells #[.int .i64 k, .string t, .slice mo mn mc, .slice lo l.length lc, .int .i64 p] 29 (0, 0)) ∧ w3.drew.heap[w.heap.size + 1 + 1]? = some (Obj.cells #[.int .i64 k2, .string t2, .slice mo2 mn2 mc2, .slice lo2 l2.length lc2, .int .i64 p2] 29 (0, 0)) := ⟨HP3.out, HD3.out⟩
       refine wp_region_noPanic ?_
       refine wp_region_held_drew (S := fun W => W.heap[w.heap.size + 1]? = some (Obj.cells #[.int .i64 k, .string t, .slice mo mn mc, .slice lo l.length lc, .int .i64 p] 29 (0, 0)) ∧ W.heap[w.heap.size + 1 + 1]? = some (Obj.cells #[.int .i64 k2, .string t2, .slice mo2 mn2 mc2, .slice lo2 l2.length lc2, .int .i64 p2] 29 (0, 0))) (by kernel_rfl) hS0 (fun hHeld => ?_)
       clear y11 y21
       have hbd : Below w3.heap.size w3 w3.drew := (Below.refl _ _).drew
       generalize w3.drew = V at hHeld hbd ⊢
       clear hS0
       refine qts [0, 1, 2, 3, 4, 5, 6, 7] hHeld ?_
       iterate 2 (refine qtc (v := ?_) rfl rfl (fun w' hw' => ?_) ?_; rotate_left; (focus (go_simp; try with_reducible rfl)); simp only [zt,zs,zz,Act.put,zi,zy,zx])
       (refine qtc (v := ?_) rfl rfl (fun w' hw' => ?_) ?_; rotate_left; (focus ((have e1 := Lib.cell_of_heap hw'.1 1; have e2 := Lib.cell_of_heap hw'.2 1; simp only [List.getElem?_toArray, List.getElem?_cons_succ, List.getElem?_cons_zero] at e1 e2; go_simp); try with_reducible rfl)); simp only [zt,zs,zz,Act.put,zi,zy,zx])
       (refine qtc (v := ?_) rfl rfl (fun w' hw' => ?_) ?_; rotate_left; (focus (go_simp; try with_reducible rfl)); simp only [zt,zs,zz,Act.put,zi,zy,zx])
       (refine qtc (v := ?_) rfl rfl (fun w' hw' => ?_) ?_; rotate_left; (focus ((have e1 := Lib.cell_of_heap hw'.1 1; have e2 := Lib.cell_of_heap hw'.2 1; simp only [List.getElem?_toArray, List.getElem?_cons_succ, List.getElem?_cons_zero] at e1 e2; go_simp); try with_reducible rfl)); simp only [zt,zs,zz,Act.put,zi,zy,zx])
       iterate 3 (refine qtc (v := ?_) rfl rfl (fun w' hw' => ?_) ?_; rotate_left; (focus (go_simp; try with_reducible rfl)); simp only [zt,zs,zz,Act.put,zi,zy,zx])
       refine qtn ?_
       simp only [zt,zs,zz,Act.put,zi,zy,zx,qzl,qzn,qza,Nat.reduceAdd,Nat.reduceSub]
       refine wpAnyH_done (by kernel_rfl) ?_ _
       refine NoPanic.normal ?_
       clear hHeld
       go_wp2_with fail
       refine bodyPost_ret (results_tmp2 rfl _ _ _) rfl ?_
       have h := SAME.out (mRf ls (n + 1) dd ee) (fun r h => by rw [HR3.out] at h; split at h <;> simp_all) V hbd
       rw [show (t.toList == t2.toList) = (mRf ls (n + 1) dd ee).isSome by rw [HR3.out]; cases (t.toList == t2.toList) <;> rfl]
       exact h
      ·have q22 : (k == 2) = false := beq_eq_false_iff_ne.2 k22
       by_cases k4 : k = 4
       ·have q44 : (k == 4) = true := beq_iff_eq.2 k4
        have HR3 : Hid (mRf ls (n + 1) dd ee = mL ls (mRf ls n) l l2) := by show _ = _; rw [HR2.out, if_neg (fun h => h.elim k1 k22), if_pos k4]
        clear k1 k22 k4
        go_wp2_with fail
        refine (HLC.out l l2 hszl HNOD.out HWL.out A B bw ls _ _ _ bs w3 hAB hB3 (HL.out.keeps (keeps_low (HB3.out.mono (Nat.le_trans hAB hBw)))) (HL2.out.keeps (keeps_low (HB3.out.mono (Nat.le_trans hAB hBw)))) (HW.out.below HB3.out HW.out.lt) hbw HO3.out (by have := HDD.out.2; omega) HDSZ.out heel).mono ?_
        rintro e w4 ⟨v', bs', rfl, ho4, hg4, hr4, hl4⟩
        clear y0 y10 y11 y12 y13 y14 y20 y21 y22 y23 y24
        have HO4 := Lib.hid ho4
        have HG4 := Lib.hid hg4
        have HR4 := Lib.hid hr4
        clear ho4 hg4 hr4
        go_wp2_with fail
        refine bodyPost_ret (results_tmp2 rfl _ _ _) rfl ?_
        rw [HR3.out]
        exact ⟨v', bs', rfl, HO4.out, HG3.out.trans HG4.out, HR4.out, by have := HDD.out.2; omega⟩
       ·have q44 : (k == 4) = false := beq_eq_false_iff_ne.2 k4
        have HR3 : Hid (mRf ls (n + 1) dd ee = none) := by show _ = _; rw [HR2.out, if_neg (fun h => h.elim k1 k22), if_neg k4]
        clear k1 k22 k4
        go_wp2_with fail
        refine bodyPost_ret (results_tmp2 rfl _ _ _) rfl ?_
        rw [HR3.out]
        exact SAME.out none (fun r h => by cases h) w3 (Below.refl _ _)
    ·have qn : (k != k2) = true := by rw [bne_iff_ne]; exact hkk
     have HR2 : Hid (mRf ls (n + 1) dd ee = none) := by show _ = _; rw [HR.out, if_pos hkk]
     clear hkk
     go_wp2_with fail
     refine bodyPost_ret (results_tmp2 rfl _ _ _) rfl ?_
     rw [HR2.out]
     exact SAME.out none (fun r h => by cases h) w3 (Below.refl _ _)
end Go.Proofs.Ytecljchifebljaa
namespace Go.Proofs.Ytecljchifebljaa
open Go Go.RowKit
attribute [local go_sem] Oper.semAt_some
def EnInv (n A B bw : Nat) (ls : List ByteArray) (ps ds : List Dt) (bs : List Bd) (w : World) (v : Value) (v' isv iv : Value) (W : World) : Prop :=
 ∃ (i : Nat) (b : Bool) (bs' : List Bd), isv = .bool b ∧ iv = .int .i64 (i : Int) ∧ i ≤ ps.length ∧ OwnR A B W v' bs' ∧ Grw w W v v' ∧ (∃ fz, W.heap[w.heap.size]? = some (Obj.cells #[.map (some bw)] 96 fz)) ∧ bs'.length + Dt.sizes (ps.drop i) ≤ bs.length + Dt.sizes ps ∧
  (b = true → ps.length = ds.length ∧ ∃ r0, bs' = bs ++ r0 ∧ mE (mRf ls n) ps ds = (mE (mRf ls n) (ps.drop i) (ds.drop i)).map (r0 ++ ·)) ∧ (b = false → mE (mRf ls n) ps ds = none)
set_option maxHeartbeats 16000000 in
set_option maxRecDepth 100000 in
theorem eachR_of (n : Nat) (hn : n ≤ 1000000) (hM : MatchR n) : EachR n := by
 intro ps ds hsz hnod hwf A B bw ls v pv dv bs w hAB hBw hp hd hwds hbw hown hlen hds hdl
 have HM := Lib.hid hM
 have HP := Lib.hid hp
 have HD := Lib.hid hd
 have HW := Lib.hid hwds
 have HOWN := Lib.hid hown
 have HNOD := Lib.hid hnod
 have HWF := Lib.hid hwf
 have HDS := Lib.hid hds
 obtain ⟨po, pc, rfl⟩ := hp.form
 obtain ⟨dq, dc, rfl⟩ := hd.form
 have hpl := length_sizes ps
 obtain ⟨vo, vc, hvf⟩ := hown.form
 have HLOW := Lib.hid (fun x hx => (hown.low x hx).1)
 have hb0 : Below w.heap.size w (w.alloc (.cells #[.map (some bw)] 96)) := (Below.refl _ _).alloc (Nat.le_refl _) _
 have hx0 := alloc_at w (.cells #[.map (some bw)] 96)
 have hs0 : (w.alloc (.cells #[.map (some bw)] 96)).heap.size = w.heap.size + 1 := by simp
 have HI : Hid (∀ b : Bool, (b = true → ps.length = ds.length) → (b = false → ps.length ≠ ds.length) → EnInv n A B bw ls ps ds bs w v v (.bool b) (.int .i64 0) (w.alloc (.cells #[.map (some bw)] 96))) := by
  intro b h1 h2
  refine ⟨0, b, bs, rfl, rfl, Nat.zero_le _, hown.below hb0, Grw.of_below hb0 v, ⟨_, hx0⟩, by simp, fun h => ⟨h1 h, [], by simp, ?_⟩, fun h => mE_len _ ps ds (h2 h)⟩
  simp only [List.drop_zero, List.nil_append]
  cases mE (mRf ls n) ps ds <;> rfl
 subst hvf
 obtain ⟨nb0, hnb0⟩ : ∃ n, n = bs.length := ⟨_, rfl⟩
 rw [← hnb0] at HI HOWN HLOW ⊢
 have HNB0 := Lib.hid hnb0
 clear hnb0
 clear hM hp hd hwds hown hnod hwf hds hb0 hx0 hs0
 go_enter Try.func90, Try.ntmps90
 go_wp2_with fail
 obtain ⟨b0, qe⟩ : ∃ b : Bool, ((ps.length : Int) == (ds.length : Int)) = b := ⟨_, rfl⟩
 have H0 := Lib.hid (HI.out b0 (fun h => by rw [h, beq_iff_eq] at qe; omega) (fun h => by rw [h, beq_eq_false_iff_ne] at qe; omega))
 go_wp2_with fail
 go_loopw [1, 10, 11] (fun v' isv iv wr => EnInv n A B bw ls ps ds bs w (.slice vo nb0 vc) v' isv iv wr) (fun _ _ iv _ => ps.length - (intOf iv).toNat)
 case atStart => first | exact H0.out | (rw [qe]; exact H0.out)
 case round =>
  clear H0 qe
  obtain ⟨j, b, bs', rfl, rfl, hj, ho, hg, ⟨fz9, hx⟩, hlb, ht, hf⟩ := hrel
  have HO := Lib.hid ho
  have HG := Lib.hid hg
  have HX := Lib.hid hx
  have HT := Lib.hid ht
  have HF := Lib.hid hf
  obtain ⟨vo', vc', hvf⟩ := ho.form
  obtain ⟨nb', hnb'⟩ : ∃ n, n = bs'.length := ⟨_, rfl⟩
  rw [← hnb'] at hvf
  subst hvf
  have HNB' := Lib.hid hnb'
  have hlowv := Lib.hid (fun x hx => (ho.low x hx).1)
  have hsr := hg.1.size
  clear hnb' ho hg hx ht hf
  cases b with
  | false =>
   have HN := Lib.hid (HF.out rfl)
   go_wp2_with fail
   refine bodyPost_ret (results_tmp2 rfl _ _ _) rfl ?_
   exact ⟨_, bs', by rw [HN.out]; rfl, HO.out, HG.out, fun r h => (by rw [HN.out] at h; cases h), by omega⟩
  | true =>
   obtain ⟨hleq, r0, hr0, hrest⟩ := HT.out rfl
   by_cases hlt : j < ps.length
   ·have q1 : decide ((j : Int) < (ps.length : Int)) = true := decide_eq_true (by omega)
    have hBW : Below B w wr := HG.out.below hBw (fun x hx => HLOW.out x hx)
    have hlt2 : j < ds.length := by omega
    have HLEQ := Lib.hid hleq
    clear hleq
    obtain ⟨g, o, k, t, mv, lv, p, he, hS, _, hat, e0, e1, e2, e3, e4, o5, o6⟩ := (HP.out.keeps (keeps_low (hBW.mono hAB))).get j hlt
    obtain ⟨g2, o2, k2, t2, mv2, lv2, p2, he2, hS2, _, hat2, e20, e21, e22, e23, e24, o25, o26⟩ := (HD.out.keeps (keeps_low (hBW.mono hAB))).get j hlt2
    first | subst he | (simp only [Option.some.injEq, Addr.mk.injEq, and_true] at he; obtain ⟨rfl, rfl⟩ := he)
    first | subst he2 | (simp only [Option.some.injEq, Addr.mk.injEq, and_true] at he2; obtain ⟨rfl, rfl⟩ := he2)
    have hsj := size_get ps j hlt
    have hwj := wfs_get HWF.out j hlt
    have hnj := HNOD.out ps[j] (List.getElem_mem hlt)
    have hdz := HDS.out ds[j] (List.getElem_mem hlt2)
    have hdr : Dt.sizes (ps.drop j) = (ps[j]).size + Dt.sizes (ps.drop (j + 1)) := by rw [List.drop_eq_getElem_cons hlt]; simp only [Dt.sizes]
    have hmc := mE_cons (mRf ls n) ps[j] ds[j] (ps.drop (j + 1)) (ds.drop (j + 1))
    rw [← List.drop_eq_getElem_cons hlt, ← List.drop_eq_getElem_cons hlt2] at hmc
    rw [hmc] at hrest
    obtain ⟨pj, hpj⟩ : ∃ d, d = ps[j] := ⟨_, rfl⟩
    obtain ⟨dj, hdj⟩ : ∃ d, d = ds[j] := ⟨_, rfl⟩
    rw [← hpj, ← hdj] at hrest
    rw [← hpj] at hat hsj hwj hnj hdr
    rw [← hdj] at hat2 hdz
    have HREST := Lib.hid hrest
    have HR0 := Lib.hid hr0
    have HC : Hid (∀ w', KeepsB (fun g => g < A ∨ g = w.heap.size) wr w' → w'.cell? ⟨w.heap.size, 0, none⟩ = some (.map (some bw)) ∧ (w'.cell? ⟨g, o + j * 5, none⟩ = some (.int .i64 k) ∧ w'.cell? ⟨g, o + j * 5 + 1, none⟩ = some (.string t) ∧ w'.cell? ⟨g, o + j * 5 + 2, none⟩ = some mv ∧ w'.cell? ⟨g, o + j * 5 + 3, none⟩ = some lv ∧ w'.cell? ⟨g, o + j * 5 + 4, none⟩ = some (.int .i64 p)) ∧
      (w'.cell? ⟨g2, o2 + j * 5, none⟩ = some (.int .i64 k2) ∧ w'.cell? ⟨g2, o2 + j * 5 + 1, none⟩ = some (.string t2) ∧ w'.cell? ⟨g2, o2 + j * 5 + 2, none⟩ = some mv2 ∧ w'.cell? ⟨g2, o2 + j * 5 + 3, none⟩ = some lv2 ∧ w'.cell? ⟨g2, o2 + j * 5 + 4, none⟩ = some (.int .i64 p2))) := by
     intro w' h
     have c := h.cell (.inr rfl) (show wr.cell? ⟨w.heap.size, 0, none⟩ = some (.map (some bw)) by rw [Lib.cell_of_heap HX.out]; rfl)
     exact ⟨c, ⟨h.cell (.inl hS) e0, h.cell (.inl hS) e1, h.cell (.inl hS) e2, h.cell (.inl hS) e3, h.cell (.inl hS) e4⟩, h.cell (.inl hS2) e20, h.cell (.inl hS2) e21, h.cell (.inl hS2) e22, h.cell (.inl hS2) e23, h.cell (.inl hS2) e24⟩
    have HAT := Lib.hid hat
    have HAT2 := Lib.hid hat2
    have HWJ := Lib.hid hwj
    have HBW := Lib.hid hBW
    clear e0 e1 e2 e3 e4 e20 e21 e22 e23 e24 hS hS2 hat hat2 hpj hdj hmc hrest hr0 hwj hBW
    go_upto_region 5 with fail
    refine wp_region_noPanic ?_
    refine wp_region_held_drew (S := KeepsB (fun g => g < A ∨ g = w.heap.size) wr) (by kernel_rfl) (KeepsB.of_below ((Below.refl _ _).drew)) (fun hHeld => ?_)
    have hbd : Below wr.heap.size wr wr.drew := (Below.refl _ _).drew
    generalize wr.drew = V at hHeld hbd ⊢
    have HBD := Lib.hid hbd
    have hsd := hbd.size
    clear hbd
    refine qts [0, 1, 2, 3, 4, 5, 6, 7, 8, 9] hHeld ?_
    iterate 10 (refine qtc (v := ?_) rfl rfl (fun w' hw' => ?_) ?_; rotate_left; (focus ((obtain ⟨c0, ⟨e0, e1, e2, e3, e4⟩, e20, e21, e22, e23, e24⟩ := HC.out w' hw'; go_simp); try with_reducible rfl)); simp only [zt,zs,zz,Act.put,zi,zy,zx])
    refine qtn ?_
    simp only [zt,zs,zz,Act.put,zi,zy,zx,qzl,qzn,qza,Nat.reduceAdd,Nat.reduceSub]
    refine wpAnyH_ready (rs := [10]) (by kernel_rfl) (by simp) ?_
    refine (AllReadyH.cons rfl (fun K hK => ?_) AllReadyH.nil)
    go_simp
    refine (HM.out pj dj (by omega) hnj HWJ.out A B bw ls _ _ _ bs' V hAB (by omega) (Dt.At.keeps (Keeps.of_below HBD.out) _ _ HAT.out) (Dt.At.keeps (Keeps.of_below HBD.out) _ _ HAT2.out) ((HW.out.below HBW.out (Nat.lt_of_lt_of_le hbw hAB)).below HBD.out (by omega)) hbw (HO.out.below HBD.out) (by have := HNB'.out; omega) hdz).mono ?_
    rintro e w6 ⟨v6, bs6, rfl, ho6, hg6, hr6, hl6⟩
    have hS6 : KeepsB (fun g => g < A ∨ g = w.heap.size) wr w6 := KeepsB.trans hHeld (KeepsB.of_grown hg6.1 (fun g hs e => by have hlo := hlowv.out g e.symm; rcases hs with h | h; (· have : g < A := h; omega); subst h; exact (HO.out.ne_block HX.out (by decide)).elim (fun h => by rw [h] at e; cases e) (fun h => h e.symm)))
    have HO6 := Lib.hid ho6
    have HG6 := Lib.hid hg6
    have HR6 := Lib.hid hr6
    obtain ⟨vo6, vc6, hv6⟩ := ho6.form
    subst hv6
    have hX6 := hS6 _ _ _ _ (.inr rfl) HX.out
    clear ho6 hg6 hr6
    refine hK.out _ _ hS6 (fun hHeld => ?_)
    clear hK K
    try simp only [zt,zs,zz,Act.put,zi,zy,zx]
    refine qts [11, 12, 13, 14, 15] hHeld ?_
    iterate 5 (refine qtc (v := ?_) rfl rfl (fun w' hw' => ?_) ?_; rotate_left; (focus (go_simp; try with_reducible rfl)); simp only [zt,zs,zz,Act.put,zi,zy,zx])
    refine qtn ?_
    simp only [zt,zs,zz,Act.put,zi,zy,zx,qzl,qzn,qza,Nat.reduceAdd,Nat.reduceSub]
    refine wpAnyH_done (by kernel_rfl) ?_ _
    refine NoPanic.normal ?_
    clear hHeld
    obtain ⟨b6, hb6⟩ : ∃ b, b = (mRf ls n pj dj).isSome := ⟨_, rfl⟩
    rw [← hb6]
    have HB6 := Lib.hid hb6
    obtain ⟨n6, hn6⟩ : ∃ n, n = bs6.length := ⟨_, rfl⟩
    rw [← hn6]
    rw [← hn6] at HO6 HG6
    have HN6 := Lib.hid hn6
    clear hb6 hn6
    go_wp2_with fail
    go_roundw
    case rel =>
     have hgw : Grw w w6 (.slice vo nb0 vc) (.slice vo6 n6 vc6) := (HG.out.trans (Grw.of_below HBD.out _)).trans HG6.out
     have hinv : EnInv n A B bw ls ps ds bs w (.slice vo nb0 vc) (.slice vo6 n6 vc6) (.bool b6) (.int .i64 ((j + 1 : Nat) : Int)) w6 := by
      refine ⟨j + 1, b6, bs6, rfl, rfl, by omega, HO6.out, hgw, hX6, by have := HN6.out; omega, fun h => ⟨HLEQ.out, ?_⟩, fun h => ?_⟩
      ·rw [HB6.out] at h
       obtain ⟨r, hr⟩ := Option.isSome_iff_exists.1 h
       refine ⟨r0 ++ r, by rw [HR6.out r hr, HR0.out, List.append_assoc], ?_⟩
       rw [HREST.out, hr]
       cases mE (mRf ls n) (ps.drop (j + 1)) (ds.drop (j + 1)) <;> simp
      ·rw [HB6.out] at h
       rw [HREST.out, Option.isSome_eq_false_iff.1 h |> Option.isNone_iff_eq_none.1]
       rfl
     first | exact hinv | exact ⟨_, _, _, hinv, rfl, rfl, by go_num⟩ | exact ⟨_, _, _, hinv, rfl, rfl, rfl⟩
    case measure => simp [intOf]; omega
   ·obtain rfl : j = ps.length := by omega
    have q1 : decide ((ps.length : Int) < (ps.length : Int)) = false := decide_eq_false (by omega)
    have HR : Hid (mE (mRf ls n) ps ds = some r0) := by
     show _ = _
     rw [hrest, List.drop_length, show ds.drop ps.length = [] from List.drop_eq_nil_of_le (by omega), show mE (mRf ls n) [] [] = some [] by rw [mE]]
     simp
    have HR0 := Lib.hid hr0
    clear hrest hr0
    go_wp2_with fail
    refine bodyPost_ret (results_tmp2 rfl _ _ _) rfl ?_
    exact ⟨_, bs', by rw [HR.out]; rfl, HO.out, HG.out, fun r h => (by rw [HR.out] at h; injection h with h; rw [← h]; exact HR0.out), by omega⟩
end Go.Proofs.Ytecljchifebljaa
namespace Go.Proofs.Ytecljchifebljaa
open Go Go.RowKit
theorem ownsRow_base0 {w : World} {B e size : Nat} {v : Value} {n : Nat} {xs : List Value} (h : w.ownsRow B e size v n xs) : w.ownsRow 0 e size v n xs := by
 refine ⟨h.1, ?_⟩
 rcases h.2 with hn | ⟨g, cap, cur, rfl, hb, r⟩
 ·exact .inl hn
 ·exact .inr ⟨g, cap, cur, rfl, Nat.zero_le _, r⟩
theorem below_none {w w' : World} (h : w.grownBy w' none) : Below w.heap.size w w' := ⟨h.os, h.tape, h.output, h.size, fun k hk => h.block k hk (by simp)⟩
/-- The first j bindings have a row of their own (an empty one); the others are as variables left them. -/
def E1 (A : Nat) (bs : List Bd) (j : Nat) (W : World) (i : Nat) (G : Nat → Prop) (cs : Array Value) : Prop :=
 ∃ b, bs[i]? = some b ∧ (i < j → Bd.OAt (fun g => g < A) W b G cs) ∧ (j ≤ i → Bd.PAt (fun g => g < A) W b cs)
/-- All have. -/
def EO (A : Nat) (bs : List Bd) (W : World) (i : Nat) (G : Nat → Prop) (cs : Array Value) : Prop := ∃ b, bs[i]? = some b ∧ Bd.OAt (fun g => g < A) W b G cs
def FW (K : Nat) (W : World) (x : Nat) : Prop := K ≤ x ∧ x < W.heap.size
theorem OwnPI.rowC {A B K : Nat} {w : World} {v : Value} {bs : List Bd} (h : OwnPI (fun g => g < A) B w v bs) (hv : ∀ x, v.ownBlock = some x → K ≤ x) : RowC (FW K w) (E1 A bs 0 w) w v bs.length (fun _ => 0) := by
 obtain ⟨xs, h1, h2⟩ := h
 refine ⟨xs, ownsRow_base0 h1, fun g e => ⟨hv g e, (h1.lt g e).2⟩, fun j hj => ?_⟩
 obtain ⟨cs, k1, k2, k3⟩ := h2 j hj
 exact ⟨cs, k1, k2, bs[j], List.getElem?_eq_getElem hj, fun h => absurd h (by omega), fun _ => k3⟩
theorem RowC.all {A K : Nat} {W : World} {v : Value} {bs : List Bd} {c : Nat → Nat} (h : RowC (FW K W) (E1 A bs bs.length W) W v bs.length c) : RowC (FW K W) (EO A bs W) W v bs.length c :=
 h.map (fun _ _ => rfl) (fun _ h => h) (fun j G G' cs hj _ hGG h => by
  obtain ⟨b, hb, h1, _⟩ := h
  exact ⟨b, hb, Bd.OAt.mono (fun _ h => h) _ _ _ _ hGG (h1 hj)⟩)
theorem cells12_last {n d : Dt} {q : Int} {m1 l1 m2 l2 lv u : Value} : ((n.five m1 l1 ++ [Value.int .i64 q] ++ d.five m2 l2 ++ [lv]).toArray).setIfInBounds 11 u = (n.five m1 l1 ++ [Value.int .i64 q] ++ d.five m2 l2 ++ [u]).toArray := by
 unfold Dt.five; rfl
/-- A round of the first loop: an empty row is made, and laid into the j-th binding. -/
theorem row_made {A K : Nat} {W Wm : World} {g m cap j k : Nat} {bs : List Bd} {cur cs : Array Value} {c : Nat → Nat} (hAK : A ≤ K) (h : RowC (FW K W) (E1 A bs j W) W (.slice (some ⟨g, 0, none⟩) m cap) m c) (hj : j < m)
  (hg : W.heap[g]? = some (.cells cur 60 (0, 0))) (hgK : K ≤ g) (hcl : m * 12 ≤ cur.size) (h5 : cs.size = 12) (hin : ∀ t, t < 12 → cur[12 * j + t]? = cs[t]?) (hb : ∃ b, bs[j]? = some b ∧ b.rows = [] ∧ Bd.PAt (fun g => g < A) W b cs)
  (hm : Wm.ownsRow 0 60 12 (.slice (some ⟨W.heap.size, 0, none⟩) 0 k) 0 []) (hgm : W.grownBy Wm none) :
  ∃ c', RowC (FW K (Wm.setCell ⟨g, 12 * j + 11, none⟩ (.slice (some ⟨W.heap.size, 0, none⟩) 0 k))) (E1 A bs (j + 1) (Wm.setCell ⟨g, 12 * j + 11, none⟩ (.slice (some ⟨W.heap.size, 0, none⟩) 0 k))) (Wm.setCell ⟨g, 12 * j + 11, none⟩ (.slice (some ⟨W.heap.size, 0, none⟩) 0 k)) (.slice (some ⟨g, 0, none⟩) m cap) m c' := by
 have hgs : g < W.heap.size := (Array.getElem?_eq_some_iff.1 hg).1
 have hbm : Below W.heap.size W Wm := below_none hgm
 have hgm' : Wm.heap[g]? = some (.cells cur 60 (0, 0)) := (hbm.block _ hgs).trans hg
 have hnew := hm.lt W.heap.size rfl
 generalize hW' : Wm.setCell ⟨g, 12 * j + 11, none⟩ (.slice (some ⟨W.heap.size, 0, none⟩) 0 k) = W'
 have hg' : W'.heap[g]? = some (.cells (cur.setIfInBounds (12 * j + 11) (.slice (some ⟨W.heap.size, 0, none⟩) 0 k)) 60 (0, 0)) := by rw [← hW']; exact heap_setCell_same _ _ _ _ _ _ hgm'
 have hot : ∀ x, x ≠ g → W'.heap[x]? = Wm.heap[x]? := fun x hx => by rw [← hW']; exact heap_setCell_other _ _ _ _ hx
 have hsz : W'.heap.size = Wm.heap.size := by rw [← hW']; simp
 have hold : ∀ x, x < W.heap.size → x ≠ g → W'.heap[x]? = W.heap[x]? := fun x hx hxg => (hot x hxg).trans (hbm.block _ hx)
 have hkA : KeepsB (fun g => g < A) W W' := fun x cc T fz hs hx => ⟨fz, by rw [hold x (Array.getElem?_eq_some_iff.1 hx).1 (by have : x < A := hs; omega)]; exact hx⟩
 obtain ⟨s1, s2, s3, s4⟩ := cells12_set (cur := cur) (cs := cs) (i := j) (u := .slice (some ⟨W.heap.size, 0, none⟩) 0 k) 11 (by decide) h5 (by omega) hin
 classical
 refine ⟨_, RowC.put (G := fun x => x = W.heap.size) (cs' := cs.setIfInBounds 11 (.slice (some ⟨W.heap.size, 0, none⟩) 0 k)) h hj hg hg' s1 s2 s3 s4 (fun x hx => ⟨hx.1, by rw [hsz]; have := hbm.size; have := hx.2; omega⟩) (fun x hx hF => by have := hF.2; omega) ?_ ?_⟩
 ·rintro i G G' cc hi hne hG hGG ⟨b, hb1, hb2, hb3⟩
  refine ⟨b, hb1, fun hlt => ?_, fun hle => Bd.PAt.keeps hkA _ _ (hb3 (by omega))⟩
  refine Bd.OAt.mono (fun _ h => h) _ _ _ _ hGG (Bd.OAt.keeps hkA _ _ _ (fun x hx => ?_) (hb2 (by omega)))
  have := hG x hx
  exact hold x this.1.2 (fun e => this.2.1 e.symm)
 ·obtain ⟨b, hb1, hb2, hb3⟩ := hb
  refine ⟨b, hb1, fun _ => ?_, fun h => absurd h (by omega)⟩
  obtain ⟨n, q, d, l⟩ := b
  have hb2 : l = [] := hb2
  subst hb2
  rw [BdPAt_mk] at hb3
  obtain ⟨m1, l1, m2, l2, lv, rfl, hn, hd, _⟩ := hb3
  rw [cells12_last, OAt_mk]
  refine ⟨m1, l1, m2, l2, _, rfl, hn.keeps hkA.keeps, hd.keeps hkA.keeps, [], fun _ => 0, ?_, fun x hx => ?_, by unfold Bds.OAt; trivial⟩
  ·exact ownsRow_same hm (fun x hx => by
    simp only [Value.ownBlock, Option.some.injEq] at hx
    subst hx
    exact hot _ (by omega))
  ·simp only [Value.ownBlock, Option.some.injEq] at hx
   subst hx
   exact ⟨⟨by omega, by rw [hsz]; exact hnew.2⟩, by omega, if_pos rfl⟩
end Go.Proofs.Ytecljchifebljaa
