/- Rules: the program's rows of bindings: one more; the iterator of what is no list; the variables as bindings. -/
import Derived.Test.YtecljchifebljaaYAM
import Derived.Test.YtecljchifebljaaYAL
import Derived.Test.YtecljchifebljaaYAE
import Derived.Test.YtecljchifebljaaYAB
import Derived.Maps.OwnSet
import Derived.Maps.Own
import Derived.StringKeys
import Derived.Test.YtecljchifebljaaYAA
set_option linter.unusedVariables false
set_option linter.unusedSimpArgs false
namespace Go.Proofs.Ytecljchifebljaa
open Go Go.RowKit
theorem run_appP (w : World) (B ty : Nat) (v : Value) (n : Nat) (xs : List Value) (hown : w.ownsRow B 60 12 v n xs) (g0 c : Nat) (news : List Value) (hl : news.length = 12)
  (hnews : ∀ j u, news[j]? = some u → w.cell? ⟨g0, j, none⟩ = some u) (h1 : ∀ u ∈ news, u.oneCell' = true) (hn : n + 1 ≤ 1000000000) (hB : B ≤ w.heap.size) :
  ∃ v' w', (Builtin.append_ #[40, 40] ty #[v, .slice (some ⟨g0, 0, none⟩) 1 c]).run Try.prog w = .ok v' w' ∧ w'.ownsRow B 60 12 v' (n + 1) (xs ++ news) ∧ w.grownBy w' v.ownBlock ∧ (v'.ownBlock = v.ownBlock ∨ v'.ownBlock = some w.heap.size) := by
 obtain ⟨i, hi, hz, hs, hb⟩ := info_parts infoP12
 have hnews' : ∀ j u, news[j]? = some u → w.cell? ((⟨g0, 0, none⟩ : Addr).add j) = some u := by
  intro j u hu
  have e : (⟨g0, 0, none⟩ : Addr).add j = ⟨g0, j, none⟩ := by unfold Addr.add; split <;> simp_all
  rw [e]; exact hnews j u hu
 have hl1 : news.length = 1 * 12 := by omega
 obtain ⟨v', w', hr, h2, h3, _⟩ := run_append_own (P := Try.prog) w B 40 ty 60 i (.agg ZPB) 12 192 Try.underlying40 hi hz hs hb rfl (by decide) v n xs hown ⟨g0, 0, none⟩ 1 c news hl1 hnews' h1 (by unfold maxLen; omega) (by omega) hB
 refine ⟨v', w', hr, h2, h3, ?_⟩
 have hl2 : news.length = 1 * i.size := by rw [hs]; exact hl1
 rcases hown.2 with ⟨rfl, rfl⟩ | ⟨g, cap, cur, rfl, hbg, hg, hnc, hcm, hcs, htake⟩
 ·have hr2 := run_append_nil (P := Try.prog) w 40 ty 60 i (.agg ZPB) Try.underlying40 hi hz ⟨g0, 0, none⟩ 1 c news hl2 hnews' (by decide) (by decide) (by rw [hb]; decide)
  rw [hr] at hr2
  injection hr2 with e1 e2
  right; rw [e1]; rfl
 ·by_cases hroom : n + 1 ≤ cap
  ·have hfit : n * i.size + news.length ≤ cur.size := by rw [hs, hl, hcs]; omega
   have hr2 := run_append_room (P := Try.prog) w 40 ty 60 i Try.underlying40 hi g n cap cur hg ⟨g0, 0, none⟩ 1 c news hl2 hnews' h1 hroom hfit
   rw [hr] at hr2
   injection hr2 with e1 e2
   left; rw [e1]; rfl
  ·have hlo : xs.length = n * i.size := by rw [hs]; exact hown.1
   have hr2 := run_append_grow (P := Try.prog) w 40 ty 60 i (.agg ZPB) Try.underlying40 hi hz ⟨g, 0, none⟩ n cap xs hlo (hown.cells (g := g) rfl) ⟨g0, 0, none⟩ 1 c news hl2 hnews' (by omega) (by omega) (growslice_fits (by omega) (by rw [hb]; omega))
   rw [hr] at hr2
   injection hr2 with e1 e2
   right; rw [e1]; rfl
theorem wpList_appP {ops : Array Oper} {rest : List Oper} {o : Oper} {a : Act} {w : World} {Q : Exit → Act → World → Prop} (hgd : o.guard = none) (s x : Operand)
  (ho : o.op = .call { callee := .builtin .append, args := #[s, x], argTypes := #[40, 40] }) (B : Nat) (v : Value) (n : Nat) (xs : List Value) (hs : a.eval s = v) (hown : w.ownsRow B 60 12 v n xs)
  (g0 c : Nat) (hx : a.eval x = .slice (some ⟨g0, 0, none⟩) 1 c) (news : List Value) (hl : news.length = 12)
  (hnews : ∀ j u, news[j]? = some u → w.cell? ⟨g0, j, none⟩ = some u) (h1 : ∀ u ∈ news, u.oneCell' = true) (hn : n + 1 ≤ 1000000000) (hB : B ≤ w.heap.size)
  (h : ∀ v' w', w'.ownsRow B 60 12 v' (n + 1) (xs ++ news) → w.grownBy w' v.ownBlock → (v'.ownBlock = v.ownBlock ∨ v'.ownBlock = some w.heap.size) → wpList Try.prog ops Q rest (a.put o.dst v') w') : wpList Try.prog ops Q (o :: rest) a w := by
 refine wpList_plain hgd fun K hK => ?_
 obtain ⟨v', w', hr, h2, h3, h4⟩ := run_appP w B o.type v n xs hown g0 c news hl hnews h1 hn hB
 unfold Oper.wp execOp
 simp only [ho, resolve, invoke, builtin, Sem.run_bind, Sem.run_pure, Result.andThen_ok, List.map_toArray, List.map_cons, List.map_nil, hs, hx, hr]
 exact hK _ _ (h v' w' h2 h3 h4)
theorem OwnPI.snoc {S : Nat → Prop} {B : Nat} {w : World} {v : Value} {bs : List Bd} {b : Bd} {cs : Array Value} (h : OwnPI S B w v bs) (h5 : cs.size = 12) (hd : Bd.PAt S w b cs) (hS : ∀ x, v.ownBlock = some x → ¬ S x) :
  ∃ xs, w.ownsRow B 60 12 v bs.length xs ∧ ∀ v' w9, w9.ownsRow B 60 12 v' (bs.length + 1) (xs ++ cs.toList) → w.grownBy w9 v.ownBlock → OwnPI S B w9 v' (bs ++ [b]) := by
 obtain ⟨xs, ho, hx⟩ := h
 refine ⟨xs, ho, fun v' w9 h9 hg => ⟨_, by simpa using h9, fun j hj => ?_⟩⟩
 have hk : KeepsB S w w9 := KeepsB.of_grown hg (fun g hs e => hS g e.symm hs)
 have hl : xs.length = bs.length * 12 := ho.1
 by_cases hlt : j < bs.length
 ·obtain ⟨c, c5, c1, c3⟩ := hx j hlt
  refine ⟨c, c5, fun i hi => ?_, ?_⟩
  ·rw [List.getElem?_append_left (by omega)]; exact c1 i hi
  ·rw [List.getElem_append_left hlt]; exact Bd.PAt.keeps hk _ _ c3
 ·have hj' : j = bs.length := by simp at hj; omega
  subst hj'
  refine ⟨cs, h5, fun i hi => ?_, ?_⟩
  ·rw [List.getElem?_append_right (by omega), show 12 * bs.length + i - xs.length = i by omega]; simp
  ·rw [List.getElem_append_right (by omega)]
   simp
   exact Bd.PAt.keeps hk _ _ hd
set_option maxHeartbeats 4000000 in
set_option maxRecDepth 100000 in
theorem parts0_hands {Kp : World → World → Prop} (n box : Nat) (k : Int) (hk4 : k ≠ 4) (t : ByteArray) (mv lv : Value) (p : Int) (A : Nat → Array Value) (w0 : World) (hbw : box < w0.heap.size)
  (hb : w0.heap[box]? = some (Obj.cells #[.int .i64 k, .string t, mv, lv, .int .i64 p] 29 (0, 0))) :
  Hands Fence.wide n Try.prog 87 #[.pointer (some ⟨box, 0, none⟩)] A Kp 0 w0 := by
 intro lp J Jx W hW hJ hY h0
 have hbW : W.heap[box]? = some (Obj.cells #[.int .i64 k, .string t, mv, lv, .int .i64 p] 29 (0, 0)) := by rw [hW.block _ hbw]; exact hb
 have c0 : W.cell? ⟨box, 0, none⟩ = some (.int .i64 k) := by rw [Lib.cell_of_heap hbW]; rfl
 have q4 : (k != 4) = true := by rw [bne_iff_ne]; exact hk4
 clear hY hJ hW hb hbW
 refine callsIn_of_wp Try.func87 rfl trivial ?_ rfl
 refine wpIn_wide.2 ?_
 simp only [Try.ntmps87, List.size_toArray, List.length_cons, List.length_nil, Nat.reduceAdd, Nat.reduceSub, Array.replicate_succ, Array.replicate_zero, List.push_toArray, List.append_toArray, List.nil_append, List.cons_append]
 go_wp2_with fail
 refine bodyPost_ret (results_none rfl _ _ _) rfl ?_
 exact ⟨⟨_, rfl⟩, .inl h0⟩
def dZ : Dt := .mk 0 ⟨#[]⟩ [] [] 0
def vB (x : Dt × Int) : Bd := .mk x.1 x.2 dZ []
/-- The variables of the first k parts that are no dots. -/
def vUp (V : Dt → Bool) (l : List Dt) (n : Int) (k : Nat) : List (Dt × Int) := ((pix l).take k).flatMap fun j => match l[j]? with | some d => d.vars V (if nxtDots (l.drop (j + 1)) = true then n + 1 else n) | none => []
theorem vars_dots {ls : List ByteArray} {d : Dt} (h : d.dots = true) (hwf : d.wf) (n : Int) : d.vars (isVar ls) n = [] := by
 have hk : d.kind = 3 := by unfold Dt.dots Dt.isS at h; simp only [Bool.and_eq_true, beq_iff_eq] at h; exact h.1
 have hp : d.parts = [] := hwf.leaf (by rw [hk]; decide)
 have hv : isVar ls d = false := by unfold isVar; rw [h]; simp
 obtain ⟨k, t, ms, l, p⟩ := d
 rw [vars_mk, hv, if_neg (by decide)]
 rw [show l = [] from hp]; rfl
theorem varss_pix (ls : List ByteArray) (L : List Dt) (n : Int) : ∀ (l : List Dt) (i : Nat), wfs l → L.drop i = l →
  ((pixF l i).flatMap fun j => match L[j]? with | some d => d.vars (isVar ls) (if nxtDots (L.drop (j + 1)) = true then n + 1 else n) | none => []) = varss (isVar ls) l n
 | [], i, _, _ => by simp [pixF, varss]
 | d :: r, i, hw, hL => by
  have hlt : i < L.length := by
   by_cases h : i < L.length
   ·exact h
   ·rw [List.drop_eq_nil_of_le (by omega)] at hL; cases hL
  have h2 : L[i] = d ∧ L.drop (i + 1) = r := by
   rw [List.drop_eq_getElem_cons hlt] at hL
   injection hL with h3 h4; exact ⟨h3, h4⟩
  have ih := varss_pix ls L n r (i + 1) hw.2 h2.2
  unfold pixF
  rw [varss_cons]
  cases hd : d.dots with
  | true => rw [if_pos rfl, ih, vars_dots hd hw.1]; simp
  | false =>
   rw [if_neg (by decide), List.flatMap_cons, ih, List.getElem?_eq_getElem hlt, h2.1, h2.2]
theorem vUp_all (ls : List ByteArray) (l : List Dt) (n : Int) (hw : wfs l) : vUp (isVar ls) l n (pix l).length = varss (isVar ls) l n := by
 unfold vUp
 rw [List.take_length]
 exact varss_pix ls l n l 0 hw (by simp)
theorem vUp_succ (V : Dt → Bool) (l : List Dt) (n : Int) (k : Nat) (h : k < (pix l).length) : vUp V l n (k + 1) = vUp V l n k ++ (l[(pix l)[k]]'(pix_lt h)).vars V (if nxtDots (l.drop ((pix l)[k] + 1)) = true then n + 1 else n) := by
 unfold vUp
 rw [List.take_succ_eq_append_getElem h, List.flatMap_append]
 congr 1
 simp only [List.flatMap_cons, List.flatMap_nil, List.append_nil]
 rw [List.getElem?_eq_getElem (pix_lt h)]
end Go.Proofs.Ytecljchifebljaa
namespace Go.Proofs.Ytecljchifebljaa
open Go Go.RowKit
open Go.Maps
open Go.WideMaps (keyOf_string_mk)
def litS (s : ByteArray) : Lit := .string s.data.toList
theorem litS_inj {a b : ByteArray} (h : litS a = litS b) : a = b := by
 unfold litS at h
 injection h with h
 exact ByteArray.ext (Array.toList_inj.1 h)
theorem law9 : Keyed Try.prog 9 := string_keyed Try.underlying9
theorem run_makeMap80 (n : Nat) (w : World) : (Instr.makeMap 80 (some (.int .i64 (n : Int)))).run Try.prog w = .ok (.map (some w.heap.size)) (w.alloc (.map #[] 0)) := by
 simp [Instr.makeMap, run_underlying Try.underlying80, asInt, asIntOf]
theorem zero122 (w : World) : (zeroValue 122).run Try.prog w = .ok (.agg #[]) w := by kernel_rfl
def wset (ls : List ByteArray) : DataW Unit := setOf (.agg []) (ls.map litS)
theorem wset_has (ls : List ByteArray) (s : ByteArray) : Maps.has (wset ls) (litS s) = inL ls s := by
 have hk : ∀ x ∈ ls.map litS, WideAt.IsKeyLit x := fun y hy => by obtain ⟨_, _, rfl⟩ := List.mem_map.1 hy; trivial
 unfold wset inL
 rw [has_setOf _ _ _ hk, List.any_map]
 congr 1
 funext x
 have e : (x.toList == s.toList) = (decide (x = s)) := by
  rw [Bool.eq_iff_iff, beq_iff_eq, decide_eq_true_iff]
  constructor
  ·intro h
   rw [Lib.toList_data, Lib.toList_data] at h
   exact ByteArray.ext (Array.toList_inj.1 h)
  ·intro h; rw [h]
 rw [e]
 by_cases h : x = s
 ·subst h
  simp only [Function.comp_apply, decide_true]
  exact WideAt.sameKey_self (a := litS x) (by trivial)
 ·simp only [Function.comp_apply, h, decide_false]
  exact sameKey_ne (fun e => h (litS_inj e))
/-- Block b is the set of these texts. -/
def WordsAt (w : World) (b : Nat) (ls : List ByteArray) : Prop := ∃ m, w.ownsMap Try.prog 9 (unitElem (H := Unit)) b m (wset ls)
theorem ownsMap_block {H : Type} {P : Program} {k : TypeId} {R : Value → Option (DataW H × List MemPlace)} {w w' : World} {b n : Nat} {D : DataW H} (h : w.ownsMap P k R b n D) (e : w'.heap[b]? = w.heap[b]?) : w'.ownsMap P k R b n D := by
 obtain ⟨es, clock, hb, Ft, hs, hD⟩ := h
 exact ⟨es, clock, e.trans hb, Ft, hs, hD⟩
theorem WordsAt.lt {w : World} {b : Nat} {ls : List ByteArray} (h : WordsAt w b ls) : b < w.heap.size := by obtain ⟨m, h⟩ := h; exact h.lt
theorem WordsAt.below {w w' : World} {b : Nat} {ls : List ByteArray} (h : WordsAt w b ls) {B : Nat} (hb : Below B w w') (hB : b < B) : WordsAt w' b ls := by
 obtain ⟨m, h⟩ := h
 exact ⟨m, ownsMap_block h (hb.block b hB)⟩
theorem WordsAt.turn {w w' : World} {b : Nat} {ls : List ByteArray} (h : WordsAt w b ls) {row : Option Nat} (hg : w.grownBy w' row) (hr : row ≠ some b) : WordsAt w' b ls := by
 have hl := h.lt
 obtain ⟨m, h⟩ := h
 exact ⟨m, ownsMap_block h (hg.block b hl (fun e => hr e.symm))⟩
def WdInv (ls : List ByteArray) (w : World) (iv : Value) (wr : World) : Prop :=
 ∃ j m : Nat, j ≤ ls.length ∧ m ≤ j ∧ iv = .int .i64 (j : Int) ∧ wr.ownsMap Try.prog 9 (unitElem (H := Unit)) (w.heap.size + 1) m (wset (ls.take j)) ∧ wr.heap[w.heap.size]? = some (Obj.cells #[.map none] 82 (0, 0)) ∧ wr.heap[w.heap.size + 1 + 1]? = some (Obj.cells #[.map (some (w.heap.size + 1))] 82 (0, 0)) ∧ Below w.heap.size w wr
theorem info82 : (Try.prog.info? 82).map (·.size) = some 1 := by kernel_rfl
def RetWords (ls : List ByteArray) (w : World) (e : Ending) (w' : World) : Prop := ∃ b, e = .returned (.agg #[.map (some b)]) ∧ w.heap.size ≤ b ∧ WordsAt w' b ls ∧ Below w.heap.size w w'
set_option maxHeartbeats 8000000 in
set_option maxRecDepth 100000 in
theorem wordsOf_any (ls : List ByteArray) (v : Value) (w : World) (h : LitsAt w v ls) (hl : ls.length ≤ 1000000) (hs : ∀ s ∈ ls, s.size ≤ 1000000) : Calls Try.prog 44 #[v] w (RetWords ls w) := by
 have HV := Lib.hid h
 obtain ⟨ao, cap, rfl⟩ := h.form
 have HS := Lib.hid hs
 have hmm := fun w => run_makeMap80 ls.length w
 have H0 : Hid (WdInv ls w (.int .i64 0) (((w.alloc (.cells #[.map none] 82)).alloc (.map #[] 0)).alloc (.cells #[.map (some (w.heap.size + 1))] 82))) := by
  have hs1 : (w.alloc (.cells #[.map none] 82)).heap.size = w.heap.size + 1 := by simp
  have hs2 : ((w.alloc (.cells #[.map none] 82)).alloc (.map #[] 0)).heap.size = w.heap.size + 1 + 1 := by simp
  have hm := World.ownsMap_made (H := Unit) (w.alloc (.cells #[.map none] 82)) Try.prog 9 unitElem
  rw [hs1] at hm
  refine ⟨0, 0, Nat.zero_le _, Nat.le_refl _, rfl, ownsMap_block hm (Lib.alloc_old _ _ _ (by simp)), ?_, ?_, (((Below.refl _ _).alloc (Nat.le_refl _) _).alloc (by simp) _).alloc (by simp; omega) _⟩
  ·exact (Lib.alloc_old _ _ _ (by simp; omega)).trans ((Lib.alloc_old _ _ _ (by simp)).trans (alloc_at _ _))
  ·have := alloc_at ((w.alloc (.cells #[.map none] 82)).alloc (.map #[] 0)) (.cells #[.map (some (w.heap.size + 1))] 82)
   rw [hs2] at this; exact this
 clear h hs
 go_enter Try.func44, Try.ntmps44
 go_wp2_with fail
 generalize ((w.alloc (.cells #[.map none] 82)).alloc (.map #[] 0)).alloc (.cells #[.map (some (w.heap.size + 1))] 82) = W0 at H0 ⊢
 clear hmm
 obtain ⟨b1, hb1⟩ : ∃ b, b = w.heap.size := ⟨_, rfl⟩
 obtain ⟨bm, hbm⟩ : ∃ b, b = w.heap.size + 1 := ⟨_, rfl⟩
 obtain ⟨bt, hbt⟩ : ∃ b, b = w.heap.size + 1 + 1 := ⟨_, rfl⟩
 rw [← hbt, ← hbm, ← hb1]
 have HBE : Hid (b1 = w.heap.size ∧ bm = w.heap.size + 1 ∧ bt = w.heap.size + 1 + 1) := ⟨hb1, hbm, hbt⟩
 have hq1 : w.heap.size ≤ b1 := by omega
 have hq2 : b1 < bm := by omega
 have hq3 : bm < bt := by omega
 clear hb1 hbm hbt
 go_loopw [12] (fun iv wr => WdInv ls w iv wr) (fun iv _ => ls.length - (intOf iv).toNat)
 case atStart => exact H0.out
 case round =>
  clear H0
  obtain ⟨j, m, hj, hm, rfl, hown, hc1, hc2, hbw⟩ := hrel
  rw [← HBE.out.1] at hc1
  rw [← HBE.out.2.2, ← HBE.out.2.1] at hc2
  rw [← HBE.out.2.1] at hown
  have HB := Lib.hid hbw
  have HC1 := Lib.hid hc1
  have HC2 := Lib.hid hc2
  have HVr := Lib.hid (HV.out.below hbw)
  have hm9 : m < maxLen := Nat.lt_of_lt_of_le (by omega : m < 2000000) (by decide)
  have m0 : wr.cell? ⟨bt, 0, none⟩ = some (.map (some bm)) := by rw [Lib.cell_of_heap hc2]; rfl
  clear hbw hc1 hc2
  by_cases hlt : j < ls.length
  ·have q1 : decide ((j : Int) < (ls.length : Int)) = true := decide_eq_true (by omega)
   obtain ⟨g, o, rfl, e0⟩ := HVr.out.get j hlt
   have hxs := HS.out ls[j] (List.getElem_mem hlt)
   have hs9 : ls.take (j + 1) = ls.take j ++ [ls[j]] := List.take_succ_eq_append_getElem hlt
   obtain ⟨x, hx⟩ : ∃ x, ls[j] = x := ⟨_, rfl⟩
   rw [hx] at e0 hxs hs9
   have hkey : keyOf Try.prog 9 (.string x) = some (litS x) := keyOf_string_mk Try.underlying9 (Nat.le_trans hxs (by decide))
   have HST : Hid ((wset (ls.take j)).put (litS x) (.agg []) = wset (ls.take (j + 1))) := by
    show _ = _
    unfold wset
    rw [hs9, List.map_append, List.map_singleton, setOf_snoc]
   clear hx hs9
   go_wp2_with (first
    | (at_mapUpdate; refine wpList_mapUpdate_own _ rfl _ _ _ 80 rfl 9 122 law9 Try.underlying80 (unitElem (H := Unit)) bm m _ rfl hown hm9 _ _ _ rfl rfl hkey _ [] unitElem_mk ?_; intro w1 hown1 hgrow1)
    | go_in)
   have HN1 : Hid (w1.heap[b1]? = some (Obj.cells #[.map none] 82 (0, 0))) := (hgrow1.block _ (Array.getElem?_eq_some_iff.1 HC1.out).1 (fun e => by injection e with e; omega)).trans HC1.out
   have HN2 : Hid (w1.heap[bt]? = some (Obj.cells #[.map (some bm)] 82 (0, 0))) := (hgrow1.block _ (Array.getElem?_eq_some_iff.1 HC2.out).1 (fun e => by injection e with e; omega)).trans HC2.out
   have HB1 : Hid (Below w.heap.size w w1) := HB.out.grown hgrow1 HB.out.size (fun k hk => by injection hk with hk; omega)
   have HO1 := Lib.hid hown1
   clear hown1 hgrow1 hown
   have HALL : Hid (WdInv ls w (.int .i64 ((j + 1 : Nat) : Int)) w1) := ⟨j + 1, m + 1, by omega, by omega, rfl, by rw [← HBE.out.2.1]; exact HST.out ▸ HO1.out, by rw [← HBE.out.1]; exact HN1.out, by rw [← HBE.out.2.2, ← HBE.out.2.1]; exact HN2.out, HB1.out⟩
   go_roundw
   case rel =>
    have q := HALL.out
    push_cast at q
    first
     | exact q
     | exact ⟨_, _, q, rfl, rfl⟩
   case measure => simp [intOf]; omega
  ·obtain rfl : j = ls.length := by omega
   have q1 : decide ((ls.length : Int) < (ls.length : Int)) = false := decide_eq_false (by omega)
   have e1 : wr.cell? ⟨b1, 0, none⟩ = some (.map none) := by rw [Lib.cell_of_heap HC1.out]; rfl
   have f1 : wr.frozen? ⟨b1, 0, none⟩ = false := by simp [World.frozen?, HC1.out]
   rw [List.take_length] at hown
   have HOW := Lib.hid hown
   have hown' : (wr.setCell ⟨b1, 0, none⟩ (.map (some bm))).ownsMap Try.prog 9 (unitElem (H := Unit)) bm m (wset ls) := ownsMap_block hown (by rw [heap_setCell_other _ _ _ _ (by show bm ≠ b1; omega)])
   have HO9 := Lib.hid hown'
   clear hown hown'
   go_wp2_with fail
   have hH := heap_setCell_same wr b1 0 #[.map none] 82 (.map (some bm)) HC1.out
   refine bodyPost_ret (results_cell_row rfl _ _ b1 82 #[.map (some bm)] (0, 0) _ rfl hH Try.underlying82 rfl info82) rfl ?_
   exact ⟨bm, rfl, by omega, ⟨m, HO9.out⟩, HB.out.setCell (p := ⟨b1, 0, none⟩) hq1 _⟩
set_option maxHeartbeats 8000000 in
set_option maxRecDepth 100000 in
/-- What d is in a pattern with these literals. -/
def roleOf (ls : List ByteArray) (d : Dt) : Int := if d.kind ≠ 3 then 0 else if d.dots = true then 1 else if inL ls d.text = true then 2 else if (d.text.toList == [95]) = true then 3 else 4
theorem roleOf_var (ls : List ByteArray) (d : Dt) : (roleOf ls d == 4) = isVar ls d := by
 unfold roleOf isVar
 by_cases h : d.kind = 3
 ·rw [if_neg (by omega)]
  cases hd : d.dots <;> cases hi : inL ls d.text <;> cases hu : (d.text.toList == [95]) <;> simp [h]
 ·rw [if_pos h]; simp [h]
end Go.Proofs.Ytecljchifebljaa
namespace Go.Proofs.Ytecljchifebljaa
open Go Go.RowKit
def Dt.dl9 : Dt → List Dt | .mk _ _ _ l _ => l
/-- Parts matched one by one. -/
def mE (f : Dt → Dt → Option (List Bd)) : List Dt → List Dt → Option (List Bd)
 | [], [] => some []
 | p :: ps, d :: ds => match f p d with
  | none => none
  | some r => match mE f ps ds with
   | none => none
   | some r2 => some (r ++ r2)
 | _, _ => none
/-- All of a row matched with one. -/
def allR (f : Dt → Option (List Bd)) : List Dt → Option (List (List Bd))
 | [] => some []
 | d :: r => match f d with
  | none => none
  | some x => match allR f r with
   | none => none
   | some y => some (x :: y)
def bZ : Bd := .mk dZ 0 dZ []
/-- The variables, each bound to the row of what it was bound to. -/
def mkRows (ns : List (Dt × Int)) (all : List (List Bd)) : List Bd := (List.range ns.length).map fun i => .mk ((ns[i]?).getD (dZ, 0)).1 ((ns[i]?).getD (dZ, 0)).2 dZ (all.map fun b => (b[i]?).getD bZ)
/-- A list's parts; those between what stands ahead of the part with dots and what stands behind the dots are that one's. -/
def mL (ls : List ByteArray) (f : Dt → Dt → Option (List Bd)) (l ds : List Dt) : Option (List Bd) :=
 if ixD l < 1 then mE f l ds
 else if ds.length < ((ixD l).toNat - 1) + (l.length - ((ixD l).toNat + 1)) then none
 else match mE f (l.take ((ixD l).toNat - 1)) (ds.take ((ixD l).toNat - 1)) with
  | none => none
  | some r1 => match allR (f ((l[(ixD l).toNat - 1]?).getD dZ)) ((ds.take (ds.length - (l.length - ((ixD l).toNat + 1)))).drop ((ixD l).toNat - 1)) with
   | none => none
   | some all => match mE f (l.drop ((ixD l).toNat + 1)) (ds.drop (ds.length - (l.length - ((ixD l).toNat + 1)))) with
    | none => none
    | some r3 => some (r1 ++ mkRows (((l[(ixD l).toNat - 1]?).getD dZ).vars (isVar ls) 1) all ++ r3)
/-- What a pattern's variables are bound to, in their order; none: it does not match. -/
def mRf (ls : List ByteArray) : Nat → Dt → Dt → Option (List Bd)
 | 0, _, _ => none
 | n + 1, p, d => if roleOf ls p = 2 then (if d.isS p.text = true then some [] else none) else if roleOf ls p = 3 then some [] else if roleOf ls p = 4 then some [.mk p 0 d []]
  else if p.kind ≠ d.kind then none else if p.kind = 1 ∨ p.kind = 2 then (if (p.text.toList == d.text.toList) = true then some [] else none) else if p.kind = 4 then mL ls (mRf ls n) p.dl9 d.dl9 else none
theorem mE_len (f : Dt → Dt → Option (List Bd)) : ∀ (ps ds : List Dt), ps.length ≠ ds.length → mE f ps ds = none
 | [], [], h => absurd rfl h
 | p :: ps, d :: ds, h => by
  rw [mE, mE_len f ps ds (fun e => h (by simp [e]))]
  cases f p d <;> rfl
 | [], d :: ds, _ => by unfold mE; rfl
 | p :: ps, [], _ => by unfold mE; rfl
theorem mE_cons (f : Dt → Dt → Option (List Bd)) (p d : Dt) (ps ds : List Dt) : mE f (p :: ps) (d :: ds) = match f p d with
  | none => none
  | some r => match mE f ps ds with
   | none => none
   | some r2 => some (r ++ r2) := by rw [mE]
theorem allR_length (f : Dt → Option (List Bd)) : ∀ (ds : List Dt) (all : List (List Bd)), allR f ds = some all → all.length = ds.length
 | [], all, h => by rw [allR] at h; injection h with h; subst h; rfl
 | d :: r, all, h => by
  rw [allR] at h
  cases h1 : f d with
  | none => rw [h1] at h; cases h
  | some x =>
   rw [h1] at h
   cases h2 : allR f r with
   | none => rw [h2] at h; cases h
   | some y =>
    rw [h2] at h; injection h with h; subst h
    simp [allR_length f r y h2]
theorem allR_snoc (f : Dt → Option (List Bd)) : ∀ (a : List Dt) (d : Dt), allR f (a ++ [d]) = match allR f a with
  | none => none
  | some y => match f d with
   | none => none
   | some x => some (y ++ [x])
 | [], d => by simp only [List.nil_append, allR]
 | e :: a, d => by
  rw [List.cons_append, allR, allR, allR_snoc f a d]
  cases f e with
  | none => rfl
  | some x =>
   cases allR f a with
   | none => rfl
   | some y => cases f d <;> rfl
theorem allR_none (f : Dt → Option (List Bd)) : ∀ (a b : List Dt), allR f a = none → allR f (a ++ b) = none
 | [], b, h => by rw [allR] at h; cases h
 | e :: a, b, h => by
  rw [List.cons_append, allR]
  rw [allR] at h
  cases h1 : f e with
  | none => rfl
  | some x =>
   rw [h1] at h
   cases h2 : allR f a with
   | none => rw [allR_none f a b h2]
   | some y => rw [h2] at h; cases h
theorem mkRows_length (ns : List (Dt × Int)) (all : List (List Bd)) : (mkRows ns all).length = ns.length := by unfold mkRows; simp
theorem mkRows_get (ns : List (Dt × Int)) (all : List (List Bd)) (i : Nat) (h : i < ns.length) : (mkRows ns all)[i]'(by rw [mkRows_length]; exact h) = .mk ns[i].1 ns[i].2 dZ (all.map fun b => (b[i]?).getD bZ) := by
 unfold mkRows
 simp [List.getElem?_eq_getElem h]
theorem mkRows_nil (ns : List (Dt × Int)) : mkRows ns [] = ns.map vB := by
 refine List.ext_getElem (by rw [mkRows_length, List.length_map]) fun i h1 h2 => ?_
 rw [mkRows_get ns [] i (by rwa [mkRows_length] at h1), List.getElem_map]; rfl
/-- How many variables. -/
theorem role_var {ls : List ByteArray} {d : Dt} : roleOf ls d = 4 ↔ isVar ls d = true := by
 unfold roleOf isVar
 by_cases hk : d.kind = 3
 ·rw [if_neg (fun h => h hk)]
  simp only [hk, beq_self_eq_true, Bool.true_and, Bool.and_eq_true, Bool.not_eq_true']
  cases d.dots <;> cases inL ls d.text <;> cases (d.text.toList == [95]) <;> simp
 ·rw [if_pos hk]
  simp [hk]
mutual
theorem vars_len_any (V : Dt → Bool) : ∀ (d : Dt) (n m : Int), (d.vars V n).length = (d.vars V m).length
 | .mk k t ms l p, n, m => by
  rw [vars_mk, vars_mk]
  split
  ·rfl
  ·exact varss_len_any V l n m
theorem varss_len_any (V : Dt → Bool) : ∀ (l : List Dt) (n m : Int), (varss V l n).length = (varss V l m).length
 | [], n, m => by rw [varss, varss]
 | d :: r, n, m => by
  rw [varss_cons, varss_cons, List.length_append, List.length_append, vars_len_any V d _ (if nxtDots r = true then m + 1 else m), varss_len_any V r n m]
end
def nv (V : Dt → Bool) (d : Dt) : Nat := (d.vars V 0).length
def nvs (V : Dt → Bool) (l : List Dt) : Nat := (varss V l 0).length
theorem nvs_cons (V : Dt → Bool) (d : Dt) (r : List Dt) : nvs V (d :: r) = nv V d + nvs V r := by
 unfold nvs nv
 rw [varss_cons, List.length_append, vars_len_any V d _ 0]
theorem nvs_append (V : Dt → Bool) : ∀ (a b : List Dt), nvs V (a ++ b) = nvs V a + nvs V b
 | [], b => by simp [nvs, varss]
 | d :: a, b => by rw [List.cons_append, nvs_cons, nvs_cons, nvs_append V a b]; omega
theorem mE_nv (V : Dt → Bool) (f : Dt → Dt → Option (List Bd)) : ∀ (ps ds : List Dt) (r : List Bd), (∀ p ∈ ps, ∀ d r, f p d = some r → r.length = nv V p) → mE f ps ds = some r → r.length = nvs V ps
 | [], [], r, _, h => by rw [mE] at h; injection h with h; subst h; simp [nvs, varss]
 | p :: ps, d :: ds, r, hf, h => by
  rw [mE_cons] at h
  cases h1 : f p d with
  | none => rw [h1] at h; cases h
  | some r1 =>
   rw [h1] at h
   cases h2 : mE f ps ds with
   | none => rw [h2] at h; cases h
   | some r2 =>
    rw [h2] at h; injection h with h; subst h
    rw [List.length_append, nvs_cons, hf p List.mem_cons_self d r1 h1, mE_nv V f ps ds r2 (fun q hq => hf q (List.mem_cons_of_mem _ hq)) h2]
 | [], d :: ds, r, _, h => by rw [mE_len f [] (d :: ds) (by simp)] at h; cases h
 | p :: ps, [], r, _, h => by rw [mE_len f (p :: ps) [] (by simp)] at h; cases h
theorem pats_mem {l : List Dt} (h : pats l true false = true) : ∀ p ∈ l, p.dots = false → p.pat = true := by
 rw [pats_is, Bool.and_eq_true, List.all_eq_true] at h
 intro p hp hd
 have := h.2 p hp
 rw [hd] at this
 simpa using this
/-- Where the dots stand in a list that may be. -/
theorem pats_split {l : List Dt} (h : pats l true false = true) : (ixD l = -1 ∧ ∀ p ∈ l, p.dots = false) ∨
  ∃ j, ixD l = ((j + 1 : Nat) : Int) ∧ ∃ hj : j + 1 < l.length, l[j + 1].dots = true ∧ (∀ p ∈ l.take (j + 1), p.dots = false) ∧ ∀ p ∈ l.drop (j + 2), p.dots = false := by
 rw [pats_is, Bool.and_eq_true] at h
 obtain ⟨h1, h2⟩ := h
 unfold dotsOk at h1
 simp only [Bool.and_eq_true, Bool.not_eq_true', beq_eq_false_iff_ne, Bool.and_eq_false_iff, decide_eq_false_iff_not] at h1
 obtain ⟨h3, h4⟩ := h1
 rcases ixD_spec l with ⟨e, he⟩ | ⟨j, hj, e, hd, he⟩
 ·exact .inl ⟨e, fun p hp => by obtain ⟨i, hi, rfl⟩ := List.getElem_of_mem hp; exact he i hi⟩
 ·cases j with
  | zero => exact absurd e h3
  | succ j =>
   refine .inr ⟨j, e, hj, hd, fun p hp => ?_, fun p hp => ?_⟩
   ·obtain ⟨i, hi, rfl⟩ := List.mem_take_iff_getElem.1 hp
    exact he i (by omega) (by omega)
   ·rcases h4 with h4 | h4
    ·rw [e] at h4; omega
    ·rw [e] at h4
     have h5 := List.any_eq_false.1 h4 p (by simpa using hp)
     simpa using h5
theorem dots_nv {ls : List ByteArray} {d : Dt} (hw : d.wf) (h : d.dots = true) : nv (isVar ls) d = 0 := by
 have hk : d.kind = 3 := by unfold Dt.dots Dt.isS at h; simp only [Bool.and_eq_true, beq_iff_eq] at h; exact h.1
 have hl := hw.leaf (by rw [hk]; decide)
 obtain ⟨k, t, ms, l, p⟩ := d
 have hl : l = [] := hl
 subst hl
 unfold nv
 rw [vars_mk, if_neg (by unfold isVar; rw [h]; simp)]
 rw [varss]; rfl
theorem sym_nv {ls : List ByteArray} {d : Dt} (hw : d.wf) (h : d.kind ≠ 4) (hv : isVar ls d = false) : nv (isVar ls) d = 0 := by
 have hl := hw.leaf h
 obtain ⟨k, t, ms, l, p⟩ := d
 have hl : l = [] := hl
 subst hl
 unfold nv
 rw [vars_mk, if_neg (by rw [hv]; decide), varss]; rfl
theorem wfs_mem {l : List Dt} (h : wfs l) : ∀ p ∈ l, p.wf := fun p hp => by obtain ⟨i, hi, rfl⟩ := List.getElem_of_mem hp; exact wfs_get h i hi
theorem split_at {l : List Dt} {j : Nat} (hj : j + 1 < l.length) : l = l.take j ++ l[j] :: l[j + 1] :: l.drop (j + 2) := by
 rw [← List.drop_eq_getElem_cons hj, ← List.drop_eq_getElem_cons (by omega : j < l.length), List.take_append_drop]
/-- As many are bound as there are variables. -/
theorem mRf_nv (ls : List ByteArray) : ∀ (n : Nat) (p d : Dt) (r : List Bd), p.wf → p.pat = true → mRf ls n p d = some r → r.length = nv (isVar ls) p
 | 0, p, d, r, _, _, h => by rw [mRf] at h; cases h
 | n + 1, p, d, r, hw, hp, h => by
  have hk3 : ∀ q, q ≠ 0 → q ≠ 1 → roleOf ls p = q → p.kind = 3 := by
   intro q h0 h1 h
   by_cases hk : p.kind = 3
   ·exact hk
   ·unfold roleOf at h; rw [if_pos hk] at h; exact absurd h.symm h0
  rw [mRf] at h
  by_cases r2 : roleOf ls p = 2
  ·rw [if_pos r2] at h
   have hv : isVar ls p = false := by cases e : isVar ls p with | false => rfl | true => rw [role_var.2 e] at r2; cases r2
   have hk := hk3 2 (by decide) (by decide) r2
   rw [sym_nv hw (by rw [hk]; decide) hv]
   split at h
   ·injection h with h; subst h; rfl
   ·cases h
  ·rw [if_neg r2] at h
   by_cases r3 : roleOf ls p = 3
   ·rw [if_pos r3] at h
    have hv : isVar ls p = false := by cases e : isVar ls p with | false => rfl | true => rw [role_var.2 e] at r3; cases r3
    have hk := hk3 3 (by decide) (by decide) r3
    rw [sym_nv hw (by rw [hk]; decide) hv]
    injection h with h; subst h; rfl
   ·rw [if_neg r3] at h
    by_cases r4 : roleOf ls p = 4
    ·rw [if_pos r4] at h
     have hv := role_var.1 r4
     injection h with h; subst h
     obtain ⟨k, t, ms, l, pl⟩ := p
     unfold nv
     rw [vars_mk, if_pos hv]; rfl
    ·rw [if_neg r4] at h
     have hv : isVar ls p = false := by cases e : isVar ls p with | false => rfl | true => exact absurd (role_var.2 e) r4
     split at h
     ·cases h
     ·split at h
      ·rename_i hk
       rw [sym_nv hw (by omega) hv]
       split at h
       ·injection h with h; subst h; rfl
       ·cases h
      ·split at h
       ·rename_i hk
        obtain ⟨k, t, ms, l, pl⟩ := p
        have hwl : wfs l := hw.parts
        rw [pat_mk, Bool.and_eq_true] at hp
        have hnl : nv (isVar ls) (.mk k t ms l pl) = nvs (isVar ls) l := by unfold nv nvs; rw [vars_mk, if_neg (by rw [hv]; decide)]
        rw [hnl]
        have hF : ∀ p ∈ l, p.dots = false → ∀ d r, mRf ls n p d = some r → r.length = nv (isVar ls) p := fun p hm hd d r => mRf_nv ls n p d r (wfs_mem hwl p hm) (pats_mem hp.2 p hm hd)
        rw [show (Dt.mk k t ms l pl).dl9 = l from rfl] at h
        unfold mL at h
        rcases pats_split hp.2 with ⟨e, hd⟩ | ⟨j, e, hj, hd, hd1, hd2⟩
        ·rw [e, if_pos (by decide)] at h
         exact mE_nv _ _ _ _ _ (fun p hm => hF p hm (hd p hm)) h
        ·rw [e, if_neg (by omega)] at h
         simp only [Int.toNat_natCast, Nat.add_sub_cancel] at h
         generalize d.dl9 = ds at h
         by_cases hlt : ds.length < j + (l.length - (j + 1 + 1))
         ·rw [if_pos hlt] at h; cases h
         ·rw [if_neg hlt] at h
          cases h1 : mE (mRf ls n) (l.take j) (ds.take j) with
          | none => rw [h1] at h; cases h
          | some r1 =>
           rw [h1] at h
           simp only at h
           rw [List.getElem?_eq_getElem (by omega : j < l.length), Option.getD_some] at h
           cases h2 : allR (mRf ls n l[j]) ((ds.take (ds.length - (l.length - (j + 1 + 1)))).drop j) with
           | none => rw [h2] at h; cases h
           | some all =>
            rw [h2] at h
            simp only at h
            cases h3 : mE (mRf ls n) (l.drop (j + 1 + 1)) (ds.drop (ds.length - (l.length - (j + 1 + 1)))) with
            | none => rw [h3] at h; cases h
            | some r3 =>
             rw [h3] at h
             injection h with h; subst h
             have e1 := mE_nv (isVar ls) _ _ _ _ (fun p hm => hF p (List.mem_of_mem_take hm) (hd1 p (by rw [List.mem_take_iff_getElem] at hm ⊢; obtain ⟨i, hi, e⟩ := hm; exact ⟨i, by omega, e⟩))) h1
             have e3 := mE_nv (isVar ls) _ _ _ _ (fun p hm => hF p (List.mem_of_mem_drop hm) (hd2 p hm)) h3
             rw [List.length_append, List.length_append, mkRows_length, e1, e3, vars_len_any (isVar ls) l[j] 1 0]
             have e4 : nvs (isVar ls) l = nvs (isVar ls) (l.take j ++ l[j] :: l[j + 1] :: l.drop (j + 2)) := by rw [← split_at hj]
             rw [e4, nvs_append, nvs_cons, nvs_cons, dots_nv (wfs_get hwl (j + 1) hj) hd]
             show _ = _
             unfold nv
             omega
       ·cases h
end Go.Proofs.Ytecljchifebljaa
namespace Go.Proofs.Ytecljchifebljaa
open Go Go.RowKit
open Go.Maps
open Go.WideMaps (keyOf_string_mk)
set_option maxHeartbeats 8000000 in
set_option maxRecDepth 100000 in
theorem role_any {S : Nat → Prop} {w : World} {d : Dt} {cs : Array Value} (hd : Dt.At S w d cs) (hwf : d.text.size ≤ 1000000) (b : Nat) (ls : List ByteArray) (hw : WordsAt w b ls) :
  Calls Try.prog 70 #[.agg #[.map (some b)], .agg cs] w (RetInt (roleOf ls d) w) := by
 have FD := Lib.hid (fun W => isdots_any hd W)
 obtain ⟨mv, lv, rfl, h1, h2⟩ := At_five hd
 obtain ⟨k, hk⟩ : ∃ k, k = d.kind := ⟨_, rfl⟩
 obtain ⟨t, ht⟩ : ∃ t, t = d.text := ⟨_, rfl⟩
 obtain ⟨p, hp⟩ : ∃ p, p = d.place := ⟨_, rfl⟩
 obtain ⟨bd, hbd⟩ : ∃ b, b = d.dots := ⟨_, rfl⟩
 obtain ⟨bi, hbi⟩ : ∃ b, b = inL ls d.text := ⟨_, rfl⟩
 obtain ⟨bu, hbu⟩ : ∃ b, b = (t.toList == [95]) := ⟨_, rfl⟩
 have HR : Hid (roleOf ls d = if k ≠ 3 then 0 else if bd = true then 1 else if bi = true then 2 else if bu = true then 3 else 4) := by
  show _ = _
  unfold roleOf
  rw [hk, hbd, hbi, hbu, ht]
 rw [← hbd, ← hk, ← ht, ← hp] at FD
 rw [← ht] at hwf
 obtain ⟨m, hown⟩ := hw
 have hkey : keyOf Try.prog 9 (.string t) = some (litS t) := keyOf_string_mk Try.underlying9 (Nat.le_trans hwf (by decide))
 have hhas : Maps.has (wset ls) (litS t) = bi := by rw [wset_has, hbi, ht]
 have HHAS := Lib.hid hhas
 have HOWN := Lib.hid hown
 rw [← hk, ← ht, ← hp]
 have qu : (t.toList == [95]) = bu := hbu.symm
 clear hbd hk ht hp hbi hown hd hbu
 have hb0 : Below w.heap.size w ((w.alloc (.cells #[.map (some b)] 82)).alloc (.cells #[.int .i64 k, .string t, mv, lv, .int .i64 p] 29)) := ((Below.refl _ _).alloc (Nat.le_refl _) _).alloc (by simp) _
 have HB0 := Lib.hid hb0
 by_cases h3 : k = 3
 ·subst h3
  obtain ⟨X, hX⟩ : ∃ X, X = (w.alloc (.cells #[.map (some b)] 82)).alloc (.cells #[.int .i64 3, .string t, mv, lv, .int .i64 p] 29) := ⟨_, rfl⟩
  have FX := Lib.hid (FD.out X)
  have hx1 : X.heap[w.heap.size]? = some (Obj.cells #[.map (some b)] 82 (0, 0)) := by rw [hX]; exact (Lib.alloc_old _ _ _ (by simp)).trans (alloc_at _ _)
  have hx2 : X.heap[w.heap.size + 1]? = some (Obj.cells #[.int .i64 3, .string t, mv, lv, .int .i64 p] 29 (0, 0)) := by rw [hX]; exact second2 w _ _
  rw [← hX] at hb0 HB0
  have hs0 : X.heap.size = w.heap.size + 2 := by rw [hX]; simp
  have HX1 := Lib.hid hx1
  have HX2 := Lib.hid hx2
  have HX := Lib.hid hX
  clear hX hx1 hx2 FD
  go_enter Try.func70, Try.ntmps70
  go_upto_region 3 with fail
  rw [← HX.out]
  have y0 : X.cell? ⟨w.heap.size + 1, 0, none⟩ = some (.int .i64 3) := by rw [Lib.cell_of_heap HX2.out]; rfl
  have y1 : X.cell? ⟨w.heap.size + 1, 1, none⟩ = some (.string t) := by rw [Lib.cell_of_heap HX2.out]; rfl
  have y2 : X.cell? ⟨w.heap.size + 1, 2, none⟩ = some mv := by rw [Lib.cell_of_heap HX2.out]; rfl
  have y3 : X.cell? ⟨w.heap.size + 1, 3, none⟩ = some lv := by rw [Lib.cell_of_heap HX2.out]; rfl
  have y4 : X.cell? ⟨w.heap.size + 1, 4, none⟩ = some (.int .i64 p) := by rw [Lib.cell_of_heap HX2.out]; rfl
  go_wp2_with fail
  refine FX.out.mono ?_
  rintro e w3 ⟨rfl, hb3⟩
  have HB3 := Lib.hid (HB0.out.trans (hb3.mono HB0.out.size))
  clear y0 y1 y2 y3 y4 FX
  cases bd with
  | true =>
   go_wp2_with fail
   go_ret
   exact ⟨by rw [HR.out]; rfl, HB3.out⟩
  | false =>
   have z1 : w3.heap[w.heap.size]? = some (Obj.cells #[.map (some b)] 82 (0, 0)) := (hb3.block _ (by omega)).trans HX1.out
   have z2 : w3.heap[w.heap.size + 1]? = some (Obj.cells #[.int .i64 3, .string t, mv, lv, .int .i64 p] 29 (0, 0)) := (hb3.block _ (by omega)).trans HX2.out
   have c0 : w3.cell? ⟨w.heap.size, 0, none⟩ = some (.map (some b)) := by rw [Lib.cell_of_heap z1]; rfl
   have c1 : w3.cell? ⟨w.heap.size + 1, 1, none⟩ = some (.string t) := by rw [Lib.cell_of_heap z2]; rfl
   have hbl := HOWN.out.lt
   have hown3 := ownsMap_block HOWN.out ((hb3.block b (by omega)).trans (hb0.block b hbl))
   have HO3 := Lib.hid hown3
   have HZ2 := Lib.hid z2
   clear z1 z2 hb3 hown3 hb0
   go_upto_region 6 with (first | (at_lookup; refine wpList_lookup_own_unit _ rfl _ _ 80 rfl 9 122 law9 Try.underlying80 (zero122 _) b m _ rfl HO3.out _ _ rfl hkey ?_; rw [HHAS.out]) | go_in)
   have hbA : Below w3.heap.size w3 (w3.alloc (.cells #[] 122)) := (Below.refl _ _).alloc (Nat.le_refl _) _
   cases bi with
   | true =>
    go_wp2_with fail
    go_ret
    exact ⟨by rw [HR.out]; rfl, HB3.out.trans (hbA.mono HB3.out.size)⟩
   | false =>
    have hs3 := HB3.out.size
    have u2 : (w3.alloc (.cells #[] 122)).heap[w.heap.size + 1]? = some (Obj.cells #[.int .i64 3, .string t, mv, lv, .int .i64 p] 29 (0, 0)) := (Lib.alloc_old _ _ _ (Array.getElem?_eq_some_iff.1 HZ2.out).1).trans HZ2.out
    have u1 : (w3.alloc (.cells #[] 122)).cell? ⟨w.heap.size + 1, 1, none⟩ = some (.string t) := by rw [Lib.cell_of_heap u2]; rfl
    clear u2 c0 c1
    cases bu with
    | true =>
     go_wp2_with fail
     go_ret
     exact ⟨by rw [HR.out]; rfl, HB3.out.trans (hbA.mono HB3.out.size)⟩
    | false =>
     go_wp2_with fail
     go_ret
     exact ⟨by rw [HR.out]; rfl, HB3.out.trans (hbA.mono HB3.out.size)⟩
 ·have q3 : (k != 3) = true := by rw [bne_iff_ne]; exact h3
  clear FD
  go_enter Try.func70, Try.ntmps70
  go_wp2_with fail
  go_ret
  exact ⟨by rw [HR.out, if_pos h3]; rfl, HB0.out⟩
end Go.Proofs.Ytecljchifebljaa
namespace Go.Proofs.Ytecljchifebljaa
open Go Go.RowKit
theorem CfAt.mono {S T : Nat → Prop} {w : World} {lv : Value} {l : List Dt} {cf : Nat → Array Value} (h : CfAt S w lv l cf) (k : ∀ g, S g → T g) : CfAt T w lv l cf := fun j hj => ⟨Dt.At.mono k _ _ (h j hj).1, fun g o n c e => ⟨k g ((h j hj).2 g o n c e).1, ((h j hj).2 g o n c e).2⟩⟩
theorem vUp_len (V : Dt → Bool) (q : Int) (L : List Dt) : ∀ (l : List Dt) (i k : Nat) (hk : k < (pixF l i).length) (hL : L.drop i = l) (hlt : (pixF l i)[k] < L.length),
  (((pixF l i).take k).flatMap fun j => match L[j]? with | some d => d.vars V (if nxtDots (L.drop (j + 1)) = true then q + 1 else q) | none => []).length + (L[(pixF l i)[k]]).size ≤ Dt.sizes l
 | [], i, k, hk, _, _ => by simp [pixF] at hk
 | d :: r, i, k, hk, hL, hlt => by
  have hi : i < L.length := by
   by_cases h : i < L.length
   ·exact h
   ·rw [List.drop_eq_nil_of_le (by omega)] at hL; cases hL
  have h2 : L[i] = d ∧ L.drop (i + 1) = r := by
   rw [List.drop_eq_getElem_cons hi] at hL
   injection hL with h3 h4; exact ⟨h3, h4⟩
  cases hd : d.dots with
  | true =>
   have e : pixF (d :: r) i = pixF r (i + 1) := by rw [pixF, if_pos hd]
   have ih := vUp_len V q L r (i + 1) k (by rw [← e]; exact hk) h2.2 (by simp only [← e]; exact hlt)
   simp only [e]
   simp only [Dt.sizes]; omega
  | false =>
   have e : pixF (d :: r) i = i :: pixF r (i + 1) := by rw [pixF, if_neg (by rw [hd]; decide)]
   cases k with
   | zero =>
    simp only [e, List.take_zero, List.flatMap_nil, List.length_nil, List.getElem_cons_zero, h2.1, Dt.sizes]; omega
   | succ k =>
    have ih := vUp_len V q L r (i + 1) k (by rw [e] at hk; simpa using hk) h2.2 (by simp only [e, List.getElem_cons_succ] at hlt; exact hlt)
    have hv := vars_len V d (if nxtDots (L.drop (i + 1)) = true then q + 1 else q)
    simp only [e, List.take_succ_cons, List.flatMap_cons, List.getElem_cons_succ, List.length_append, List.getElem?_eq_getElem hi, h2.1, Dt.sizes]
    omega
theorem vUp_le (V : Dt → Bool) (l : List Dt) (q : Int) (k : Nat) (hk : k < (pix l).length) : (vUp V l q k).length + (l[(pix l)[k]]'(pix_lt hk)).size ≤ Dt.sizes l := vUp_len V q l l 0 k hk (by simp) (pix_lt hk)
/-- The cells of the k-th part; whether dots stand behind it. -/
def pc (cf : Nat → Array Value) (l : List Dt) (k : Nat) : Array Value := cf ((pix l)[k]?.getD 0)
def pb (l : List Dt) (k : Nat) : Bool := nxtDots (l.drop ((pix l)[k]?.getD 0 + 1))
theorem partA_pc {cf : Nat → Array Value} {l : List Dt} {k : Nat} (h : k < (pix l).length) : partA cf l k = #[.agg (pc cf l k), .bool (pb l k)] := by
 rw [partA_at cf l k h]; unfold pc pb; rw [List.getElem?_eq_getElem h, Option.getD_some]
theorem OwnPI.turn {S : Nat → Prop} {B : Nat} {w w' : World} {v : Value} {bs : List Bd} {row : Option Nat} (h : OwnPI S B w v bs) (hg : w.grownBy w' row) (hr : ∀ r, row = some r → ∃ o : Obj, w.heap[r]? = some o ∧ o.isCells = false) : OwnPI S B w' v bs := by
 refine h.kept hg ?_ (KeepsB.of_turn hg hr)
 cases hv : v.ownBlock with
 | none => exact .inl rfl
 | some g =>
  refine .inr fun e => ?_
  obtain ⟨o, ho, hc⟩ := hr g e.symm
  obtain ⟨xs, hx, _⟩ := h
  rcases hx.2 with ⟨e1, _⟩ | ⟨g', cap, cur, e1, _, e3, _⟩
  ·rw [e1] at hv; cases hv
  ·rw [e1] at hv
   simp only [Value.ownBlock, Option.some.injEq] at hv
   subst hv
   rw [e3] at ho; cases ho; cases hc
theorem Grw.turn {w w' w'' : World} {v v' : Value} {row : Option Nat} (h : Grw w w' v v') (hg : w'.grownBy w'' row) (hr : ∀ r, row = some r → w.heap.size ≤ r) : Grw w w'' v v' := by
 have s1 := h.1.size
 have s2 := hg.size
 refine ⟨⟨hg.os.trans h.1.os, hg.tape.trans h.1.tape, hg.output.trans h.1.output, by omega, fun k hk hn => ?_⟩, ?_⟩
 ·rw [hg.block k (by omega) (fun e => by have := hr k e.symm; omega), h.1.block k hk hn]
 ·rcases h.2 with h2 | ⟨b, h2, hb, hc⟩
  ·exact .inl h2
  ·exact .inr ⟨b, h2, hb, by omega⟩
theorem cells_turn {w w' : World} {row : Option Nat} {g : Nat} {c : Array Value} {T : TypeId} {fz : Nat × Nat} (h : w.heap[g]? = some (Obj.cells c T fz)) (hg : w.grownBy w' row) (hr : ∀ r, row = some r → ∃ o : Obj, w.heap[r]? = some o ∧ o.isCells = false) : w'.heap[g]? = some (Obj.cells c T fz) := by
 refine (hg.block g (Array.getElem?_eq_some_iff.1 h).1 fun e => ?_).trans h
 obtain ⟨o, ho, hc⟩ := hr g e.symm
 rw [h] at ho; cases ho; cases hc
/-- A step that turns one block, of cells, keeps all that is no cells. -/
theorem keepsFrom_cells {B : Nat} {w w' : World} {row : Option Nat} (hg : w.grownBy w' row) (hr : ∀ r, row = some r → ∃ (c : Array Value) (T : TypeId) (fz : Nat × Nat), w.heap[r]? = some (Obj.cells c T fz)) : KeepsFrom B w w' :=
 ⟨hg.size, fun k o _ hk ho => (hg.block k (Array.getElem?_eq_some_iff.1 hk).1 fun e => by
  obtain ⟨c, T, fz, h⟩ := hr k e.symm
  rw [hk] at h; cases h; cases ho).trans hk⟩
theorem OwnPI.row_cells {S : Nat → Prop} {B : Nat} {w : World} {v : Value} {bs : List Bd} (h : OwnPI S B w v bs) : ∀ r, v.ownBlock = some r → ∃ (c : Array Value) (T : TypeId) (fz : Nat × Nat), w.heap[r]? = some (Obj.cells c T fz) := by
 intro r hv
 obtain ⟨xs, hx, _⟩ := h
 rcases hx.2 with ⟨e1, _⟩ | ⟨g', cap, cur, e1, _, e3, _⟩
 ·rw [e1] at hv; cases hv
 ·rw [e1] at hv
  simp only [Value.ownBlock, Option.some.injEq] at hv
  subst hv
  exact ⟨_, _, _, e3⟩
def VI (B bw : Nat) (ls : List ByteArray) (q : Int) (bs : List Bd) (l : List Dt) (w : World) (v : Value) (bx : Nat) (cx : Array Value) (k : Nat) (W : World) : Prop :=
 ∃ v', W.heap[w.heap.size + 1]? = some (Obj.cells #[v'] 40 (0, 0)) ∧ OwnPI (fun g => g < B) B W v' (bs ++ (vUp (isVar ls) l q k).map vB) ∧ Grw w W v v' ∧ W.heap[w.heap.size]? = some (Obj.cells #[.map (some bw)] 82 (0, 0)) ∧ W.heap[w.heap.size + 1 + 1 + 1]? = some (Obj.cells #[.int .i64 q] 3 (0, 0)) ∧ w.heap.size + 4 ≤ W.heap.size ∧ WordsAt W bw ls ∧ W.heap[bx]? = some (Obj.cells cx 29 (0, 0))
theorem VI.own {B bw : Nat} {ls : List ByteArray} {q : Int} {bs : List Bd} {l : List Dt} {w : World} {v : Value} {bx : Nat} {cx : Array Value} {C : Nat} (hC : w.heap.size + 4 ≤ C) (hbw : bw < w.heap.size) : OwnFrom C (VI B bw ls q bs l w v bx cx) := by
 rintro k X Y row ⟨v', h5, ho, hg, h4, h7, hs, hw, hb⟩ hgr hr
 have hr2 : ∀ r, row = some r → ∃ o : Obj, X.heap[r]? = some o ∧ o.isCells = false := fun r e => (hr r e).2
 exact ⟨v', cells_turn h5 hgr hr2, ho.turn hgr hr2, hg.turn hgr (fun r e => by have := (hr r e).1; omega), cells_turn h4 hgr hr2, cells_turn h7 hgr hr2, by have := hgr.size; omega, hw.turn hgr (fun e => by have := (hr bw e).1; omega), cells_turn hb hgr hr2⟩
def VAx (B9 : Nat) (cf : Nat → Array Value) (l : List Dt) (F : Value → Value → Value → Act) (k : Nat) (a : Act) (W : World) : Prop :=
 ∃ Bx, B9 ≤ Bx ∧ W.heap[Bx]? = some (Obj.cells (pc cf l k) 29 (0, 0)) ∧ a = F (.pointer (some ⟨Bx, 0, none⟩)) (.bool (pb l k)) (.agg (pc cf l k))
theorem VAx.own {B9 C : Nat} {cf : Nat → Array Value} {l : List Dt} {F : Value → Value → Value → Act} (k : Nat) (a : Act) : OwnFrom C (fun (_ : Unit) W => VAx B9 cf l F k a W) := by
 rintro _ X Y row ⟨Bx, hB, hx, ha⟩ hgr hr
 exact ⟨Bx, hB, cells_turn hx hgr (fun r e => (hr r e).2), ha⟩
end Go.Proofs.Ytecljchifebljaa
namespace Go.Proofs.Ytecljchifebljaa
open Go.RowKit
/-- Dots where no part is ahead: b tells that none is. -/
def strays : List Dt → Bool → Bool
 | [], _ => false
 | d :: r, b => if d.dots = true then (if b = true then true else strays r true) else strays r false
theorem strays_cons (d : Dt) (r : List Dt) (b : Bool) : strays (d :: r) b = if d.dots = true then (if b = true then true else strays r true) else strays r false := by rw [strays]
def SyInv (l : List Dt) (w : World) (bv iv : Value) (wr : World) : Prop := ∃ (j : Nat) (b : Bool), j ≤ l.length ∧ bv = .bool b ∧ iv = .int .i64 (j : Int) ∧ strays l true = strays (l.drop j) b ∧ Below w.heap.size w wr
set_option maxHeartbeats 8000000 in
set_option maxRecDepth 100000 in
theorem stray_any {S : Nat → Prop} (l : List Dt) (v : Value) (w : World) (hv : LAt S w v l) (hl : l.length ≤ 10000000) : Calls Try.prog 89 #[v] w (RetBool (strays l true) w) := by
 have HV := Lib.hid hv
 obtain ⟨ao, ac, rfl⟩ := hv.form
 clear hv
 go_enter Try.func89, Try.ntmps89
 go_wp2_with fail
 go_loopw [3, 9] (fun bv iv wr => SyInv l w bv iv wr) (fun _ iv _ => l.length - (intOf iv).toNat)
 case atStart => exact ⟨0, true, Nat.zero_le _, rfl, rfl, rfl, Below.refl _ _⟩
 case round =>
  obtain ⟨j, b, hj, rfl, rfl, hr, hbw⟩ := hrel
  have HBW := Lib.hid hbw
  have HR := Lib.hid hr
  have HVr := Lib.hid (HV.out.keeps (Keeps.of_below hbw))
  clear hbw hr
  by_cases hlt : j < l.length
  ·have q1 : decide ((j : Int) < (l.length : Int)) = true := decide_eq_true (by omega)
   obtain ⟨g, o, k5, t5, mv5, lv5, p5, he5, hS, _, hat, e0, e1, e2, e3, e4, o5, o6⟩ := HVr.out.get j hlt
   subst he5
   obtain ⟨d, hd⟩ : ∃ d, d = l[j] := ⟨_, rfl⟩
   rw [← hd] at hat
   have hdr : l.drop j = d :: l.drop (j + 1) := by rw [hd]; exact List.drop_eq_getElem_cons hlt
   have hst := strays_cons d (l.drop (j + 1)) b
   rw [← hdr] at hst
   obtain ⟨dk, dt, dms, dl, dp⟩ := d
   have hat0 := hat
   rw [At_mk] at hat
   obtain ⟨mv6, lv6, e6, hM6, hL6⟩ := hat
   simp only [Array.mk.injEq, List.cons.injEq, Value.int.injEq, Value.string.injEq, true_and, and_true] at e6
   obtain ⟨rfl, rfl, rfl, rfl, rfl⟩ := e6
   obtain ⟨lo6, lc6, rfl⟩ := hL6.form
   obtain ⟨mo6, mc6, rfl⟩ := MAt.form2 hM6
   have hbY : Below wr.heap.size wr (wr.alloc (.cells #[.int .i64 k5, .string t5, .slice mo6 dms.length mc6, .slice lo6 dl.length lc6, .int .i64 p5] 29)) := (Below.refl _ _).alloc (Nat.le_refl _) _
   have FI := Lib.hid (isdots_any hat0 (wr.alloc (.cells #[.int .i64 k5, .string t5, .slice mo6 dms.length mc6, .slice lo6 dl.length lc6, .int .i64 p5] 29)))
   have HBY := Lib.hid hbY
   obtain ⟨bd, hbd⟩ : ∃ b, b = (Dt.mk k5 t5 dms dl p5).dots := ⟨_, rfl⟩
   rw [← hbd] at FI hst
   have HST := Lib.hid hst
   clear hd hdr hst hat0 hM6 hL6 hbY hbd hS
   go_wp2_with fail
   refine FI.out.mono ?_
   rintro e w3 ⟨rfl, hb3⟩
   have HB3 := Lib.hid (HBW.out.trans ((HBY.out.trans (hb3.mono HBY.out.size)).mono HBW.out.size))
   clear hb3 e0 e1 e2 e3 e4 FI
   cases bd with
   | true =>
    cases b with
    | true =>
     have HE : Hid (strays l true = true) := by show _ = _; rw [HR.out, HST.out]; rfl
     go_wp2_with fail
     go_ret
     exact ⟨by rw [HE.out]; rfl, HB3.out⟩
    | false =>
     have HE : Hid (strays l true = strays (l.drop (j + 1)) true) := by show _ = _; rw [HR.out, HST.out]; rfl
     go_wp2_with fail
     go_roundw
     case rel => exact ⟨j + 1, true, by omega, rfl, by go_num, HE.out, HB3.out⟩
     case measure => simp [intOf]; omega
   | false =>
    have HE : Hid (strays l true = strays (l.drop (j + 1)) false) := by show _ = _; rw [HR.out, HST.out]; rfl
    go_wp2_with fail
    go_roundw
    case rel => exact ⟨j + 1, false, by omega, rfl, by go_num, HE.out, HB3.out⟩
    case measure => simp [intOf]; omega
  ·obtain rfl : j = l.length := by omega
   have q1 : decide ((l.length : Int) < (l.length : Int)) = false := decide_eq_false (by omega)
   have HE : Hid (strays l true = false) := by show _ = _; rw [HR.out, List.drop_length]; rfl
   go_wp2_with fail
   go_ret
   exact ⟨by rw [HE.out]; rfl, HBW.out⟩
end Go.Proofs.Ytecljchifebljaa
