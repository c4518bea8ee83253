/- All names that a term binds, in order: thunklaw7's bound. -/
import Derived.Test.YtmcgocbkjdacaaaDoorNT1
import Derived.Test.YtmcgocbkjdacaaaDoorNM2
namespace Go.Proofs.YtmcgocbkjdacaaaDoor
open Go.RowKit Go.BigM
set_option linter.unusedVariables false
set_option linter.unusedSimpArgs false
theorem run_appM (w : World) (B ty : Nat) (v : Value) (n : Nat) (xs : List Value) (hown : w.ownsRow B 9 1 v n xs) (a0 : Addr) (m c : Nat) (news : List Value) (hl : news.length = m)
    (hnews' : ∀ j u, news[j]? = some u → w.cell? (a0.add j) = some u) (h1 : ∀ u ∈ news, u.oneCell' = true) (hm : 0 < m) (hn : n + m ≤ 1000000) (hB : B ≤ w.heap.size) :
    ∃ v' w', (Builtin.append_ #[25, 25] ty #[v, .slice (some a0) m c]).run Tryd.prog w = .ok v' w' ∧ w'.ownsRow B 9 1 v' (n + m) (xs ++ news) ∧ w.grownBy w' v.ownBlock ∧ (v'.ownBlock = v.ownBlock ∨ v'.ownBlock = some w.heap.size) := by
  obtain ⟨i, hi, hz, hs, hb⟩ := info_parts infoS
  have hl1 : news.length = m * 1 := by omega
  obtain ⟨v', w', hr, h2, h3, _⟩ := run_append_own (P := Tryd.prog) w B 25 ty 9 i (.string ⟨#[]⟩) 1 16 Tryd.underlying25 hi hz hs hb rfl (by decide) v n xs hown a0 m c news hl1 hnews' h1 (by unfold maxLen; omega) (by omega) hB
  refine ⟨v', w', hr, h2, h3, ?_⟩
  have hl2 : news.length = m * i.size := by rw [hs]; exact hl1
  rcases hown.2 with ⟨rfl, rfl⟩ | ⟨g, cap, cur, rfl, hbg, hg, hnc, hcm, hcs, htake⟩
  · have hr2 := run_append_nil (P := Tryd.prog) w 25 ty 9 i (.string ⟨#[]⟩) Tryd.underlying25 hi hz a0 m c news hl2 hnews' hm (by omega) (by rw [hb]; omega)
    rw [hr] at hr2
    injection hr2 with e1 e2
    right; rw [e1]; rfl
  · by_cases hroom : n + m ≤ cap
    · have hfit : n * i.size + news.length ≤ cur.size := by rw [hs, hl, hcs]; omega
      have hr2 := run_append_room (P := Tryd.prog) w 25 ty 9 i Tryd.underlying25 hi g n cap cur hg a0 m c news hl2 hnews' h1 hroom hfit
      rw [hr] at hr2
      injection hr2 with e1 e2
      left; rw [e1]; rfl
    · have hlo : xs.length = n * i.size := by rw [hs]; exact hown.1
      have hr2 := run_append_grow (P := Tryd.prog) w 25 ty 9 i (.string ⟨#[]⟩) Tryd.underlying25 hi hz ⟨g, 0, none⟩ n cap xs hlo (hown.cells (g := g) rfl) a0 m c news hl2 hnews' (by omega) (by omega) (growslice_fits (by omega) (by rw [hb]; omega))
      rw [hr] at hr2
      injection hr2 with e1 e2
      right; rw [e1]; rfl
theorem setRow_id (w : World) (g : Nat) (cur : Array Value) (T : TypeId) (fz : Nat × Nat) (hg : w.heap[g]? = some (.cells cur T fz)) : w.setRow g cur = w := by
  obtain ⟨hp, tp, dr, os, out⟩ := w
  unfold World.setRow
  congr 1
  apply Array.ext_getElem?
  intro k
  simp only [Array.getElem?_modify]
  split
  · rename_i hk
    subst hk
    have hg' : hp[g]? = some (.cells cur T fz) := hg
    rw [hg']; rfl
  · rfl
theorem run_appE (w : World) (B ty : Nat) (v : Value) (n : Nat) (xs : List Value) (hown : w.ownsRow B 9 1 v n xs) (x : Value) (hx : x = .slice none 0 0 ∨ ∃ a c, x = .slice (some a) 0 c) :
    (Builtin.append_ #[25, 25] ty #[v, x]).run Tryd.prog w = .ok v w := by
  obtain ⟨i, hi, hz, hs, hb⟩ := info_parts infoS
  rcases hown.2 with ⟨rfl, rfl⟩ | ⟨g, cap, cur, rfl, hbg, hg, hnc, hcm, hcs, htake⟩
  · rcases hx with rfl | ⟨a, c, rfl⟩ <;>
      simp [Builtin.append_, run_underlying Tryd.underlying25, sizeOf, typeInfo, zeroValue, hi, hz, Builtin.lenOf, Builtin.firstCells, go_sem]
  · rcases hx with rfl | ⟨a, c, rfl⟩
    · have hr := run_append_room_src (P := Tryd.prog) w 25 25 ty 9 i Tryd.underlying25 hi g 0 n cap (.slice none 0 0) 0 [] (Src.ofNil w Tryd.underlying25 0) (by omega) (fun j hj => by simp at hj) (fun j hj => by simp at hj)
      rw [hr]; rfl
    · have hr := run_append_room (P := Tryd.prog) w 25 ty 9 i Tryd.underlying25 hi g n cap cur hg a 0 c [] (by simp) (fun j u hj => by simp at hj) (fun u hu => by simp at hu) (by omega) (by rw [hs, hcs]; simp; omega)
      rw [hr]
      have e := setRow_id w g cur 9 _ hg
      simp [e]
/-- The row grows: its blocks, and new ones, may turn. -/
structure Gr (o : Option Nat) (w w' : World) : Prop where
  os : w'.os = w.os
  tape : w'.tape = w.tape
  output : w'.output = w.output
  size : w.heap.size ≤ w'.heap.size
  block : ∀ k, k < w.heap.size → o ≠ some k → w'.heap[k]? = w.heap[k]?
theorem Gr.of {o : Option Nat} {w w' : World} (h : w.grownBy w' o) : Gr o w w' := ⟨h.os, h.tape, h.output, h.size, fun k hk hne => h.block k hk (fun e => hne e.symm)⟩
theorem Gr.below {o : Option Nat} {w w' : World} (h : Below w.heap.size w w') : Gr o w w' := ⟨h.os, h.tape, h.output, h.size, fun k hk _ => h.block k hk⟩
/-- The new row is the elder one, or lies behind. -/
def Nxt (o o' : Option Nat) (n : Nat) : Prop := o' = o ∨ ∀ k, o' = some k → n ≤ k
theorem Gr.trans {o o' : Option Nat} {a b c : World} (h : Gr o a b) (hn : Nxt o o' a.heap.size) (k : Gr o' b c) : Gr o a c := by
  refine ⟨k.os.trans h.os, k.tape.trans h.tape, k.output.trans h.output, Nat.le_trans h.size k.size, fun i hi hne => ?_⟩
  have h1 := h.size
  rw [k.block i (by omega) ?_, h.block i hi hne]
  rcases hn with rfl | hn
  · exact hne
  · intro e; have := hn i e; omega
theorem Nxt.trans {o o' o'' : Option Nat} {n m : Nat} (h : Nxt o o' n) (k : Nxt o' o'' m) (hnm : n ≤ m) : Nxt o o'' n := by
  rcases k with rfl | k
  · exact h
  · exact .inr fun i e => Nat.le_trans hnm (k i e)
theorem Gr.keeps {o : Option Nat} {S : Nat → Prop} {w w' : World} (h : Gr o w w') (hS : ∀ k, S k → o ≠ some k) : Keeps S w w' := by
  intro g c T fz hs hg _
  exact ⟨fz, by rw [h.block g (Array.getElem?_eq_some_iff.1 hg).1 (hS g hs)]; exact hg⟩
theorem Gr.row {o : Option Nat} {w w' : World} {x : Nat} {c : Array Value} {T : TypeId} {fz : Nat × Nat} (h : Gr o w w') (hx : w.heap[x]? = some (.cells c T fz)) (ho : o ≠ some x) : w'.heap[x]? = some (.cells c T fz) := by
  rw [h.block x (Array.getElem?_eq_some_iff.1 hx).1 ho]; exact hx
theorem wpList_appNs {ops : Array Oper} {rest : List Oper} {o : Oper} {a : Act} {w : World} {Q : Exit → Act → World → Prop} (hgd : o.guard = none) (s x : Operand)
    (ho : o.op = .call { callee := .builtin .append, args := #[s, x], argTypes := #[25, 25] }) (B : Nat) (v : Value) (L : List ByteArray) (hs : a.eval s = v) (hown : OwnN B w v L)
    {S : Nat → Prop} (u : Value) (R : List ByteArray) (hx : a.eval x = u) (hu : NAt S w u R) (hn : L.length + R.length ≤ 1000000) (hB : B ≤ w.heap.size)
    (h : ∀ v' w', OwnN B w' v' (L ++ R) → Gr v.ownBlock w w' → Nxt v.ownBlock v'.ownBlock w.heap.size → wpList Tryd.prog ops Q rest (a.put o.dst v') w') : wpList Tryd.prog ops Q (o :: rest) a w := by
  refine wpList_plain hgd fun K hK => ?_
  have key : ∃ v' w', (Builtin.append_ #[25, 25] o.type #[v, u]).run Tryd.prog w = .ok v' w' ∧ OwnN B w' v' (L ++ R) ∧ Gr v.ownBlock w w' ∧ Nxt v.ownBlock v'.ownBlock w.heap.size := by
    rcases hu with ⟨rfl, rfl⟩ | ⟨g1, o1, cap, arr, fz, rfl, h1, h2, h3, h4⟩
    · exact ⟨v, w, run_appE w B o.type v _ _ hown _ (.inl rfl), by rw [List.append_nil]; exact hown, Gr.below (Below.refl _ _), .inl rfl⟩
    · by_cases h0 : R.length = 0
      · have hR : R = [] := List.length_eq_zero_iff.1 h0
        subst hR
        exact ⟨v, w, run_appE w B o.type v _ _ hown _ (.inr ⟨_, _, rfl⟩), by rw [List.append_nil]; exact hown, Gr.below (Below.refl _ _), .inl rfl⟩
      · obtain ⟨v', w', hr, a1, a2, a3⟩ := run_appM w B o.type v L.length (L.map Value.string) hown ⟨g1, o1, none⟩ R.length cap (R.map Value.string) (by simp) (fun j t hj => by
            have hl : j < R.length := by
              rcases Nat.lt_or_ge j R.length with h | h
              · exact h
              · rw [List.getElem?_eq_none (by simpa using h)] at hj; cases hj
            rw [List.getElem?_map, List.getElem?_eq_getElem hl] at hj
            simp only [Option.map_some, Option.some.injEq] at hj
            subst hj
            have e2 : (⟨g1, o1, none⟩ : Addr).add j = ⟨g1, o1 + j, none⟩ := by unfold Addr.add; split <;> simp_all
            rw [e2, Lib.cell_of_heap h2]; exact h3 j hl) (fun t ht => by obtain ⟨_, _, rfl⟩ := List.mem_map.1 ht; rfl) (by omega) hn hB
        refine ⟨v', w', hr, ?_, Gr.of a2, ?_⟩
        · unfold OwnN
          rw [List.map_append, List.length_append]; exact a1
        · rcases a3 with a3 | a3
          · exact .inl a3
          · exact .inr fun k e => by rw [a3] at e; injection e with e; omega
  obtain ⟨v', w', hr, a1, a2, a3⟩ := key
  unfold Oper.wp execOp
  simp only [ho, resolve, invoke, builtin, Sem.run_bind, Sem.run_pure, Result.andThen_ok, List.map_toArray, List.map_cons, List.map_nil, hs, hx, hr]
  exact hK _ _ (h v' w' a1 a2 a3)
def RetBd (B : Nat) (e : Et) (lv : Value) (L : List ByteArray) (w : World) (r : Ending) (w' : World) : Prop :=
  ∃ v', r = .returned v' ∧ OwnN B w' v' (L ++ e.bnd) ∧ Gr lv.ownBlock w w' ∧ Nxt lv.ownBlock v'.ownBlock w.heap.size
def RetBd2 (B : Nat) (L ns bs : List ByteArray) (lv : Value) (w : World) (r : Ending) (w' : World) : Prop :=
  ∃ v', r = .returned v' ∧ OwnN B w' v' (L ++ (ns ++ bs)) ∧ Gr lv.ownBlock w w' ∧ Nxt lv.ownBlock v'.ownBlock w.heap.size
def BC (e : Et) : Prop := ∀ (S : Nat → Prop) (cs : Array Value) (w : World) (B : Nat) (lv : Value) (L : List ByteArray), Et.At S w e cs → OwnN B w lv L → B ≤ w.heap.size → (∀ x, S x → lv.ownBlock ≠ some x) → L.length + e.bnd.length ≤ 1000000 →
  Calls Tryd.prog 22 #[.agg cs, lv] w (RetBd B e lv L w)
theorem AAt.bnd {S : Nat → Prop} {w : World} {v : Value} {l : List Et} (h : AAt S w v l) : AAt (fun x => S x ∧ x < w.heap.size) w v l := by
  rcases h with h | ⟨g, o, cap, arr, fz, h1, h2, h3, h4, h5⟩
  · exact .inl h
  · exact .inr ⟨g, o, cap, arr, fz, h1, ⟨h2, (Array.getElem?_eq_some_iff.1 h3).1⟩, h3, Ets.At.bound l arr o h4, h5⟩
def BdInv (B : Nat) (ns : List ByteArray) (a : List Et) (L : List ByteArray) (o : Option Nat) (w : World) (vv iv : Value) (wr : World) : Prop :=
  ∃ j : Nat, j ≤ a.length ∧ iv = .int .i64 (j : Int) ∧ OwnN B wr vv (L ++ (ns ++ Et.bnds (a.take j))) ∧ Gr o w wr ∧ Nxt o vv.ownBlock w.heap.size
theorem bnds_take (a : List Et) (j : Nat) (h : j < a.length) : Et.bnds (a.take (j + 1)) = Et.bnds (a.take j) ++ a[j].bnd := by
  rw [take_snoc_et a j h, bnds_append]; simp [Et.bnds]
theorem bnds_take_len (a : List Et) (j : Nat) : (Et.bnds (a.take j)).length ≤ (Et.bnds a).length := by
  have h := bnds_append (a.take j) (a.drop j)
  rw [List.take_append_drop] at h
  rw [h, List.length_append]; omega
set_option maxHeartbeats 8000000 in
set_option maxRecDepth 100000 in
theorem bound_node (k : Int) (t : ByteArray) (ns : List ByteArray) (a : List Et) (ih : ∀ e ∈ a, BC e) (hl : a.length ≤ 100000) : BC (.mk k t ns a) := by
  intro S cs w B lv L hat hown hB hS hn
  rw [bnd_mk] at hn
  rw [List.length_append] at hn
  unfold RetBd
  rw [bnd_mk]
  rw [EAt_mk] at hat
  obtain ⟨nv, av, rfl, hm, hla⟩ := hat
  have o1 := hm.one
  have o2 := hla.one
  obtain ⟨no, nc, rfl⟩ := hm.form
  obtain ⟨ao, ac, rfl⟩ := hla.form
  obtain ⟨lo, lc, rfl⟩ := own_form hown
  have A1 := (Below.refl w.heap.size w).alloc (Nat.le_refl _) (.cells #[.int .i64 k, .string t, .slice no ns.length nc, .slice ao a.length ac] 28)
  have HB1 := Lib.hid A1
  have HE : Hid (EB (w.alloc (.cells #[.int .i64 k, .string t, .slice no ns.length nc, .slice ao a.length ac] 28)) w.heap.size k t (.slice no ns.length nc) (.slice ao a.length ac)) := alloc_at _ _
  have HM := Lib.hid (hm.keeps (Keeps.of_below A1))
  have HA := Lib.hid ((AAt.bnd (hla.keeps (Keeps.of_below A1))))
  have HO := Lib.hid (hown.below A1)
  have HS := Lib.hid hS
  have hol : ∀ x, (Value.slice lo L.length lc).ownBlock = some x → x < w.heap.size := fun x hx => (hown.lt hx).2
  have HOL := Lib.hid hol
  have IH := Lib.hid ih
  clear A1 hm hla hown hS hol ih
  go_enter Tryd.func22, Tryd.ntmps22
  go_upto_region 1 with fail
  generalize w.alloc (.cells #[.int .i64 k, .string t, .slice no ns.length nc, .slice ao a.length ac] 28) = W1 at HB1 HE HM HA HO ⊢
  obtain ⟨gs, hgs⟩ : ∃ gs, gs = w.heap.size := ⟨_, rfl⟩
  rw [← hgs] at HE
  simp only [← hgs]
  have hW1 : w.heap.size ≤ W1.heap.size := HB1.out.size
  have hgso : (Value.slice lo L.length lc).ownBlock ≠ some gs := fun e => by have := HOL.out gs e; omega
  clear hgs
  obtain ⟨c0, c1, c2, c3⟩ := EB.cell _ _ _ _ _ _ HE.out
  go_upto_region 2 with (at_builtin; refine wpList_appNs rfl (Operand.tmp 6) (Operand.tmp 8) rfl B (.slice lo L.length lc) L rfl HO.out _ ns rfl HM.out (by omega) (by omega) ?_; intro v1 W2 hown2 hg2 hn2; obtain ⟨R2, hR2⟩ : ∃ R, R = L ++ ns := ⟨_, rfl⟩; rw [← hR2] at hown2; have HR2 := Lib.hid hR2; clear hR2; obtain ⟨lo2, lc2, rfl⟩ := own_form hown2; have HO2 := Lib.hid hown2; have HG2 := Lib.hid hg2; have HN2 := Lib.hid hn2; clear hown2 hg2 hn2)
  have HE2 : Hid (EB W2 gs k t (.slice no ns.length nc) (.slice ao a.length ac)) := HG2.out.row HE.out hgso
  have H0 : Hid (BdInv B ns a L (Value.slice lo L.length lc).ownBlock W1 (.slice lo2 R2.length lc2) (.int .i64 0) W2) := ⟨0, Nat.zero_le _, rfl, by have h := HO2.out; rw [HR2.out] at h ⊢; rw [List.take_zero]; show OwnN B W2 _ (L ++ (ns ++ [])); rw [List.append_nil]; exact h, HG2.out, HN2.out⟩
  clear HO2 HG2 HN2 c0 c1 c2 c3
  obtain ⟨-, -, -, c3⟩ := EB.cell _ _ _ _ _ _ HE2.out
  go_wp2_with fail
  go_loopw [1, 5] (fun vv iv wr => BdInv B ns a L (Value.slice lo L.length lc).ownBlock W1 vv iv wr) (fun _ iv _ => a.length - (intOf iv).toNat)
  case atStart => exact H0.out
  case round =>
    clear H0 c3
    obtain ⟨j, hj, rfl, hown, hg, hnx⟩ := hrel
    have hER : EB wr gs k t (.slice no ns.length nc) (.slice ao a.length ac) := hg.row HE.out hgso
    obtain ⟨-, -, -, d3⟩ := EB.cell _ _ _ _ _ _ hER
    have HAr := Lib.hid (AAt.keeps HA.out (hg.keeps (S := fun x => S x ∧ x < W1.heap.size) (fun x hx => HS.out x hx.1)))
    have hw1 := hg.size
    have hlenR : (L ++ (ns ++ Et.bnds (a.take j))).length = L.length + (ns.length + (Et.bnds (a.take j)).length) := by rw [List.length_append, List.length_append]
    obtain ⟨RJ, hRJ⟩ : ∃ R, R = L ++ (ns ++ Et.bnds (a.take j)) := ⟨_, rfl⟩
    rw [← hRJ] at hown hlenR
    have HLR := Lib.hid hlenR
    have HRJ := Lib.hid hRJ
    clear hRJ hlenR
    obtain ⟨vo, vc, rfl⟩ := own_form hown
    have HOW := Lib.hid hown
    have HG := Lib.hid hg
    have HNX := Lib.hid hnx
    have HBT := Lib.hid (bnds_take_len a j)
    clear hER hown hg hnx
    by_cases hlt : j < a.length
    · have q1 : decide ((j : Int) < (a.length : Int)) = true := decide_eq_true (by omega)
      obtain ⟨g4, o4, k', t', mv', lv', rfl, hS4, -, hati, e0, e1, e2, e3, o1', o2'⟩ := HAr.out.get j hlt
      have hbt := bnds_take a j hlt
      have hb2 := bnds_take_len a (j + 1)
      have hb3 : (Et.bnds (a.take j)).length + a[j].bnd.length ≤ (Et.bnds a).length := by rw [hbt, List.length_append] at hb2; exact hb2
      have HC := Lib.hid (IH.out a[j] (List.getElem_mem hlt) (fun x => S x ∧ x < W1.heap.size) _ wr B _ _ hati HOW.out (by omega) (fun x hx => by
            rcases HNX.out with e | e
            · rw [e]; exact HS.out x hx.1
            · intro e2; have := e x e2; have := hx.2; omega) (by rw [HLR.out]; omega))
      have HBK := Lib.hid hbt
      clear hati hbt hb2 hb3
      go_wp2_with fail
      refine HC.out.mono ?_
      rintro r w9 ⟨v9, rfl, hown9, hg9, hn9⟩
      obtain ⟨R9, hR9⟩ : ∃ R, R = RJ ++ a[j].bnd := ⟨_, rfl⟩
      rw [← hR9] at hown9
      obtain ⟨vo9, vc9, rfl⟩ := own_form hown9
      have HREL : Hid (BdInv B ns a L (Value.slice lo L.length lc).ownBlock W1 (.slice vo9 R9.length vc9) (.int .i64 ((j : Int) + 1)) w9) := by
        refine ⟨j + 1, by omega, by go_num, ?_, HG.out.trans HNX.out hg9, HNX.out.trans hn9 hw1⟩
        rw [HBK.out]
        have e : L ++ (ns ++ (Et.bnds (a.take j) ++ a[j].bnd)) = L ++ (ns ++ Et.bnds (a.take j)) ++ a[j].bnd := by simp only [List.append_assoc]
        rw [e, ← HRJ.out, ← hR9]; exact hown9
      clear hown9 hg9 hn9 hR9
      go_wp2_with fail
      go_roundw
      case rel => exact HREL.out
      case measure => simp [intOf]; omega
    · have q1 : decide ((j : Int) < (a.length : Int)) = false := decide_eq_false (by omega)
      obtain rfl : j = a.length := by omega
      have HREL : Hid (RetBd2 B L ns (Et.bnds a) (Value.slice lo L.length lc) w (.returned (.slice vo RJ.length vc)) wr) := by
        refine ⟨_, rfl, ?_, (Gr.below HB1.out).trans (.inl rfl) HG.out, ?_⟩
        · have h := HOW.out
          have h2 := HRJ.out
          rw [List.take_length] at h2
          rw [← h2]
          exact h
        · rcases HNX.out with e | e
          · exact .inl e
          · exact .inr fun x hx => by have := e x hx; omega
      go_wp2_with fail
      go_ret
      exact HREL.out
theorem bound_any (e : Et) (hf : e.fine) (hs : e.size ≤ 100000) : BC e := by
  have key : ∀ N : Nat, N ≤ 100000 → ∀ (e : Et), e.size ≤ N → BC e := by
    intro N
    induction N with
    | zero => intro _ e he; cases e; simp [Et.size] at he
    | succ N IH =>
      intro hN e he
      obtain ⟨k, t, ns, a⟩ := e
      have hsz : Et.sizes a ≤ N := by simp only [Et.size] at he; omega
      have hl := length_esizes a
      refine bound_node k t ns a (fun e hm => ?_) (by omega)
      obtain ⟨j, hj, rfl⟩ := List.getElem_of_mem hm
      exact IH (by omega) _ (by have := esize_get a j hj; omega)
  exact key e.size hs e (Nat.le_refl _)
end Go.Proofs.YtmcgocbkjdacaaaDoor
