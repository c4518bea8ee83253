/- Rules: RulesLits, walked. -/
import Derived.Test.YthhaegncnoekbaaYAX
import Derived.Test.YthhaegncnoekbaaYAO
set_option linter.unusedVariables false
set_option linter.unusedSimpArgs false
namespace Go.Proofs.Ythhaegncnoekbaa
open Go.RowKit
/-- What is known of a slice of integers that came in: it is nil, or leads to a row of so many cells. -/
def IsRow (k : IntKind) (w : World) (a : Option Addr) (len cap : Nat) (zs : List Int) : Prop :=
  (a = none ∧ len = 0 ∧ cap = 0 ∧ zs = []) ∨
  ∃ x, a = some x ∧ len ≤ cap ∧ cap ≤ maxLen ∧ zs.length = cap ∧ (∀ i, i < zs.length → w.cell? (x.add i) = some (.int k (zs.getD i 0))) ∧ ∀ n ∈ zs, (Lit.int k n).wf = true
end Go.Proofs.Ythhaegncnoekbaa
namespace Go.Proofs.Ythhaegncnoekbaa
open Go.RowKit
/-- A slice of numbers that is read. -/
def Src (w : World) (ao : Option Addr) (len cap : Nat) (ms : List Int) : Prop :=
  ms.length = len ∧ ((ao = none ∧ len = 0 ∧ cap = 0) ∨ ∃ x, ao = some x ∧ ∀ j (h : j < ms.length), w.cell? (x.add j) = some (.int .i64 ms[j]))
theorem Src.below {w w' : World} {a : Option Addr} {len cap : Nat} {ms : List Int} (h : Src w a len cap ms) (hb : Below w.heap.size w w') : Src w' a len cap ms := by
  obtain ⟨h1, h2⟩ := h
  refine ⟨h1, ?_⟩
  rcases h2 with h | ⟨x, rfl, h⟩
  · exact .inl h
  · exact .inr ⟨x, rfl, fun j hj => by rw [hb.cell (World.block_lt_of_cell? w _ (h j hj))]; exact h j hj⟩
theorem Nums.none (w : World) (B : Nat) (hB : B ≤ w.heap.size) : Nums B (w.alloc (.cells #[] 3)) (.slice (some ⟨w.heap.size, 0, .none⟩) 0 0) [] := World.ownsRow_made w #[] 0 hB (by decide) rfl
theorem wp_appI {o : Oper} {a : Act} {w : World} {K : Act → World → Prop} {Q : Exit → Act → World → Prop} (s x : Operand)
    (ho : o.op = .call { callee := .builtin .append, args := #[s, x], argTypes := #[27, 27] }) (B : Nat) (v : Value) (ys ms : List Int) (hs : a.eval s = v) (hown : Nums B w v ys)
    (ao : Option Addr) (len cap : Nat) (hx : a.eval x = .slice ao len cap) (hsrc : Src w ao len cap ms) (hb : ys.length + ms.length ≤ 1000000000) (hB : B ≤ w.heap.size)
    (h : ∀ v' w', Nums B w' v' (ys ++ ms) → w.grownBy w' v.ownBlock → K (a.put o.dst v') w') : o.wp Try.prog a w K Q := by
  obtain ⟨i, hi, hz, hsz, hby⟩ := info_parts infoI
  obtain ⟨hl, hsrc⟩ := hsrc
  rcases hsrc with ⟨rfl, rfl, rfl⟩ | ⟨p, rfl, hc⟩
  · obtain rfl : ms = [] := List.length_eq_zero_iff.1 hl
    have hrun := run_append_owned_none (P := Try.prog) (w := w) B 27 o.type 3 i 1 Try.underlying27 hi v ys.length _ hown
    unfold Oper.wp execOp
    simp only [ho, resolve, invoke, builtin, Sem.run_bind, Sem.run_pure, Result.andThen_ok, List.map_toArray, List.map_cons, List.map_nil, hs, hx, hrun]
    exact h v w (by rw [List.append_nil]; exact hown) ⟨rfl, rfl, rfl, Nat.le_refl _, fun _ _ _ => rfl⟩
  · subst hl
    refine wp_append_own w s x 27 ho B 3 i (.int .i64 0) 1 8 Try.underlying27 hi hz hsz hby rfl (by decide) v ys.length _ hs hown p ms.length cap (ms.map (Value.int .i64)) hx (by simp) (fun j u hu => ?_) (fun u hu => ?_) (by unfold maxLen; omega) (by omega) hB ?_
    · rw [List.getElem?_map] at hu
      cases hq : ms[j]? with
      | none => rw [hq] at hu; simp at hu
      | some y =>
        rw [hq] at hu
        obtain ⟨hj, hy⟩ := List.getElem?_eq_some_iff.1 hq
        rw [hc j hj, ← hu, ← hy]; rfl
    · obtain ⟨y, _, rfl⟩ := List.mem_map.1 hu; rfl
    · intro v' w' h2 h3 _
      refine h v' w' ?_ h3
      unfold Nums
      rw [List.map_append, List.length_append]; exact h2
end Go.Proofs.Ythhaegncnoekbaa
namespace Go.Proofs.Ythhaegncnoekbaa
open Go Go.RowKit
set_option linter.unusedVariables false
set_option linter.unusedSimpArgs false
attribute [local go_sem] Oper.semAt_some
def tElse : ByteArray := ⟨#[101, 108, 115, 101]⟩
def tEl : ByteArray := ⟨#[40, 101, 108, 115, 101, 41]⟩
def sElse : Dt := .mk 3 tElse [] [] 1
theorem eP_is : oneOf tEl = .mk 4 ⟨#[]⟩ [] [sElse] 0 := by kernel_rfl
theorem eP_wf : (oneOf tEl).wf := wfb_is _ (by kernel_rfl)
theorem eP_nod : (oneOf tEl).nod = true := by kernel_rfl
theorem tbl_else : ∀ t ∈ tblS, (t.toList == tElse.toList) = false := by decide +kernel
theorem getD_else (i : Nat) : ((tblS.getD i ⟨#[]⟩).toList == tElse.toList) = false := by
  rw [List.getD_eq_getElem?_getD]
  cases h : tblS[i]? with
  | none => decide +kernel
  | some t => exact tbl_else t (List.mem_of_getElem? h)
theorem make_else (r : Rw) : r.make.isS tElse = false := by
  obtain ⟨k, n, l⟩ := r
  rw [Rw.make]
  unfold Dt.isS
  split
  · rfl
  · split
    · rfl
    · split
      · show ((3 : Int) == 3 && ((tblS.getD (n % 11).toNat ⟨#[]⟩).toList == tElse.toList)) = false
        rw [getD_else]; rfl
      · rfl
theorem rl_list (ls : List ByteArray) (l : List Dt) : roleOf ls (.mk 4 ⟨#[]⟩ [] l 0) = 0 := by unfold roleOf; exact if_pos (show (4 : Int) ≠ 3 by decide)
theorem rl_lit : roleOf [tElse] sElse = 2 := by kernel_rfl
theorem rl_var : roleOf [] sElse = 4 := by kernel_rfl
theorem mB_one (ls : List ByteArray) (d : Dt) : (oneOf tEl).mB ls (.mk 4 ⟨#[]⟩ [] [d] 0) = match sElse.mB ls d with | none => none | some r => some (r ++ []) := by
  rw [eP_is, mB_mk, rl_list, if_neg (by decide), if_neg (by decide), if_neg (by decide), if_neg (fun h => h rfl), if_neg (by decide), if_pos rfl]
  show mBs ls [sElse] [d] = _
  rw [mBs_cons, show mBs ls [] [] = some [] by rw [mBs]]
  cases sElse.mB ls d <;> rfl
theorem mB_lit (d : Dt) : (oneOf tEl).mB [tElse] (.mk 4 ⟨#[]⟩ [] [d] 0) = if d.isS tElse = true then some [] else none := by
  rw [mB_one]
  have e : sElse.mB [tElse] d = if d.isS tElse = true then some [] else none := by
    unfold sElse
    rw [mB_mk]
    exact if_pos rl_lit
  rw [e]
  cases d.isS tElse <;> rfl
theorem mB_var (d : Dt) : (oneOf tEl).mB [] (.mk 4 ⟨#[]⟩ [] [d] 0) = some [.mk sElse 0 d []] := by
  rw [mB_one]
  have e : sElse.mB [] d = some [.mk sElse 0 d []] := by
    unfold sElse
    rw [mB_mk, show roleOf [] (Dt.mk 3 tElse [] [] 1) = 4 from rl_var]
    rfl
  rw [e]; rfl
/-- A row of one datum in a block of its own. -/
theorem list1 {S : Nat → Prop} {w : World} {g : Nat} {d : Dt} {cs : Array Value} (h : Dt.At S w d cs) (h5 : cs.size = 5) (hg : w.heap[g]? = some (.cells cs 29 (0, 0))) : LAt (fun g => g < w.heap.size) w (.slice (some ⟨g, 0, none⟩) 1 1) [d] :=
  .inr ⟨g, 0, 1, cs, (0, 0), rfl, (Array.getElem?_eq_some_iff.1 hg).1, hg, Dts.At.of_get _ _ _ (fun j hj => by
    have e : j = 0 := by simp at hj; exact hj
    subst e
    exact ⟨cs, fun i hi => by simp, Dt.At.low _ _ h⟩), Nat.le_refl _⟩
theorem lits1 {w : World} {g : Nat} {s : ByteArray} (hg : w.heap[g]? = some (.cells #[.string s] 9 (0, 0))) : LitsAt w (.slice (some ⟨g, 0, none⟩) 1 1) [s] :=
  .inr ⟨g, 0, 1, _, (0, 0), rfl, hg, fun j hj => by
    have e : j = 0 := by simp at hj; exact hj
    subst e; rfl⟩
set_option maxHeartbeats 8000000 in
set_option maxRecDepth 100000 in
theorem lits_walk (l : List Rw) (ao : Option Addr) (ac : Nat) (bo : Option Addr) (bl bc : Nat) (zs : List Int) (w : World) (hR : RsAt w ao l) (hM : IsRow .i64 w bo bl bc zs) :
    Calls Try.prog 12 #[.slice ao l.length ac, .slice bo bl bc] w (RetBool true w) := by
  have BB := Lib.hid (Below.refl w.heap.size w)
  have HR := Lib.hid hR
  have HM := Lib.hid hM
  clear hR hM
  go_enter Try.func12, Try.ntmps12
  go_wp2_with (go_at_call 14; refine (known_any _).mono ?_; rintro e w1 ⟨rfl, hb⟩; replace BB := Lib.hid (BB.out.trans (hb.mono BB.out.size)); clear hb)
  refine (few_any l ao ac _ (HR.out.below BB.out)).mono ?_
  rintro e w2 ⟨r, rfl, hr, rfl⟩
  cases r with
  | false =>
    go_wp2_with fail
    go_ret
    exact ⟨rfl, BB.out⟩
  | true =>
    obtain ⟨hc, hdp⟩ := hr rfl
    clear hr
    by_cases h0 : l.length = 0
    · have q0 : ((l.length : Int) == 0) = true := by rw [beq_iff_eq]; omega
      go_wp2_with fail
      go_ret
      exact ⟨rfl, BB.out⟩
    · have q0 : ((l.length : Int) == 0) = false := by rw [beq_eq_false_iff_ne]; omega
      by_cases h20 : 20 < bl
      · have q1 : decide ((20 : Int) < (bl : Int)) = true := decide_eq_true (by omega)
        go_wp2_with fail
        go_ret
        exact ⟨rfl, BB.out⟩
      · have q1 : decide ((20 : Int) < (bl : Int)) = false := decide_eq_false (by omega)
        have hl0 : 0 < l.length := by omega
        obtain ⟨nl, hnl⟩ : ∃ n, l.length = n + 1 := ⟨l.length - 1, by omega⟩
        have F1 := Lib.hid (fun W => one_any tEl W (by decide))
        go_upto_region 6 with (go_at_call 17; refine (F1.out _).mono ?_; rintro e w3 ⟨cp, rfl, hatp, hb3⟩; obtain ⟨kp, tp, mpo, mpn, mpc, lpo, lpn, lpc, pp, rfl⟩ := At_slices hatp; have HATP := Lib.hid hatp; have HB3 := Lib.hid hb3; clear hatp hb3)
        obtain ⟨b, k', n', po, pl, pc, rfl, hlj, c0, c1, c2, i1, i2, hpl⟩ := (HR.out.below BB.out).get 0 hl0
        have hb4 : Below w1.heap.size w1 (w3.alloc (.cells #[.int .i64 kp, .string tp, .slice mpo mpn mpc, .slice lpo lpn lpc, .int .i64 pp] 29)) := HB3.out.alloc HB3.out.size _
        have c0' := cell_below hb4 c0
        have c1' := cell_below hb4 c1
        have c2' := cell_below hb4 c2
        have hcg := cnts_get l 0 hl0
        rw [hlj] at hcg
        simp only [Rw.cnt] at hcg
        have FMK := Lib.hid (make_any 1000000 (by decide) k' n' pl (by omega) i1 i2 po pc _ (hpl.below hb4))
        have HDE := Lib.hid (make_else (.mk k' n' pl))
        have HDS : Hid ((Rw.make (.mk k' n' pl)).wf ∧ (Rw.make (.mk k' n' pl)).size ≤ 900000) := ⟨make_wf _, by have := make_size (.mk k' n' pl); simp only [Rw.cnt] at this; omega⟩
        obtain ⟨d, hd⟩ : ∃ d, d = Rw.make (.mk k' n' pl) := ⟨_, rfl⟩
        rw [← hd] at FMK HDE HDS
        have hx0 := alloc_at w3 (.cells #[.int .i64 kp, .string tp, .slice mpo mpn mpc, .slice lpo lpn lpc, .int .i64 pp] 29)
        have HATP4 := Lib.hid (Dt.At.keeps (Keeps.of_below ((Below.refl w3.heap.size w3).alloc (Nat.le_refl _) (.cells #[.int .i64 kp, .string tp, .slice mpo mpn mpc, .slice lpo lpn lpc, .int .i64 pp] 29))) _ _ HATP.out)
        have HB4 := Lib.hid hb4
        have hs4 : (w3.alloc (.cells #[.int .i64 kp, .string tp, .slice mpo mpn mpc, .slice lpo lpn lpc, .int .i64 pp] 29)).heap.size = w3.heap.size + 1 := by simp
        clear c0 c1 c2 hb4 hlj hcg hd i1 i2 hpl
        generalize hW4 : w3.alloc (.cells #[.int .i64 kp, .string tp, .slice mpo mpn mpc, .slice lpo lpn lpc, .int .i64 pp] 29) = W4 at c0' c1' c2' FMK hx0 HATP4 HB4 hs4 ⊢
        clear hW4
        simp only [Nat.zero_mul, show b.add 0 = b from by unfold Addr.add; split <;> simp_all] at c0' c1' c2'
        go_upto_region 7 with (go_at_call 39; refine FMK.out.mono ?_; rintro e w5 ⟨cd, rfl, hatd, hb5⟩; obtain ⟨kd, td, mdo, mdn, mdc, ldo, ldn, ldc, pd, rfl⟩ := At_slices hatd; have HATD := Lib.hid hatd; have HB5 := Lib.hid hb5; clear hatd hb5)
        have hs5 := HB5.out.size
        have hb6 := (Below.refl w5.heap.size w5).alloc (Nat.le_refl _) (.cells #[.int .i64 kd, .string td, .slice mdo mdn mdc, .slice ldo ldn ldc, .int .i64 pd] 29)
        have hx1 := alloc_at w5 (.cells #[.int .i64 kd, .string td, .slice mdo mdn mdc, .slice ldo ldn ldc, .int .i64 pd] 29)
        have hx0' : (w5.alloc (.cells #[.int .i64 kd, .string td, .slice mdo mdn mdc, .slice ldo ldn ldc, .int .i64 pd] 29)).heap[w3.heap.size]? = some (Obj.cells #[.int .i64 kp, .string tp, .slice mpo mpn mpc, .slice lpo lpn lpc, .int .i64 pp] 29 (0, 0)) := (hb6.block _ (by omega)).trans ((HB5.out.block _ (by omega)).trans hx0)
        have HATP6 := Lib.hid (Dt.At.keeps (Keeps.of_below (HB5.out.trans (hb6.mono hs5))) _ _ HATP4.out)
        have HATD6 := Lib.hid (Dt.At.keeps (Keeps.of_below hb6) _ _ HATD.out)
        have HB6 := Lib.hid (HB4.out.trans ((HB5.out.trans (hb6.mono hs5)).mono HB4.out.size))
        have hs6 : (w5.alloc (.cells #[.int .i64 kd, .string td, .slice mdo mdn mdc, .slice ldo ldn ldc, .int .i64 pd] 29)).heap.size = w5.heap.size + 1 := by simp
        clear c0' c1' c2' hb6 hx0 HATP4 HATD HATP
        obtain ⟨g1, hg1⟩ : ∃ g, g = w3.heap.size := ⟨_, rfl⟩
        obtain ⟨g2, hg2⟩ : ∃ g, g = w5.heap.size := ⟨_, rfl⟩
        rw [← hg1] at hx0' ⊢
        rw [← hg2] at hx1 ⊢
        generalize hW6 : w5.alloc (.cells #[.int .i64 kd, .string td, .slice mdo mdn mdc, .slice ldo ldn ldc, .int .i64 pd] 29) = X at hx1 hx0' HATP6 HATD6 HB6 hs6 ⊢
        have hgx1 : g1 < X.heap.size := by omega
        have hgx2 : g2 < X.heap.size := by omega
        clear hW6 hg1 hg2 hs6 hs5 hs4
        have HC : Hid (∀ W, Below X.heap.size X W → (W.cell? ⟨g1, 0, none⟩ = some (.int .i64 kp) ∧ W.cell? ⟨g1, 1, none⟩ = some (.string tp) ∧ W.cell? ⟨g1, 2, none⟩ = some (.slice mpo mpn mpc) ∧ W.cell? ⟨g1, 3, none⟩ = some (.slice lpo lpn lpc) ∧ W.cell? ⟨g1, 4, none⟩ = some (.int .i64 pp)) ∧ W.cell? ⟨g2, 0, none⟩ = some (.int .i64 kd) ∧ W.cell? ⟨g2, 1, none⟩ = some (.string td) ∧ W.cell? ⟨g2, 2, none⟩ = some (.slice mdo mdn mdc) ∧ W.cell? ⟨g2, 3, none⟩ = some (.slice ldo ldn ldc) ∧ W.cell? ⟨g2, 4, none⟩ = some (.int .i64 pd)) := by
          intro W h
          have y0 := (h.block _ hgx1).trans hx0'
          have y1 := (h.block _ hgx2).trans hx1
          exact ⟨⟨by rw [Lib.cell_of_heap y0]; rfl, by rw [Lib.cell_of_heap y0]; rfl, by rw [Lib.cell_of_heap y0]; rfl, by rw [Lib.cell_of_heap y0]; rfl, by rw [Lib.cell_of_heap y0]; rfl⟩, by rw [Lib.cell_of_heap y1]; rfl, by rw [Lib.cell_of_heap y1]; rfl, by rw [Lib.cell_of_heap y1]; rfl, by rw [Lib.cell_of_heap y1]; rfl, by rw [Lib.cell_of_heap y1]; rfl⟩
        clear hx0' hx1
        have hA := (Below.refl X.heap.size X).alloc (Nat.le_refl _) (.cells #[.string ⟨#[101, 108, 115, 101]⟩] 9)
        obtain ⟨⟨e0, e1, e2, e3, e4⟩, f0, f1, f2, f3, f4⟩ := HC.out _ hA
        have hA2 : Below X.heap.size X ((X.alloc (.cells #[.string ⟨#[101, 108, 115, 101]⟩] 9)).alloc (.cells #[.int .i64 kd, .string td, .slice mdo mdn mdc, .slice ldo ldn ldc, .int .i64 pd] 29)) := hA.alloc hA.size _
        have hxl : ((X.alloc (.cells #[.string ⟨#[101, 108, 115, 101]⟩] 9)).alloc (.cells #[.int .i64 kd, .string td, .slice mdo mdn mdc, .slice ldo ldn ldc, .int .i64 pd] 29)).heap[X.heap.size]? = some (Obj.cells #[.string ⟨#[101, 108, 115, 101]⟩] 9 (0, 0)) := (Lib.alloc_old _ _ _ (by simp)).trans (alloc_at _ _)
        have hxd : ((X.alloc (.cells #[.string ⟨#[101, 108, 115, 101]⟩] 9)).alloc (.cells #[.int .i64 kd, .string td, .slice mdo mdn mdc, .slice ldo ldn ldc, .int .i64 pd] 29)).heap[X.heap.size + 1]? = some (Obj.cells #[.int .i64 kd, .string td, .slice mdo mdn mdc, .slice ldo ldn ldc, .int .i64 pd] 29 (0, 0)) := second2 _ _ _
        have HATD7 := Dt.At.keeps (Keeps.of_below hA2) _ _ HATD6.out
        have FM := Lib.hid (matchP_any [tElse] (.slice (some ⟨X.heap.size, 0, none⟩) 1 1) (oneOf tEl) (.mk 4 ⟨#[]⟩ [] [d] 0) _ _ _ (lits1 hxl) (by decide) (by decide) (Dt.At.low _ _ (Dt.At.keeps (Keeps.of_below hA2) _ _ HATP6.out)) (list_at (list1 HATD7 rfl hxd)) eP_wf eP_nod (by rw [eP_is]; decide) (by simp only [Dt.size, Dt.sizes]; have := HDS.out.2; omega))
        rw [mB_lit, HDE.out, if_neg (by decide)] at FM
        have HBA := Lib.hid hA2
        clear hA hxl hxd HATD7 hA2
        go_upto_region 8 with (go_at_call 24; refine FM.out.mono ?_; rintro e w8 ⟨v8, rfl, _, hv8, hb8⟩; obtain rfl := hv8 rfl; clear hv8; have HB8 := Lib.hid hb8; clear hb8)
        have hX8 : Below X.heap.size X w8 := HBA.out.trans (HB8.out.mono HBA.out.size)
        obtain ⟨ms, hms⟩ : ∃ ms, ms = zs.take bl := ⟨_, rfl⟩
        have HSRC : Hid (Src w8 bo bl bc ms ∧ ms.length ≤ 20 ∧ ∀ m ∈ ms, (Lit.int .i64 m).wf = true) := by
          have hw8 : Below w.heap.size w w8 := BB.out.trans ((HB6.out.mono BB.out.size).trans (hX8.mono (by have := BB.out.size; have := HB6.out.size; omega)))
          rcases HM.out with ⟨rfl, rfl, rfl, rfl⟩ | ⟨x, rfl, hle, _, hlen, hcell, hwf⟩
          · subst hms; exact ⟨⟨rfl, .inl ⟨rfl, rfl, rfl⟩⟩, by simp, fun m hm => by simp at hm⟩
          · have hl : ms.length = bl := by rw [hms, List.length_take]; omega
            refine ⟨⟨hl, .inr ⟨x, rfl, fun j hj => ?_⟩⟩, by omega, fun m hm => hwf m (List.mem_of_mem_take (hms ▸ hm))⟩
            have hjz : j < zs.length := by omega
            have h := cell_below hw8 (hcell j hjz)
            rw [h]
            congr 2
            simp only [hms, List.getElem_take, List.getD_eq_getElem?_getD, List.getElem?_eq_getElem hjz, Option.getD_some]
        clear hms
        have HN8 := Lib.hid (Nums.none w8 0 (Nat.zero_le _))
        have HSR8 := Lib.hid (HSRC.out.1.below ((Below.refl w8.heap.size w8).alloc (Nat.le_refl _) (.cells #[] 3)))
        have HX8 := Lib.hid hX8
        clear hX8 e0 e1 e2 e3 e4 f0 f1 f2 f3 f4
        have hz20 := HSRC.out.2.1
        go_upto_region 9 with (refine wpList_wanted (by rfl) fun K hK => ?_; refine wp_appI (Operand.tmp 43) (Operand.tmp 44) rfl 0 (.slice (some ⟨w8.heap.size, 0, none⟩) 0 0) [] ms rfl HN8.out bo bl bc rfl HSR8.out (by simp; omega) (Nat.zero_le _) ?_; intro vm w9 hn9 hg9; rw [List.nil_append] at hn9; have hm9 := hn9.at (by omega); obtain ⟨mo, mcap, rfl⟩ := hm9.form; have HM9 := Lib.hid hm9; have HG9 := Lib.hid hg9; clear hn9 hg9 hm9; refine hK _ _ ?_; clear hK K)
        have hb9 : Below w8.heap.size w8 w9 := ⟨HG9.out.os, HG9.out.tape, HG9.out.output, by have := HG9.out.size; simp at this; omega, fun k hk => (HG9.out.block k (by simp; omega) (fun e => by simp only [Value.ownBlock, Option.some.injEq] at e; omega)).trans (Lib.alloc_old _ _ _ hk)⟩
        have hbx9 := (Below.refl w9.heap.size w9).alloc (Nat.le_refl _) (.cells #[.int .i64 3, .string ⟨#[101, 108, 115, 101]⟩, .slice mo ms.length mcap, .slice none 0 0, .int .i64 0] 29)
        have hxs := alloc_at w9 (.cells #[.int .i64 3, .string ⟨#[101, 108, 115, 101]⟩, .slice mo ms.length mcap, .slice none 0 0, .int .i64 0] 29)
        have HATS : Hid (Dt.At (fun g => g < w9.heap.size) (w9.alloc (.cells #[.int .i64 3, .string ⟨#[101, 108, 115, 101]⟩, .slice mo ms.length mcap, .slice none 0 0, .int .i64 0] 29)) (.mk 3 tElse ms [] 0) #[.int .i64 3, .string ⟨#[101, 108, 115, 101]⟩, .slice mo ms.length mcap, .slice none 0 0, .int .i64 0]) := by
          show Dt.At _ _ _ _
          refine Dt.At.keeps (Keeps.of_below hbx9) _ _ ?_
          rw [At_mk]
          exact ⟨_, _, rfl, HM9.out.low, .inl ⟨rfl, rfl⟩⟩
        have HSW : Hid ((Dt.mk 3 tElse ms [] 0).wf ∧ (Dt.mk 3 tElse ms [] 0).isS tElse = true) := ⟨(wf_mk ..).2 ⟨fun _ => rfl, by decide, trivial, HSRC.out.2.2⟩, by unfold Dt.isS; simp [Dt.kind, Dt.text]⟩
        obtain ⟨sD, hsD⟩ : ∃ d, d = Dt.mk 3 tElse ms [] 0 := ⟨_, rfl⟩
        have hsz : sD.size = 1 := by rw [hsD]; rfl
        rw [← hsD] at HATS HSW
        have HX9 := Lib.hid (HX8.out.trans ((hb9.trans (hbx9.mono hb9.size)).mono HX8.out.size))
        have hs9 : (w9.alloc (.cells #[.int .i64 3, .string ⟨#[101, 108, 115, 101]⟩, .slice mo ms.length mcap, .slice none 0 0, .int .i64 0] 29)).heap.size = w9.heap.size + 1 := by simp
        obtain ⟨g9, hg9⟩ : ∃ g, g = w9.heap.size := ⟨_, rfl⟩
        rw [← hg9] at hxs HATS ⊢
        generalize hW9 : w9.alloc (.cells #[.int .i64 3, .string ⟨#[101, 108, 115, 101]⟩, .slice mo ms.length mcap, .slice none 0 0, .int .i64 0] 29) = Y at hxs HATS HX9 hs9 ⊢
        have hgy : g9 < Y.heap.size := by omega
        clear hW9 hg9 hs9 hbx9 hb9 hsD HG9 HM9 HN8 HSR8 HSRC
        have hxy := HX9.out.size
        have HCY : Hid (∀ W, Below Y.heap.size Y W → ((W.cell? ⟨g1, 0, none⟩ = some (.int .i64 kp) ∧ W.cell? ⟨g1, 1, none⟩ = some (.string tp) ∧ W.cell? ⟨g1, 2, none⟩ = some (.slice mpo mpn mpc) ∧ W.cell? ⟨g1, 3, none⟩ = some (.slice lpo lpn lpc) ∧ W.cell? ⟨g1, 4, none⟩ = some (.int .i64 pp)) ∧ W.cell? ⟨g2, 0, none⟩ = some (.int .i64 kd) ∧ W.cell? ⟨g2, 1, none⟩ = some (.string td) ∧ W.cell? ⟨g2, 2, none⟩ = some (.slice mdo mdn mdc) ∧ W.cell? ⟨g2, 3, none⟩ = some (.slice ldo ldn ldc) ∧ W.cell? ⟨g2, 4, none⟩ = some (.int .i64 pd)) ∧ W.cell? ⟨g9, 0, none⟩ = some (.int .i64 3) ∧ W.cell? ⟨g9, 1, none⟩ = some (.string ⟨#[101, 108, 115, 101]⟩) ∧ W.cell? ⟨g9, 2, none⟩ = some (.slice mo ms.length mcap) ∧ W.cell? ⟨g9, 3, none⟩ = some (.slice none 0 0) ∧ W.cell? ⟨g9, 4, none⟩ = some (.int .i64 0)) := by
          intro W h
          have y0 := (h.block _ hgy).trans hxs
          exact ⟨HC.out W (HX9.out.trans (h.mono hxy)), by rw [Lib.cell_of_heap y0]; rfl, by rw [Lib.cell_of_heap y0]; rfl, by rw [Lib.cell_of_heap y0]; rfl, by rw [Lib.cell_of_heap y0]; rfl, by rw [Lib.cell_of_heap y0]; rfl⟩
        clear hxs
        have HATPY := Lib.hid (Dt.At.low _ _ (Dt.At.keeps (Keeps.of_below HX9.out) _ _ HATP6.out))
        have HATDY := Lib.hid (Dt.At.low _ _ (Dt.At.keeps (Keeps.of_below HX9.out) _ _ HATD6.out))
        have hA := (Below.refl Y.heap.size Y).alloc (Nat.le_refl _) (.cells #[.string ⟨#[101, 108, 115, 101]⟩] 9)
        obtain ⟨⟨⟨e0, e1, e2, e3, e4⟩, _⟩, f0, f1, f2, f3, f4⟩ := HCY.out _ hA
        have hA2 : Below Y.heap.size Y ((Y.alloc (.cells #[.string ⟨#[101, 108, 115, 101]⟩] 9)).alloc (.cells #[.int .i64 3, .string ⟨#[101, 108, 115, 101]⟩, .slice mo ms.length mcap, .slice none 0 0, .int .i64 0] 29)) := hA.alloc hA.size _
        have hxl : ((Y.alloc (.cells #[.string ⟨#[101, 108, 115, 101]⟩] 9)).alloc (.cells #[.int .i64 3, .string ⟨#[101, 108, 115, 101]⟩, .slice mo ms.length mcap, .slice none 0 0, .int .i64 0] 29)).heap[Y.heap.size]? = some (Obj.cells #[.string ⟨#[101, 108, 115, 101]⟩] 9 (0, 0)) := (Lib.alloc_old _ _ _ (by simp)).trans (alloc_at _ _)
        have hxd : ((Y.alloc (.cells #[.string ⟨#[101, 108, 115, 101]⟩] 9)).alloc (.cells #[.int .i64 3, .string ⟨#[101, 108, 115, 101]⟩, .slice mo ms.length mcap, .slice none 0 0, .int .i64 0] 29)).heap[Y.heap.size + 1]? = some (Obj.cells #[.int .i64 3, .string ⟨#[101, 108, 115, 101]⟩, .slice mo ms.length mcap, .slice none 0 0, .int .i64 0] 29 (0, 0)) := second2 _ _ _
        have FM := Lib.hid (matchP_any [tElse] (.slice (some ⟨Y.heap.size, 0, none⟩) 1 1) (oneOf tEl) (.mk 4 ⟨#[]⟩ [] [sD] 0) _ _ _ (lits1 hxl) (by decide) (by decide) (Dt.At.low _ _ (Dt.At.keeps (Keeps.of_below hA2) _ _ HATPY.out)) (list_at (list1 (Dt.At.keeps (Keeps.of_below hA2) _ _ HATS.out) rfl hxd)) eP_wf eP_nod (by rw [eP_is]; decide) (by simp only [Dt.size, Dt.sizes]; omega))
        rw [mB_lit, HSW.out.2, if_pos rfl] at FM
        have HBA9 := Lib.hid hA2
        clear hA hxl hxd hA2
        go_upto_region 10 with (go_at_call 24; refine FM.out.mono ?_; rintro e w10 ⟨v10, rfl, hr10, _, hb10⟩; obtain ⟨ao10, cap10, rfl, _⟩ := hr10 _ rfl; clear hr10; have HB10 := Lib.hid hb10; clear hb10)
        have hY10 : Below Y.heap.size Y w10 := HBA9.out.trans (HB10.out.mono HBA9.out.size)
        clear e0 e1 e2 e3 e4 f0 f1 f2 f3 f4
        obtain ⟨⟨⟨e0, e1, e2, e3, e4⟩, f0, f1, f2, f3, f4⟩, _⟩ := HCY.out _ hY10
        have hA := (Below.refl w10.heap.size w10).alloc (Nat.le_refl _) (.cells #[.int .i64 kd, .string td, .slice mdo mdn mdc, .slice ldo ldn ldc, .int .i64 pd] 29)
        have hxd := alloc_at w10 (.cells #[.int .i64 kd, .string td, .slice mdo mdn mdc, .slice ldo ldn ldc, .int .i64 pd] 29)
        have hY11 := hY10.trans (hA.mono hY10.size)
        have FM2 := Lib.hid (matchP_any [] (.slice none 0 0) (oneOf tEl) (.mk 4 ⟨#[]⟩ [] [d] 0) _ _ _ (.inl ⟨rfl, rfl⟩) (by simp) (fun s h => by cases h) (Dt.At.low _ _ (Dt.At.keeps (Keeps.of_below hY11) _ _ HATPY.out)) (list_at (list1 (Dt.At.keeps (Keeps.of_below hY11) _ _ HATDY.out) rfl hxd)) eP_wf eP_nod (by rw [eP_is]; decide) (by simp only [Dt.size, Dt.sizes]; have := HDS.out.2; omega))
        rw [mB_var] at FM2
        have HY11 := Lib.hid hY11
        clear hA hxd hY10 hY11
        go_upto_region 11 with (go_at_call 24; refine FM2.out.mono ?_; rintro e w11 ⟨v11, rfl, hr11, _, hb11⟩; obtain ⟨ao11, cap11, rfl, hrow⟩ := hr11 _ rfl; clear hr11; have HB11 := Lib.hid hb11; clear hb11)
        obtain ⟨g11, rfl, n5, d5, a1, _, a3, an, ad⟩ := hrow 0 (by simp)
        obtain ⟨mv2, lv2, rfl, o52, o53⟩ := At_five ad
        have hY12 : Below Y.heap.size Y w11 := HY11.out.trans (HB11.out.mono HY11.out.size)
        obtain ⟨⟨_, z0, z1, z2, z3, z4⟩, _⟩ := HCY.out _ hY12
        have hg11 : w11.cell? ⟨g11, 6, none⟩ = some (.int .i64 d.kind) := a3 0 (by decide)
        have hg12 : w11.cell? ⟨g11, 7, none⟩ = some (.string d.text) := a3 1 (by decide)
        have hg13 : w11.cell? ⟨g11, 8, none⟩ = some mv2 := a3 2 (by decide)
        have hg14 : w11.cell? ⟨g11, 9, none⟩ = some lv2 := a3 3 (by decide)
        have hg15 : w11.cell? ⟨g11, 10, none⟩ = some (.int .i64 d.place) := a3 4 (by decide)
        have HD1 : Hid (Dt.At (fun g => g < w11.heap.size) w11 d #[.int .i64 d.kind, .string d.text, mv2, lv2, .int .i64 d.place]) := Dt.At.low _ _ ad
        have HD2 := Lib.hid (Dt.At.low _ _ (Dt.At.keeps (Keeps.of_below hY12) _ _ HATDY.out))
        have HC11 : Hid (∀ W, Below w11.heap.size w11 W → (W.cell? ⟨g11, 6, none⟩ = some (.int .i64 d.kind) ∧ W.cell? ⟨g11, 7, none⟩ = some (.string d.text) ∧ W.cell? ⟨g11, 8, none⟩ = some mv2 ∧ W.cell? ⟨g11, 9, none⟩ = some lv2 ∧ W.cell? ⟨g11, 10, none⟩ = some (.int .i64 d.place)) ∧ W.cell? ⟨g2, 0, none⟩ = some (.int .i64 kd) ∧ W.cell? ⟨g2, 1, none⟩ = some (.string td) ∧ W.cell? ⟨g2, 2, none⟩ = some (.slice mdo mdn mdc) ∧ W.cell? ⟨g2, 3, none⟩ = some (.slice ldo ldn ldc) ∧ W.cell? ⟨g2, 4, none⟩ = some (.int .i64 pd)) := by
          intro W h
          exact ⟨⟨cell_below h hg11, cell_below h hg12, cell_below h hg13, cell_below h hg14, cell_below h hg15⟩, cell_below h z0, cell_below h z1, cell_below h z2, cell_below h z3, cell_below h z4⟩
        have BB11 : Hid (Below w.heap.size w w11) := BB.out.trans ((HB6.out.mono BB.out.size).trans ((HX9.out.trans (hY12.mono hxy)).mono (by have := BB.out.size; have := HB6.out.size; omega)))
        clear hrow a1 a3 an ad hg11 hg12 hg13 hg14 hg15 z0 z1 z2 z3 z4 hY12 e0 e1 e2 e3 e4 f0 f1 f2 f3 f4
        refine wp_region_noPanic ?_
        refine wp_region_held_drew (S := Below w11.heap.size w11) (by kernel_rfl) ((Below.refl _ _).drew) (fun hHeld => ?_)
        have hsd : w11.drew.heap.size = w11.heap.size := rfl
        generalize w11.drew = V at hHeld hsd ⊢
        refine wpAnyH_take (i := 0) (v := ?v0) rfl (by kernel_rfl) (by kernel_rfl) (by kernel_rfl) (fun _ _ _ h => h) (Or.inl ⟨rfl, fun w' hw' => ?h0⟩) hHeld ?r0
        case h0 =>
          go_simp
          try with_reducible rfl
        simp only [List.getElem_toArray, List.getElem_cons_succ, List.getElem_cons_zero, Act.put, List.setIfInBounds_toArray, List.set_cons_zero, List.set_cons_succ]
        refine wpAnyH_take (i := 1) (v := Value.bool true) rfl (by kernel_rfl) (by kernel_rfl) (by kernel_rfl) (fun _ _ _ h => h) (Or.inl ⟨rfl, fun w' hw' => ?_⟩) hHeld ?_
        · go_simp
        simp only [List.getElem_toArray, List.getElem_cons_succ, List.getElem_cons_zero, Act.put, List.setIfInBounds_toArray, List.set_cons_zero, List.set_cons_succ]
        refine wpAnyH_take (i := 2) (v := Value.bool true) rfl (by kernel_rfl) (by kernel_rfl) (by kernel_rfl) (fun _ _ _ h => h) (Or.inl ⟨rfl, fun w' hw' => ?_⟩) hHeld ?_
        · go_simp
        simp only [List.getElem_toArray, List.getElem_cons_succ, List.getElem_cons_zero, Act.put, List.setIfInBounds_toArray, List.set_cons_zero, List.set_cons_succ]
        refine wpAnyH_take (i := 3) (v := Value.bool true) rfl (by kernel_rfl) (by kernel_rfl) (by kernel_rfl) (fun _ _ _ h => h) (Or.inl ⟨rfl, fun w' hw' => ?_⟩) hHeld ?_
        · go_simp
        simp only [List.getElem_toArray, List.getElem_cons_succ, List.getElem_cons_zero, Act.put, List.setIfInBounds_toArray, List.set_cons_zero, List.set_cons_succ]
        refine wpAnyH_take (i := 4) (v := Value.bool true) rfl (by kernel_rfl) (by kernel_rfl) (by kernel_rfl) (fun _ _ _ h => h) (Or.inl ⟨rfl, fun w' hw' => ?_⟩) hHeld ?_
        · go_simp
        simp only [List.getElem_toArray, List.getElem_cons_succ, List.getElem_cons_zero, Act.put, List.setIfInBounds_toArray, List.set_cons_zero, List.set_cons_succ]
        refine wpAnyH_take (i := 5) (v := Value.bool true) rfl (by kernel_rfl) (by kernel_rfl) (by kernel_rfl) (fun _ _ _ h => h) (Or.inl ⟨rfl, fun w' hw' => ?_⟩) hHeld ?_
        · go_simp
        simp only [List.getElem_toArray, List.getElem_cons_succ, List.getElem_cons_zero, Act.put, List.setIfInBounds_toArray, List.set_cons_zero, List.set_cons_succ]
        refine wpAnyH_take (i := 6) (v := ?v6) rfl (by kernel_rfl) (by kernel_rfl) (by kernel_rfl) (fun _ _ _ h => h) (Or.inl ⟨rfl, fun w' hw' => ?h6⟩) hHeld ?r6
        case h6 =>
          go_simp
          try with_reducible rfl
        simp only [List.getElem_toArray, List.getElem_cons_succ, List.getElem_cons_zero, Act.put, List.setIfInBounds_toArray, List.set_cons_zero, List.set_cons_succ]
        refine wpAnyH_take (i := 7) (v := ?v7) rfl (by kernel_rfl) (by kernel_rfl) (by kernel_rfl) (fun _ _ _ h => h) (Or.inl ⟨rfl, fun w' hw' => ?h7⟩) hHeld ?r7
        case h7 =>
          go_simp
          try with_reducible rfl
        simp only [List.getElem_toArray, List.getElem_cons_succ, List.getElem_cons_zero, Act.put, List.setIfInBounds_toArray, List.set_cons_zero, List.set_cons_succ]
        refine wpAnyH_take (i := 8) (v := Value.bool true) rfl (by kernel_rfl) (by kernel_rfl) (by kernel_rfl) (fun _ _ _ h => h) (Or.inl ⟨rfl, fun w' hw' => ?_⟩) hHeld ?_
        · go_simp
        simp only [List.getElem_toArray, List.getElem_cons_succ, List.getElem_cons_zero, Act.put, List.setIfInBounds_toArray, List.set_cons_zero, List.set_cons_succ]
        refine wpAnyH_take (i := 9) (v := Value.bool true) rfl (by kernel_rfl) (by kernel_rfl) (by kernel_rfl) (fun _ _ _ h => h) (Or.inl ⟨rfl, fun w' hw' => ?_⟩) hHeld ?_
        · go_simp
        simp only [List.getElem_toArray, List.getElem_cons_succ, List.getElem_cons_zero, Act.put, List.setIfInBounds_toArray, List.set_cons_zero, List.set_cons_succ]
        refine wpAnyH_take (i := 10) (v := Value.bool true) rfl (by kernel_rfl) (by kernel_rfl) (by kernel_rfl) (fun _ _ _ h => h) (Or.inl ⟨rfl, fun w' hw' => ?_⟩) hHeld ?_
        · go_simp
        simp only [List.getElem_toArray, List.getElem_cons_succ, List.getElem_cons_zero, Act.put, List.setIfInBounds_toArray, List.set_cons_zero, List.set_cons_succ]
        refine wpAnyH_take (i := 11) (v := Value.bool true) rfl (by kernel_rfl) (by kernel_rfl) (by kernel_rfl) (fun _ _ _ h => h) (Or.inl ⟨rfl, fun w' hw' => ?_⟩) hHeld ?_
        · go_simp
        simp only [List.getElem_toArray, List.getElem_cons_succ, List.getElem_cons_zero, Act.put, List.setIfInBounds_toArray, List.set_cons_zero, List.set_cons_succ]
        refine wpAnyH_take (i := 12) (v := Value.bool true) rfl (by kernel_rfl) (by kernel_rfl) (by kernel_rfl) (fun _ _ _ h => h) (Or.inl ⟨rfl, fun w' hw' => ?_⟩) hHeld ?_
        · go_simp
        simp only [List.getElem_toArray, List.getElem_cons_succ, List.getElem_cons_zero, Act.put, List.setIfInBounds_toArray, List.set_cons_zero, List.set_cons_succ]
        refine wpAnyH_take (i := 13) (v := Value.bool true) rfl (by kernel_rfl) (by kernel_rfl) (by kernel_rfl) (fun _ _ _ h => h) (Or.inl ⟨rfl, fun w' hw' => ?_⟩) hHeld ?_
        · go_simp
        simp only [List.getElem_toArray, List.getElem_cons_succ, List.getElem_cons_zero, Act.put, List.setIfInBounds_toArray, List.set_cons_zero, List.set_cons_succ]
        refine wpAnyH_take (i := 14) (v := ?v14) rfl (by kernel_rfl) (by kernel_rfl) (by kernel_rfl) (fun _ _ _ h => h) (Or.inl ⟨rfl, fun w' hw' => ?h14⟩) hHeld ?r14
        case h14 =>
          go_simp
          try with_reducible rfl
        simp only [List.getElem_toArray, List.getElem_cons_succ, List.getElem_cons_zero, Act.put, List.setIfInBounds_toArray, List.set_cons_zero, List.set_cons_succ]
        refine wpAnyH_take (i := 15) (v := ?v15) rfl (by kernel_rfl) (by kernel_rfl) (by kernel_rfl) (fun _ _ _ h => h) (Or.inl ⟨rfl, fun w' hw' => ?h15⟩) hHeld ?r15
        case h15 =>
          go_simp
          try with_reducible rfl
        simp only [List.getElem_toArray, List.getElem_cons_succ, List.getElem_cons_zero, Act.put, List.setIfInBounds_toArray, List.set_cons_zero, List.set_cons_succ]
        refine wpAnyH_take (i := 16) (v := Value.bool true) rfl (by kernel_rfl) (by kernel_rfl) (by kernel_rfl) (fun _ _ _ h => h) (Or.inl ⟨rfl, fun w' hw' => ?_⟩) hHeld ?_
        · go_simp
        simp only [List.getElem_toArray, List.getElem_cons_succ, List.getElem_cons_zero, Act.put, List.setIfInBounds_toArray, List.set_cons_zero, List.set_cons_succ]
        refine wpAnyH_take (i := 17) (v := Value.bool true) rfl (by kernel_rfl) (by kernel_rfl) (by kernel_rfl) (fun _ _ _ h => h) (Or.inl ⟨rfl, fun w' hw' => ?_⟩) hHeld ?_
        · go_simp
        simp only [List.getElem_toArray, List.getElem_cons_succ, List.getElem_cons_zero, Act.put, List.setIfInBounds_toArray, List.set_cons_zero, List.set_cons_succ]
        refine wpAnyH_take (i := 18) (v := Value.bool true) rfl (by kernel_rfl) (by kernel_rfl) (by kernel_rfl) (fun _ _ _ h => h) (Or.inl ⟨rfl, fun w' hw' => ?_⟩) hHeld ?_
        · go_simp
        simp only [List.getElem_toArray, List.getElem_cons_succ, List.getElem_cons_zero, Act.put, List.setIfInBounds_toArray, List.set_cons_zero, List.set_cons_succ]
        refine wpAnyH_take (i := 19) (v := ?v19) rfl (by kernel_rfl) (by kernel_rfl) (by kernel_rfl) (fun _ _ _ h => h) (Or.inl ⟨rfl, fun w' hw' => ?h19⟩) hHeld ?r19
        case h19 =>
          go_simp
          try with_reducible rfl
        simp only [List.getElem_toArray, List.getElem_cons_succ, List.getElem_cons_zero, Act.put, List.setIfInBounds_toArray, List.set_cons_zero, List.set_cons_succ]
        refine wpAnyH_take (i := 20) (v := ?v20) rfl (by kernel_rfl) (by kernel_rfl) (by kernel_rfl) (fun _ _ _ h => h) (Or.inl ⟨rfl, fun w' hw' => ?h20⟩) hHeld ?r20
        case h20 =>
          go_simp
          try with_reducible rfl
        simp only [List.getElem_toArray, List.getElem_cons_succ, List.getElem_cons_zero, Act.put, List.setIfInBounds_toArray, List.set_cons_zero, List.set_cons_succ]
        refine wpAnyH_take (i := 21) (v := ?v21) rfl (by kernel_rfl) (by kernel_rfl) (by kernel_rfl) (fun _ _ _ h => h) (Or.inl ⟨rfl, fun w' hw' => ?h21⟩) hHeld ?r21
        case h21 =>
          go_simp
          try with_reducible rfl
        simp only [List.getElem_toArray, List.getElem_cons_succ, List.getElem_cons_zero, Act.put, List.setIfInBounds_toArray, List.set_cons_zero, List.set_cons_succ]
        refine wpAnyH_take (i := 22) (v := ?v22) rfl (by kernel_rfl) (by kernel_rfl) (by kernel_rfl) (fun _ _ _ h => h) (Or.inl ⟨rfl, fun w' hw' => ?h22⟩) hHeld ?r22
        case h22 =>
          (obtain ⟨⟨e0, e1, e2, e3, e4⟩, f0, f1, f2, f3, f4⟩ := HC11.out w' hw'; go_simp)
          try with_reducible rfl
        simp only [List.getElem_toArray, List.getElem_cons_succ, List.getElem_cons_zero, Act.put, List.setIfInBounds_toArray, List.set_cons_zero, List.set_cons_succ]
        refine wpAnyH_take (i := 23) (v := ?v23) rfl (by kernel_rfl) (by kernel_rfl) (by kernel_rfl) (fun _ _ _ h => h) (Or.inl ⟨rfl, fun w' hw' => ?h23⟩) hHeld ?r23
        case h23 =>
          (obtain ⟨⟨e0, e1, e2, e3, e4⟩, f0, f1, f2, f3, f4⟩ := HC11.out w' hw'; go_simp)
          try with_reducible rfl
        simp only [List.getElem_toArray, List.getElem_cons_succ, List.getElem_cons_zero, Act.put, List.setIfInBounds_toArray, List.set_cons_zero, List.set_cons_succ]
        refine wpAnyH_ready (rs := [24]) (by kernel_rfl) (by simp) ?_
        refine (AllReadyH.cons rfl (fun K hK => ?_) AllReadyH.nil)
        go_simp
        refine (refsame_any 1000000000 (Nat.le_refl _) d d (by have := HDS.out.2; omega) _ _ _ _ V (Dt.At.keeps (Keeps.of_below hHeld) _ _ HD1.out) (Dt.At.keeps (Keeps.of_below hHeld) _ _ HD2.out)).mono ?_
        rintro e w24 ⟨rfl, hb24⟩
        rw [same_refl]
        have hHeld := hHeld.trans (hb24.mono (by omega))
        clear hb24
        refine hK.out _ _ hHeld (fun hHeld => ?_)
        clear hK K
        try simp only [List.getElem_toArray, List.getElem_cons_succ, List.getElem_cons_zero, Act.put, List.setIfInBounds_toArray, List.set_cons_zero, List.set_cons_succ]
        refine wpAnyH_take (i := 25) (v := ?v24) rfl (by kernel_rfl) (by kernel_rfl) (by kernel_rfl) (fun _ _ _ h => h) (Or.inl ⟨rfl, fun w' hw' => ?h24⟩) hHeld ?r24
        case h24 =>
          go_simp
          try with_reducible rfl
        simp only [List.getElem_toArray, List.getElem_cons_succ, List.getElem_cons_zero, Act.put, List.setIfInBounds_toArray, List.set_cons_zero, List.set_cons_succ]
        refine wpAnyH_take (i := 26) (v := ?v25) rfl (by kernel_rfl) (by kernel_rfl) (by kernel_rfl) (fun _ _ _ h => h) (Or.inl ⟨rfl, fun w' hw' => ?h25⟩) hHeld ?r25
        case h25 =>
          go_simp
          try with_reducible rfl
        simp only [List.getElem_toArray, List.getElem_cons_succ, List.getElem_cons_zero, Act.put, List.setIfInBounds_toArray, List.set_cons_zero, List.set_cons_succ]
        refine wpAnyH_done (by kernel_rfl) ?_ _
        refine NoPanic.normal ?_
        have hEnd := Lib.hid hHeld
        clear hHeld
        go_wp2_with fail
        go_ret
        exact ⟨rfl, BB11.out.trans (hEnd.out.mono BB11.out.size)⟩
end Go.Proofs.Ythhaegncnoekbaa
