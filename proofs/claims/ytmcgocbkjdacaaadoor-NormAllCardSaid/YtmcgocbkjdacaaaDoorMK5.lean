/- Make, at primitives. -/
import Derived.Test.YtmcgocbkjdacaaaDoorMK4
namespace Go.Proofs.YtmcgocbkjdacaaaDoor
open Go.RowKit Go.BigM
set_option linter.unusedVariables false
set_option linter.unusedSimpArgs false
def priT : List ByteArray := [⟨#[43]⟩, ⟨#[45]⟩, ⟨#[42]⟩, ⟨#[113, 117, 111, 116, 105, 101, 110, 116]⟩, ⟨#[114, 101, 109, 97, 105, 110, 100, 101, 114]⟩, ⟨#[60]⟩, ⟨#[61]⟩, ⟨#[101, 113, 63]⟩, ⟨#[99, 111, 110, 115]⟩, ⟨#[115, 101, 113]⟩, ⟨#[99, 97, 114]⟩, ⟨#[99, 100, 114]⟩, ⟨#[110, 117, 108, 108, 63]⟩, ⟨#[112, 97, 105, 114, 63]⟩, ⟨#[110, 111, 116]⟩, ⟨#[105, 110, 116, 101, 103, 101, 114, 63]⟩, ⟨#[115, 121, 109, 98, 111, 108, 63]⟩, ⟨#[101, 114, 114, 111, 114]⟩, ⟨#[99, 111, 110, 115]⟩, ⟨#[43]⟩, ⟨#[99, 97, 114]⟩]
theorem priT_ar (i : Nat) (h : i < 21) : (priT.getD i ⟨#[]⟩).size ≤ 100 ∧ 0 < arity (priT.getD i ⟨#[]⟩) ∧ arity (priT.getD i ⟨#[]⟩) ≤ 2 := by
  match i, h with
  | 0, _ => refine ⟨by decide, ?_⟩; simp [priT, arity, arityIn, prims, Lib.toList_data]
  | 1, _ => refine ⟨by decide, ?_⟩; simp [priT, arity, arityIn, prims, Lib.toList_data]
  | 2, _ => refine ⟨by decide, ?_⟩; simp [priT, arity, arityIn, prims, Lib.toList_data]
  | 3, _ => refine ⟨by decide, ?_⟩; simp [priT, arity, arityIn, prims, Lib.toList_data]
  | 4, _ => refine ⟨by decide, ?_⟩; simp [priT, arity, arityIn, prims, Lib.toList_data]
  | 5, _ => refine ⟨by decide, ?_⟩; simp [priT, arity, arityIn, prims, Lib.toList_data]
  | 6, _ => refine ⟨by decide, ?_⟩; simp [priT, arity, arityIn, prims, Lib.toList_data]
  | 7, _ => refine ⟨by decide, ?_⟩; simp [priT, arity, arityIn, prims, Lib.toList_data]
  | 8, _ => refine ⟨by decide, ?_⟩; simp [priT, arity, arityIn, prims, Lib.toList_data]
  | 9, _ => refine ⟨by decide, ?_⟩; simp [priT, arity, arityIn, prims, Lib.toList_data]
  | 10, _ => refine ⟨by decide, ?_⟩; simp [priT, arity, arityIn, prims, Lib.toList_data]
  | 11, _ => refine ⟨by decide, ?_⟩; simp [priT, arity, arityIn, prims, Lib.toList_data]
  | 12, _ => refine ⟨by decide, ?_⟩; simp [priT, arity, arityIn, prims, Lib.toList_data]
  | 13, _ => refine ⟨by decide, ?_⟩; simp [priT, arity, arityIn, prims, Lib.toList_data]
  | 14, _ => refine ⟨by decide, ?_⟩; simp [priT, arity, arityIn, prims, Lib.toList_data]
  | 15, _ => refine ⟨by decide, ?_⟩; simp [priT, arity, arityIn, prims, Lib.toList_data]
  | 16, _ => refine ⟨by decide, ?_⟩; simp [priT, arity, arityIn, prims, Lib.toList_data]
  | 17, _ => refine ⟨by decide, ?_⟩; simp [priT, arity, arityIn, prims, Lib.toList_data]
  | 18, _ => refine ⟨by decide, ?_⟩; simp [priT, arity, arityIn, prims, Lib.toList_data]
  | 19, _ => refine ⟨by decide, ?_⟩; simp [priT, arity, arityIn, prims, Lib.toList_data]
  | 20, _ => refine ⟨by decide, ?_⟩; simp [priT, arity, arityIn, prims, Lib.toList_data]
  | n + 21, h => exact absurd h (by omega)
set_option maxHeartbeats 8000000 in
set_option maxRecDepth 100000 in
theorem make13 (k n : Int) (pl : List Rw) (ih : ∀ r ∈ pl, MkC r) (w0 w : World) (g m : Nat) (sc : List ByteArray) (scv : Value) (P : Pre w0 w g m sc scv) (po : Option Addr) (pc : Nat) (hm : m + 2 * (1 + Rw.cnts pl) ≤ 50000) (hR : RsAt w0 po pl) (hk : I64 k) (hn : I64 n) (hq : k % 16 = 13) :
    Calls Tryd.prog 30 #[.pointer (some ⟨g, 0, none⟩), .agg #[.int .i64 k, .int .i64 n, .slice po pl.length pc], scv] w (RetMade sc g m (2 * (1 + Rw.cnts pl)) (4 * (1 + Rw.cnts pl)) w) := by
  have hb2 : Below w.heap.size w ((w.alloc (.cells #[.int .i64 k, .int .i64 n, .slice po pl.length pc] 53)).alloc (.cells Z4 28)) := ((Below.refl w.heap.size w).alloc (Nat.le_refl _) _).alloc (by simp) _
  have hz2 : ((w.alloc (.cells #[.int .i64 k, .int .i64 n, .slice po pl.length pc] 53)).alloc (.cells Z4 28)).heap[w.heap.size + 1]? = some (.cells Z4 28 (0, 0)) := by
    have h := alloc_at (w.alloc (.cells #[.int .i64 k, .int .i64 n, .slice po pl.length pc] 53)) (.cells Z4 28)
    have e : (w.alloc (.cells #[.int .i64 k, .int .i64 n, .slice po pl.length pc] 53)).heap.size = w.heap.size + 1 := by simp
    rw [e] at h; exact h
  have hs2 : ((w.alloc (.cells #[.int .i64 k, .int .i64 n, .slice po pl.length pc] 53)).alloc (.cells Z4 28)).heap.size = w.heap.size + 2 := by simp
  have hgw := P.cnt.lt
  have HB2 := Lib.hid hb2
  have HZ2 := Lib.hid hz2
  have HRW : Hid (((w.alloc (.cells #[.int .i64 k, .int .i64 n, .slice po pl.length pc] 53)).alloc (.cells Z4 28)).heap[w.heap.size]? = some (.cells #[.int .i64 k, .int .i64 n, .slice po pl.length pc] 53 (0, 0))) := (Lib.alloc_old _ _ _ (by simp)).trans (alloc_at w _)
  obtain ⟨so, sc1, rfl⟩ := P.scope.form
  have PP := Lib.hid P
  have hfew : sc.length ≤ 60000 := by have := P.few; omega
  have F0 := Lib.hid (fun w => within_is k 16 13 hk (by decide) (by decide) hq w)
  have F2 := Lib.hid (fun w => within_some n 21 hn (by decide) (by decide) w)
  have CST : ∀ W : World, W.alloc (.cells #[.string ⟨#[43]⟩, .string ⟨#[45]⟩, .string ⟨#[42]⟩, .string ⟨#[113, 117, 111, 116, 105, 101, 110, 116]⟩, .string ⟨#[114, 101, 109, 97, 105, 110, 100, 101, 114]⟩, .string ⟨#[60]⟩, .string ⟨#[61]⟩, .string ⟨#[101, 113, 63]⟩, .string ⟨#[99, 111, 110, 115]⟩, .string ⟨#[115, 101, 113]⟩, .string ⟨#[99, 97, 114]⟩, .string ⟨#[99, 100, 114]⟩, .string ⟨#[110, 117, 108, 108, 63]⟩, .string ⟨#[112, 97, 105, 114, 63]⟩, .string ⟨#[110, 111, 116]⟩, .string ⟨#[105, 110, 116, 101, 103, 101, 114, 63]⟩, .string ⟨#[115, 121, 109, 98, 111, 108, 63]⟩, .string ⟨#[101, 114, 114, 111, 114]⟩, .string ⟨#[99, 111, 110, 115]⟩, .string ⟨#[43]⟩, .string ⟨#[99, 97, 114]⟩] 9) = W.alloc (.cells (tcells priT) 9) := fun _ => rfl
  have HCS := Lib.hid CST
  have IH := Lib.hid ih
  have HR := Lib.hid hR
  have HN := Lib.hid hn
  clear ih hb2 hz2 hq hk hn hR CST
  go_enter Tryd.func30, Tryd.ntmps30
  go_wp2_with fail
  generalize (w.alloc (.cells #[.int .i64 k, .int .i64 n, .slice po pl.length pc] 53)).alloc (.cells #[.int .i64 0, .string ⟨#[]⟩, .slice none 0 0, .slice none 0 0] 28) = W2 at HB2 HZ2 hs2 HRW ⊢
  have cK : W2.cell? ⟨w.heap.size, 0, none⟩ = some (.int .i64 k) := by rw [Lib.cell_of_heap HRW.out]; rfl
  have cN : W2.cell? ⟨w.heap.size, 1, none⟩ = some (.int .i64 n) := by rw [Lib.cell_of_heap HRW.out]; rfl
  refine (F0.out _).mono ?_
  rintro e w5 ⟨rfl, rfl⟩
  go_upto_region 50 with fail
  rw [HCS.out]
  have hb3' : Below W2.heap.size W2 (W2.alloc (.cells (tcells priT) 9)) := (Below.refl _ _).alloc (Nat.le_refl _) _
  have hg3 := alloc_at W2 (.cells (tcells priT) 9)
  have hsz3 : (W2.alloc (.cells (tcells priT) 9)).heap.size = w.heap.size + 3 := by simp [hs2]
  rw [hs2] at hg3
  generalize W2.alloc (.cells (tcells priT) 9) = W3 at hb3' hg3 hsz3 ⊢
  have HB2' := Lib.hid (HB2.out.trans (hb3'.mono HB2.out.size))
  have HRW' := Lib.hid (row_below hb3' HRW.out)
  have HZ2' := Lib.hid (row_below hb3' HZ2.out)
  have cN3 : W3.cell? ⟨w.heap.size, 1, none⟩ = some (.int .i64 n) := cell_below hb3' cN
  clear HB2 HRW HZ2 cK cN hs2 hb3'
  go_wp2_with fail
  refine (F2.out _).mono ?_
  rintro e w6 ⟨s, hs, rfl, rfl⟩
  have e0 := tcells_get _ _ priT hg3 s hs
  obtain ⟨tt, ht⟩ : ∃ t, priT.getD s ⟨#[]⟩ = t := ⟨_, rfl⟩
  have hpa := priT_ar s hs
  rw [ht] at e0 hpa
  obtain ⟨qq, hqa⟩ : ∃ q, arity tt = q := ⟨_, rfl⟩
  rw [hqa] at hpa
  have hq3 : qq ≤ 3 := by omega
  have hqs : 0 < qq := hpa.2.1
  have HTS : Hid (tt.size ≤ 100) := hpa.1
  have FA := Lib.hid (fun w => refarity_any tt w)
  rw [hqa] at FA
  have HQA := Lib.hid hqa
  have hz3 : (W3.alloc (.cells Z4 28)).heap[w.heap.size + 3]? = some (.cells Z4 28 (0, 0)) := by rw [← hsz3]; exact alloc_at W3 _
  have HZ3 := Lib.hid hz3
  clear hz3 ht hpa hqa hg3 cN3 HCS
  go_upto_region 51 with (refine wpList_store_row rfl 28 _ _ rfl (w.heap.size + 3) #[.int .i64 10, .string tt, .slice none 0 0, .slice none 0 0] rfl rfl 28 Z4 HZ3.out info28 rfl rfl ?_)
  have he3 : (W3.alloc (.cells #[.int .i64 10, .string tt, .slice none 0 0, .slice none 0 0] 28)).heap[w.heap.size + 3]? = some (.cells #[.int .i64 10, .string tt, .slice none 0 0, .slice none 0 0] 28 (0, 0)) := by rw [← hsz3]; exact alloc_at W3 _
  have hb3 : Below W3.heap.size W3 (W3.alloc (.cells #[.int .i64 10, .string tt, .slice none 0 0, .slice none 0 0] 28)) := (Below.refl _ _).alloc (Nat.le_refl _) _
  have hs3 : (W3.alloc (.cells #[.int .i64 10, .string tt, .slice none 0 0, .slice none 0 0] 28)).heap.size = w.heap.size + 4 := by simp [hsz3]
  generalize W3.alloc (.cells #[.int .i64 10, .string tt, .slice none 0 0, .slice none 0 0] 28) = W0 at he3 hb3 hs3 ⊢
  have HB3 := Lib.hid (HB2'.out.trans (hb3.mono HB2'.out.size))
  have HRW3 := Lib.hid (row_below hb3 HRW'.out)
  have HZ3b := Lib.hid (row_below hb3 HZ2'.out)
  have P3 := Lib.hid (PP.out.below' HB3.out)
  obtain ⟨ge, hge⟩ : ∃ ge, ge = w.heap.size + 3 := ⟨_, rfl⟩
  rw [← hge] at he3
  simp only [← hge]
  have HE3 : Hid (EB W0 ge 10 tt (.slice none 0 0) (.slice none 0 0)) := he3
  have hgeb : ge < W0.heap.size := by omega
  have hgb : g < W0.heap.size := by omega
  have hne : ge ≠ g := by omega
  have hbW : w.heap.size < W0.heap.size := by omega
  have hbg : w.heap.size ≠ g := by omega
  have hbe : w.heap.size ≠ ge := by omega
  have hge1 : w.heap.size + 1 ≠ ge := by omega
  have hgeW : w.heap.size ≤ ge := by omega
  have hWW : w.heap.size + 3 ≤ W0.heap.size := by omega
  have hgw0 : w0.heap.size ≤ ge := by have := PP.out.maker; omega
  have HGE := Lib.hid hge
  clear hge hs3
  clear he3 hb3 HZ3 HRW' HB2' HZ2' e0 F0
  have H0 : Hid (LA W0 g ge qq m pl sc 10 tt (.slice none 0 0) (.int .i64 0) W0) := ⟨0, m, [], _, Nat.zero_le _, rfl, OwnA.nil _ _, HE3.out, MadeL.nil _ _, P3.out.cnt, rfl, by simp [Et.sizes], by omega, But2.refl _ _ _ _⟩
  go_wp2_with fail
  go_loopw [21] (fun iv wr => LA W0 g ge qq m pl sc 10 tt (.slice none 0 0) iv wr) (fun iv _ => qq - (intOf iv).toNat)
  case atStart => exact H0.out
  case round =>
    clear H0
    rename_i wv
    obtain ⟨i, m', l, av, hi, rfl, hown0, heb0, hM, hmk0, hl, hsz, hmm, hbut0⟩ := hrel
    obtain ⟨ao, ac, rfl⟩ : ∃ ao ac, av = .slice ao i ac := by
      obtain ⟨xs, ho, _⟩ := hown0
      rw [hl] at ho
      exact own_form ho
    have c1 := (EB.cell _ _ _ _ _ _ heb0).2.1
    have KB := Lib.hid hbut0
    have KO := Lib.hid hown0
    have KE := Lib.hid heb0
    have KM := Lib.hid hmk0
    clear hbut0 hown0 heb0 hmk0
    go_wp2_with fail
    refine (FA.out _).mono ?_
    rintro e wr ⟨rfl, hbx⟩
    have hown := KO.out.below hbx
    have heb : EB wr ge 10 tt (.slice none 0 0) (.slice ao i ac) := row_below hbx KE.out
    have hmk := KM.out.below hbx
    have hbut := KB.out.trans (But2.of (But.of (hbx.mono KB.out.size)))
    clear hbx KO KE KM KB
    have hs0 := hbut.size
    have HRr : Hid (wr.heap[w.heap.size]? = some (.cells #[.int .i64 k, .int .i64 n, .slice po pl.length pc] 53 (0, 0))) := (hbut.block _ hbW hbg hbe).trans HRW3.out
    have HPr : Hid (Pre w0 wr g m' sc (.slice so sc.length sc1)) := P3.out.move2 hbut hmk hM.le ⟨_, _, HE3.out⟩ hgw0
    by_cases hiq : i < qq
    · have q1 : decide ((i : Int) < (qq : Int)) = true := decide_eq_true (by omega)
      have c3 := (EB.cell _ _ _ _ _ _ heb).2.2.2
      have hi1 : i + 1 ≤ 1000000000 := by omega
      have hq5 : qq ≤ 100000 := by omega
      have hcl := cnts_take_le pl (i + 1)
      have hct := pcn_take pl i
      have HP := Lib.hid (part_any k n pl IH.out w0 wr.drew g m' sc _ (HPr.out.below' (Below.refl _ _).drew) po pc i (by omega) (by omega) HR.out HN.out)
      have HS0 : Hid (But2 W0.heap.size g ge wr wr.drew) := But2.drew2 _ _ _ _
      clear hcl hct
      go_upto_region 54 with fail
      refine wp_region_noPanic ?_
      refine wp_region_held_drew (S := But2 W0.heap.size g ge wr) (by kernel_rfl) (But2.drew2 _ _ _ _) (fun hHeld => ?_)
      refine wpAnyH_take (i := 0) (v := Value.pointer (some ⟨ge, 3, none⟩)) rfl (by kernel_rfl) (by kernel_rfl) (by kernel_rfl) (fun _ _ _ h => h) (Or.inl ⟨rfl, fun w' hw' => ?_⟩) hHeld ?_
      · go_simp
      simp only [List.getElem_toArray, List.getElem_cons_succ, List.getElem_cons_zero, Act.put, List.setIfInBounds_toArray, List.set_cons_zero, List.set_cons_succ]
      refine wpAnyH_take (i := 2) (v := Value.pointer (some ⟨g, 0, none⟩)) rfl (by kernel_rfl) (by kernel_rfl) (by kernel_rfl) (fun _ _ _ h => h) (Or.inl ⟨rfl, fun w' hw' => ?_⟩) hHeld ?_
      · go_simp
      simp only [List.getElem_toArray, List.getElem_cons_succ, List.getElem_cons_zero, Act.put, List.setIfInBounds_toArray, List.set_cons_zero, List.set_cons_succ]
      refine wpAnyH_take (i := 3) rfl (by kernel_rfl) (by kernel_rfl) (by kernel_rfl) (fun _ _ _ h => h) (yieldsIf_load_mid (by rfl) _ _ rfl w.heap.size 0 rfl [.int .i64 k, .int .i64 n, .slice po pl.length pc] _ (fun w' hw' => row_rangeB ((hw'.block w.heap.size hbW hbg hbe).trans HRr.out)) Tryd.underlying53 rfl info53) hHeld ?_
      simp only [List.getElem_toArray, List.getElem_cons_succ, List.getElem_cons_zero, Act.put, List.setIfInBounds_toArray, List.set_cons_zero, List.set_cons_succ]
      refine wpAnyH_take (i := 4) (v := Value.int .i64 (i : Int)) rfl (by kernel_rfl) (by kernel_rfl) (by kernel_rfl) (fun _ _ _ h => h) (Or.inl ⟨rfl, fun w' hw' => ?_⟩) hHeld ?_
      · go_simp
      simp only [List.getElem_toArray, List.getElem_cons_succ, List.getElem_cons_zero, Act.put, List.setIfInBounds_toArray, List.set_cons_zero, List.set_cons_succ]
      refine wpAnyH_take (i := 5) (v := Value.slice so sc.length sc1) rfl (by kernel_rfl) (by kernel_rfl) (by kernel_rfl) (fun _ _ _ h => h) (Or.inl ⟨rfl, fun w' hw' => ?_⟩) hHeld ?_
      · go_simp
      simp only [List.getElem_toArray, List.getElem_cons_succ, List.getElem_cons_zero, Act.put, List.setIfInBounds_toArray, List.set_cons_zero, List.set_cons_succ]
      refine wpAnyH_ready (rs := [1, 6]) (by kernel_rfl) (by simp) ?_
      refine (AllReadyH.cons rfl (fun K hK => ?_) (AllReadyH.cons rfl (fun K hK => ?_) AllReadyH.nil))
      · skip
        go_simp
        refine hK.out _ _ HS0.out (fun hHeld => ?_)
        clear hK K
        try simp only [List.getElem_toArray, List.getElem_cons_succ, List.getElem_cons_zero, Act.put, List.setIfInBounds_toArray, List.set_cons_zero, List.set_cons_succ]
        refine wpAnyH_ready (rs := [6]) (by kernel_rfl) (by simp) ?_
        refine (AllReadyH.cons rfl (fun K hK => ?_) AllReadyH.nil)
        go_simp
        refine HP.out.mono ?_
        rintro e w7 ⟨cs, t, m'', rfl, hat, hMt, htz, hm'', hmk7, hb7⟩
        have hb7 : But wr.heap.size g wr w7 := ((But.refl wr.heap.size g wr).drew).trans hb7
        obtain ⟨k5, t5, nv5, av5, rfl, o1, o2⟩ := EAt_form hat
        obtain ⟨S7, c7, S8, c8, xs, hx8, hB8, hc9⟩ := LA.step hiq hown heb hM hmk hl hq5 hsz hmm hbut hgb hgeb hne (Et.At.mono (fun _ h => h) _ _ hat) rfl hMt htz hm'' hmk7 hb7
        have HS7 := Lib.hid S7
        have HS8 := Lib.hid S8
        have HX := Lib.hid hx8
        have HB8 := Lib.hid hB8
        have HC := Lib.hid hc9
        have HONE : Hid (nv5.oneCell' = true ∧ av5.oneCell' = true) := ⟨o1, o2⟩
        have HBW := Lib.hid hb7.size
        clear hat hMt htz hm'' hmk7 hb7 S7 S8 hx8 hB8 hc9 o1 o2
        refine hK.out _ _ HS7.out (fun hHeld => ?_)
        clear hK K
        try simp only [List.getElem_toArray, List.getElem_cons_succ, List.getElem_cons_zero, Act.put, List.setIfInBounds_toArray, List.set_cons_zero, List.set_cons_succ]
        refine wpAnyH_ready (rs := [7]) (by kernel_rfl) (by simp) ?_
        refine (AllReadyH.cons rfl (fun K hK => ?_) AllReadyH.nil)
        go_simp
        refine hK.out _ _ HS8.out (fun hHeld => ?_)
        clear hK K
        try simp only [List.getElem_toArray, List.getElem_cons_succ, List.getElem_cons_zero, Act.put, List.setIfInBounds_toArray, List.set_cons_zero, List.set_cons_succ]
        refine wpAnyH_ready (rs := [8]) (by kernel_rfl) (by simp) ?_
        refine (AllReadyH.cons rfl (fun K hK => ?_) AllReadyH.nil)
        refine wp_app (Operand.tmp 198) (Operand.tmp 204) rfl W0.heap.size (.slice ao i ac) i xs rfl HX.out _ 1 rfl #[.int .i64 k5, .string t5, nv5, av5].toList rfl (row_cells _ _) (one_cells HONE.out) hi1 HB8.out ?_
        intro v' w9 hown9 hg9 hv9
        obtain ⟨ao', ac', rfl⟩ := own_form hown9
        obtain ⟨S9, e9, f9, S10, HREL⟩ := HC.out _ _ _ hown9 hg9 hv9
        have HS9 := Lib.hid S9
        have HS10 := Lib.hid S10
        have HR := Lib.hid HREL
        clear hown9 hg9 hv9 S9 S10 HREL
        refine hK.out _ _ HS9.out (fun hHeld => ?_)
        clear hK K
        try simp only [List.getElem_toArray, List.getElem_cons_succ, List.getElem_cons_zero, Act.put, List.setIfInBounds_toArray, List.set_cons_zero, List.set_cons_succ]
        refine wpAnyH_take (i := 9) (v := Value.pointer (some ⟨ge, 3, none⟩)) rfl (by kernel_rfl) (by kernel_rfl) (by kernel_rfl) (fun _ _ _ h => h) (Or.inl ⟨rfl, fun w' hw' => ?_⟩) hHeld ?_
        · go_simp
        simp only [List.getElem_toArray, List.getElem_cons_succ, List.getElem_cons_zero, Act.put, List.setIfInBounds_toArray, List.set_cons_zero, List.set_cons_succ]
        refine wpAnyH_ready (rs := [10]) (by kernel_rfl) (by simp) ?_
        refine (AllReadyH.cons rfl (fun K hK => ?_) AllReadyH.nil)
        go_simp
        refine hK.out _ _ HS10.out (fun hHeld => ?_)
        clear hK K
        try simp only [List.getElem_toArray, List.getElem_cons_succ, List.getElem_cons_zero, Act.put, List.setIfInBounds_toArray, List.set_cons_zero, List.set_cons_succ]
        refine wpAnyH_done (by kernel_rfl) ?_ _
        refine NoPanic.normal ?_
        clear hHeld
        go_wp2_with fail
        go_roundw
        case rel => exact HR.out
        case measure => simp [intOf]; omega
      · skip
        go_simp
        refine HP.out.mono ?_
        rintro e w7 ⟨cs, t, m'', rfl, hat, hMt, htz, hm'', hmk7, hb7⟩
        have hb7 : But wr.heap.size g wr w7 := ((But.refl wr.heap.size g wr).drew).trans hb7
        obtain ⟨k5, t5, nv5, av5, rfl, o1, o2⟩ := EAt_form hat
        obtain ⟨S7, c7, S8, c8, xs, hx8, hB8, hc9⟩ := LA.step hiq hown heb hM hmk hl hq5 hsz hmm hbut hgb hgeb hne (Et.At.mono (fun _ h => h) _ _ hat) rfl hMt htz hm'' hmk7 hb7
        have HS7 := Lib.hid S7
        have HS8 := Lib.hid S8
        have HX := Lib.hid hx8
        have HB8 := Lib.hid hB8
        have HC := Lib.hid hc9
        have HONE : Hid (nv5.oneCell' = true ∧ av5.oneCell' = true) := ⟨o1, o2⟩
        have HBW := Lib.hid hb7.size
        clear hat hMt htz hm'' hmk7 hb7 S7 S8 hx8 hB8 hc9 o1 o2
        refine hK.out _ _ HS7.out (fun hHeld => ?_)
        clear hK K
        try simp only [List.getElem_toArray, List.getElem_cons_succ, List.getElem_cons_zero, Act.put, List.setIfInBounds_toArray, List.set_cons_zero, List.set_cons_succ]
        refine wpAnyH_ready (rs := [1, 7]) (by kernel_rfl) (by simp) ?_
        refine (AllReadyH.cons rfl (fun K hK => ?_) (AllReadyH.cons rfl (fun K hK => ?_) AllReadyH.nil))
        · skip
          go_simp
          refine hK.out _ _ HS7.out (fun hHeld => ?_)
          clear hK K
          try simp only [List.getElem_toArray, List.getElem_cons_succ, List.getElem_cons_zero, Act.put, List.setIfInBounds_toArray, List.set_cons_zero, List.set_cons_succ]
          refine wpAnyH_ready (rs := [7]) (by kernel_rfl) (by simp) ?_
          refine (AllReadyH.cons rfl (fun K hK => ?_) AllReadyH.nil)
          go_simp
          refine hK.out _ _ HS8.out (fun hHeld => ?_)
          clear hK K
          try simp only [List.getElem_toArray, List.getElem_cons_succ, List.getElem_cons_zero, Act.put, List.setIfInBounds_toArray, List.set_cons_zero, List.set_cons_succ]
          refine wpAnyH_ready (rs := [8]) (by kernel_rfl) (by simp) ?_
          refine (AllReadyH.cons rfl (fun K hK => ?_) AllReadyH.nil)
          refine wp_app (Operand.tmp 198) (Operand.tmp 204) rfl W0.heap.size (.slice ao i ac) i xs rfl HX.out _ 1 rfl #[.int .i64 k5, .string t5, nv5, av5].toList rfl (row_cells _ _) (one_cells HONE.out) hi1 HB8.out ?_
          intro v' w9 hown9 hg9 hv9
          obtain ⟨ao', ac', rfl⟩ := own_form hown9
          obtain ⟨S9, e9, f9, S10, HREL⟩ := HC.out _ _ _ hown9 hg9 hv9
          have HS9 := Lib.hid S9
          have HS10 := Lib.hid S10
          have HR := Lib.hid HREL
          clear hown9 hg9 hv9 S9 S10 HREL
          refine hK.out _ _ HS9.out (fun hHeld => ?_)
          clear hK K
          try simp only [List.getElem_toArray, List.getElem_cons_succ, List.getElem_cons_zero, Act.put, List.setIfInBounds_toArray, List.set_cons_zero, List.set_cons_succ]
          refine wpAnyH_take (i := 9) (v := Value.pointer (some ⟨ge, 3, none⟩)) rfl (by kernel_rfl) (by kernel_rfl) (by kernel_rfl) (fun _ _ _ h => h) (Or.inl ⟨rfl, fun w' hw' => ?_⟩) hHeld ?_
          · go_simp
          simp only [List.getElem_toArray, List.getElem_cons_succ, List.getElem_cons_zero, Act.put, List.setIfInBounds_toArray, List.set_cons_zero, List.set_cons_succ]
          refine wpAnyH_ready (rs := [10]) (by kernel_rfl) (by simp) ?_
          refine (AllReadyH.cons rfl (fun K hK => ?_) AllReadyH.nil)
          go_simp
          refine hK.out _ _ HS10.out (fun hHeld => ?_)
          clear hK K
          try simp only [List.getElem_toArray, List.getElem_cons_succ, List.getElem_cons_zero, Act.put, List.setIfInBounds_toArray, List.set_cons_zero, List.set_cons_succ]
          refine wpAnyH_done (by kernel_rfl) ?_ _
          refine NoPanic.normal ?_
          clear hHeld
          go_wp2_with fail
          go_roundw
          case rel => exact HR.out
          case measure => simp [intOf]; omega
        · skip
          go_simp
          refine hK.out _ _ HS8.out (fun hHeld => ?_)
          clear hK K
          try simp only [List.getElem_toArray, List.getElem_cons_succ, List.getElem_cons_zero, Act.put, List.setIfInBounds_toArray, List.set_cons_zero, List.set_cons_succ]
          refine wpAnyH_ready (rs := [1]) (by kernel_rfl) (by simp) ?_
          refine (AllReadyH.cons rfl (fun K hK => ?_) AllReadyH.nil)
          go_simp
          refine hK.out _ _ HS8.out (fun hHeld => ?_)
          clear hK K
          try simp only [List.getElem_toArray, List.getElem_cons_succ, List.getElem_cons_zero, Act.put, List.setIfInBounds_toArray, List.set_cons_zero, List.set_cons_succ]
          refine wpAnyH_ready (rs := [8]) (by kernel_rfl) (by simp) ?_
          refine (AllReadyH.cons rfl (fun K hK => ?_) AllReadyH.nil)
          refine wp_app (Operand.tmp 198) (Operand.tmp 204) rfl W0.heap.size (.slice ao i ac) i xs rfl HX.out _ 1 rfl #[.int .i64 k5, .string t5, nv5, av5].toList rfl (row_cells _ _) (one_cells HONE.out) hi1 HB8.out ?_
          intro v' w9 hown9 hg9 hv9
          obtain ⟨ao', ac', rfl⟩ := own_form hown9
          obtain ⟨S9, e9, f9, S10, HREL⟩ := HC.out _ _ _ hown9 hg9 hv9
          have HS9 := Lib.hid S9
          have HS10 := Lib.hid S10
          have HR := Lib.hid HREL
          clear hown9 hg9 hv9 S9 S10 HREL
          refine hK.out _ _ HS9.out (fun hHeld => ?_)
          clear hK K
          try simp only [List.getElem_toArray, List.getElem_cons_succ, List.getElem_cons_zero, Act.put, List.setIfInBounds_toArray, List.set_cons_zero, List.set_cons_succ]
          refine wpAnyH_take (i := 9) (v := Value.pointer (some ⟨ge, 3, none⟩)) rfl (by kernel_rfl) (by kernel_rfl) (by kernel_rfl) (fun _ _ _ h => h) (Or.inl ⟨rfl, fun w' hw' => ?_⟩) hHeld ?_
          · go_simp
          simp only [List.getElem_toArray, List.getElem_cons_succ, List.getElem_cons_zero, Act.put, List.setIfInBounds_toArray, List.set_cons_zero, List.set_cons_succ]
          refine wpAnyH_ready (rs := [10]) (by kernel_rfl) (by simp) ?_
          refine (AllReadyH.cons rfl (fun K hK => ?_) AllReadyH.nil)
          go_simp
          refine hK.out _ _ HS10.out (fun hHeld => ?_)
          clear hK K
          try simp only [List.getElem_toArray, List.getElem_cons_succ, List.getElem_cons_zero, Act.put, List.setIfInBounds_toArray, List.set_cons_zero, List.set_cons_succ]
          refine wpAnyH_done (by kernel_rfl) ?_ _
          refine NoPanic.normal ?_
          clear hHeld
          go_wp2_with fail
          go_roundw
          case rel => exact HR.out
          case measure => simp [intOf]; omega
    · have q1 : decide ((i : Int) < (qq : Int)) = false := decide_eq_false (by omega)
      obtain rfl : i = qq := by omega
      have hz : wr.heap[w.heap.size + 1]? = some (.cells Z4 28 (0, 0)) := (hbut.block _ (by omega) (by omega) hge1).trans HZ3b.out
      have hcl := cnts_take_le pl i
      have hMM : Made sc m m' (.mk 10 tt [] l) := MadeL.node (sc := sc) (ns := []) (b := m) (by rw [List.append_nil]; exact hM) (Nat.le_refl _) (nms_self m).symm (by omega) (by simp) HTS.out (by decide) (by rw [hl]; simp [shapeB, textB, namesB, partsB, HQA.out]; omega)
      obtain ⟨hone, hfin⟩ := made_exit (c := 2 * (1 + Rw.cnts pl)) (s := 4 * (1 + Rw.cnts pl)) (sc := sc) (ns := []) (m := m) (a := 0) hz (.inl ⟨rfl, rfl⟩) (hown.at.mono (fun x hx => by have : W0.heap.size ≤ x := hx; omega)) hMM (by omega) (by omega) hmk ((But.of HB3.out).trans (hbut.to (by omega) (by omega))) hgw
      have HF := Lib.hid hfin
      have HZ := Lib.hid hz
      have HEB := Lib.hid heb
      clear hfin hz hown hM hMM heb hbut
      go_wp2_with (first | (refine wpList_load_row rfl 28 _ rfl ge rfl 28 #[.int .i64 10, .string tt, .slice none 0 0, .slice ao i ac] (0, 0) _ HEB.out Tryd.underlying28 rfl info28 ?_) | (refine wpList_store_row rfl 28 _ _ rfl (w.heap.size + 1) #[.int .i64 10, .string tt, .slice none 0 0, .slice ao i ac] rfl rfl 28 Z4 HZ.out info28 rfl hone ?_))
      refine bodyPost_ret (results_cell_row rfl _ _ (w.heap.size + 1) 28 #[.int .i64 10, .string tt, .slice none 0 0, .slice ao i ac] (0, 0) _ rfl (setRow_heap wr _ _ _ 28 _ HZ.out) Tryd.underlying28 rfl info28) rfl ?_
      exact HF.out
set_option maxHeartbeats 8000000 in
set_option maxRecDepth 100000 in
theorem make14 (k n : Int) (pl : List Rw) (ih : ∀ r ∈ pl, MkC r) (w0 w : World) (g m : Nat) (sc : List ByteArray) (scv : Value) (P : Pre w0 w g m sc scv) (po : Option Addr) (pc : Nat) (hm : m + 2 * (1 + Rw.cnts pl) ≤ 50000) (hR : RsAt w0 po pl) (hk : I64 k) (hn : I64 n) (hq : k % 16 = 14) :
    Calls Tryd.prog 30 #[.pointer (some ⟨g, 0, none⟩), .agg #[.int .i64 k, .int .i64 n, .slice po pl.length pc], scv] w (RetMade sc g m (2 * (1 + Rw.cnts pl)) (4 * (1 + Rw.cnts pl)) w) := by
  have hb2 : Below w.heap.size w ((w.alloc (.cells #[.int .i64 k, .int .i64 n, .slice po pl.length pc] 53)).alloc (.cells Z4 28)) := ((Below.refl w.heap.size w).alloc (Nat.le_refl _) _).alloc (by simp) _
  have hz2 : ((w.alloc (.cells #[.int .i64 k, .int .i64 n, .slice po pl.length pc] 53)).alloc (.cells Z4 28)).heap[w.heap.size + 1]? = some (.cells Z4 28 (0, 0)) := by
    have h := alloc_at (w.alloc (.cells #[.int .i64 k, .int .i64 n, .slice po pl.length pc] 53)) (.cells Z4 28)
    have e : (w.alloc (.cells #[.int .i64 k, .int .i64 n, .slice po pl.length pc] 53)).heap.size = w.heap.size + 1 := by simp
    rw [e] at h; exact h
  have hs2 : ((w.alloc (.cells #[.int .i64 k, .int .i64 n, .slice po pl.length pc] 53)).alloc (.cells Z4 28)).heap.size = w.heap.size + 2 := by simp
  have hgw := P.cnt.lt
  have HB2 := Lib.hid hb2
  have HZ2 := Lib.hid hz2
  have HRW : Hid (((w.alloc (.cells #[.int .i64 k, .int .i64 n, .slice po pl.length pc] 53)).alloc (.cells Z4 28)).heap[w.heap.size]? = some (.cells #[.int .i64 k, .int .i64 n, .slice po pl.length pc] 53 (0, 0))) := (Lib.alloc_old _ _ _ (by simp)).trans (alloc_at w _)
  obtain ⟨so, sc1, rfl⟩ := P.scope.form
  have PP := Lib.hid P
  have hfew : sc.length ≤ 60000 := by have := P.few; omega
  have F0 := Lib.hid (fun w => within_is k 16 14 hk (by decide) (by decide) hq w)
  have F2 := Lib.hid (fun w => within_some n 21 hn (by decide) (by decide) w)
  have CST : ∀ W : World, W.alloc (.cells #[.string ⟨#[43]⟩, .string ⟨#[45]⟩, .string ⟨#[42]⟩, .string ⟨#[113, 117, 111, 116, 105, 101, 110, 116]⟩, .string ⟨#[114, 101, 109, 97, 105, 110, 100, 101, 114]⟩, .string ⟨#[60]⟩, .string ⟨#[61]⟩, .string ⟨#[101, 113, 63]⟩, .string ⟨#[99, 111, 110, 115]⟩, .string ⟨#[115, 101, 113]⟩, .string ⟨#[99, 97, 114]⟩, .string ⟨#[99, 100, 114]⟩, .string ⟨#[110, 117, 108, 108, 63]⟩, .string ⟨#[112, 97, 105, 114, 63]⟩, .string ⟨#[110, 111, 116]⟩, .string ⟨#[105, 110, 116, 101, 103, 101, 114, 63]⟩, .string ⟨#[115, 121, 109, 98, 111, 108, 63]⟩, .string ⟨#[101, 114, 114, 111, 114]⟩, .string ⟨#[99, 111, 110, 115]⟩, .string ⟨#[43]⟩, .string ⟨#[99, 97, 114]⟩] 9) = W.alloc (.cells (tcells priT) 9) := fun _ => rfl
  have HCS := Lib.hid CST
  have IH := Lib.hid ih
  have HR := Lib.hid hR
  have HN := Lib.hid hn
  clear ih hb2 hz2 hq hk hn hR CST
  go_enter Tryd.func30, Tryd.ntmps30
  go_wp2_with fail
  generalize (w.alloc (.cells #[.int .i64 k, .int .i64 n, .slice po pl.length pc] 53)).alloc (.cells #[.int .i64 0, .string ⟨#[]⟩, .slice none 0 0, .slice none 0 0] 28) = W2 at HB2 HZ2 hs2 HRW ⊢
  have cK : W2.cell? ⟨w.heap.size, 0, none⟩ = some (.int .i64 k) := by rw [Lib.cell_of_heap HRW.out]; rfl
  have cN : W2.cell? ⟨w.heap.size, 1, none⟩ = some (.int .i64 n) := by rw [Lib.cell_of_heap HRW.out]; rfl
  refine (F0.out _).mono ?_
  rintro e w5 ⟨rfl, rfl⟩
  go_upto_region 50 with fail
  rw [HCS.out]
  have hb3' : Below W2.heap.size W2 (W2.alloc (.cells (tcells priT) 9)) := (Below.refl _ _).alloc (Nat.le_refl _) _
  have hg3 := alloc_at W2 (.cells (tcells priT) 9)
  have hsz3 : (W2.alloc (.cells (tcells priT) 9)).heap.size = w.heap.size + 3 := by simp [hs2]
  rw [hs2] at hg3
  generalize W2.alloc (.cells (tcells priT) 9) = W3 at hb3' hg3 hsz3 ⊢
  have HB2' := Lib.hid (HB2.out.trans (hb3'.mono HB2.out.size))
  have HRW' := Lib.hid (row_below hb3' HRW.out)
  have HZ2' := Lib.hid (row_below hb3' HZ2.out)
  have cN3 : W3.cell? ⟨w.heap.size, 1, none⟩ = some (.int .i64 n) := cell_below hb3' cN
  clear HB2 HRW HZ2 cK cN hs2 hb3'
  go_wp2_with fail
  refine (F2.out _).mono ?_
  rintro e w6 ⟨s, hs, rfl, rfl⟩
  have e0 := tcells_get _ _ priT hg3 s hs
  obtain ⟨tt, ht⟩ : ∃ t, priT.getD s ⟨#[]⟩ = t := ⟨_, rfl⟩
  have hpa := priT_ar s hs
  rw [ht] at e0 hpa
  obtain ⟨qq, hqa⟩ : ∃ q, arity tt = q := ⟨_, rfl⟩
  rw [hqa] at hpa
  have hq3 : qq ≤ 3 := by omega
  have hqs : 0 < qq := hpa.2.1
  have HTS : Hid (tt.size ≤ 100) := hpa.1
  have FA := Lib.hid (fun w => refarity_any tt w)
  rw [hqa] at FA
  have HQA := Lib.hid hqa
  have hz3 : (W3.alloc (.cells Z4 28)).heap[w.heap.size + 3]? = some (.cells Z4 28 (0, 0)) := by rw [← hsz3]; exact alloc_at W3 _
  have HZ3 := Lib.hid hz3
  clear hz3 ht hpa hqa hg3 cN3 HCS
  go_upto_region 51 with (refine wpList_store_row rfl 28 _ _ rfl (w.heap.size + 3) #[.int .i64 10, .string tt, .slice none 0 0, .slice none 0 0] rfl rfl 28 Z4 HZ3.out info28 rfl rfl ?_)
  have he3 : (W3.alloc (.cells #[.int .i64 10, .string tt, .slice none 0 0, .slice none 0 0] 28)).heap[w.heap.size + 3]? = some (.cells #[.int .i64 10, .string tt, .slice none 0 0, .slice none 0 0] 28 (0, 0)) := by rw [← hsz3]; exact alloc_at W3 _
  have hb3 : Below W3.heap.size W3 (W3.alloc (.cells #[.int .i64 10, .string tt, .slice none 0 0, .slice none 0 0] 28)) := (Below.refl _ _).alloc (Nat.le_refl _) _
  have hs3 : (W3.alloc (.cells #[.int .i64 10, .string tt, .slice none 0 0, .slice none 0 0] 28)).heap.size = w.heap.size + 4 := by simp [hsz3]
  generalize W3.alloc (.cells #[.int .i64 10, .string tt, .slice none 0 0, .slice none 0 0] 28) = W0 at he3 hb3 hs3 ⊢
  have HB3 := Lib.hid (HB2'.out.trans (hb3.mono HB2'.out.size))
  have HRW3 := Lib.hid (row_below hb3 HRW'.out)
  have HZ3b := Lib.hid (row_below hb3 HZ2'.out)
  have P3 := Lib.hid (PP.out.below' HB3.out)
  obtain ⟨ge, hge⟩ : ∃ ge, ge = w.heap.size + 3 := ⟨_, rfl⟩
  rw [← hge] at he3
  simp only [← hge]
  have HE3 : Hid (EB W0 ge 10 tt (.slice none 0 0) (.slice none 0 0)) := he3
  have hgeb : ge < W0.heap.size := by omega
  have hgb : g < W0.heap.size := by omega
  have hne : ge ≠ g := by omega
  have hbW : w.heap.size < W0.heap.size := by omega
  have hbg : w.heap.size ≠ g := by omega
  have hbe : w.heap.size ≠ ge := by omega
  have hge1 : w.heap.size + 1 ≠ ge := by omega
  have hgeW : w.heap.size ≤ ge := by omega
  have hWW : w.heap.size + 3 ≤ W0.heap.size := by omega
  have hgw0 : w0.heap.size ≤ ge := by have := PP.out.maker; omega
  have HGE := Lib.hid hge
  clear hge hs3
  clear he3 hb3 HZ3 HRW' HB2' HZ2' e0 F0
  have H0 : Hid (LA W0 g ge qq m pl sc 10 tt (.slice none 0 0) (.int .i64 0) W0) := ⟨0, m, [], _, Nat.zero_le _, rfl, OwnA.nil _ _, HE3.out, MadeL.nil _ _, P3.out.cnt, rfl, by simp [Et.sizes], by omega, But2.refl _ _ _ _⟩
  go_wp2_with fail
  go_loopw [21] (fun iv wr => LA W0 g ge qq m pl sc 10 tt (.slice none 0 0) iv wr) (fun iv _ => qq - (intOf iv).toNat)
  case atStart => exact H0.out
  case round =>
    clear H0
    rename_i wv
    obtain ⟨i, m', l, av, hi, rfl, hown0, heb0, hM, hmk0, hl, hsz, hmm, hbut0⟩ := hrel
    obtain ⟨ao, ac, rfl⟩ : ∃ ao ac, av = .slice ao i ac := by
      obtain ⟨xs, ho, _⟩ := hown0
      rw [hl] at ho
      exact own_form ho
    have c1 := (EB.cell _ _ _ _ _ _ heb0).2.1
    have KB := Lib.hid hbut0
    have KO := Lib.hid hown0
    have KE := Lib.hid heb0
    have KM := Lib.hid hmk0
    clear hbut0 hown0 heb0 hmk0
    go_wp2_with fail
    refine (FA.out _).mono ?_
    rintro e wr ⟨rfl, hbx⟩
    have hown := KO.out.below hbx
    have heb : EB wr ge 10 tt (.slice none 0 0) (.slice ao i ac) := row_below hbx KE.out
    have hmk := KM.out.below hbx
    have hbut := KB.out.trans (But2.of (But.of (hbx.mono KB.out.size)))
    clear hbx KO KE KM KB
    have hs0 := hbut.size
    have HRr : Hid (wr.heap[w.heap.size]? = some (.cells #[.int .i64 k, .int .i64 n, .slice po pl.length pc] 53 (0, 0))) := (hbut.block _ hbW hbg hbe).trans HRW3.out
    have HPr : Hid (Pre w0 wr g m' sc (.slice so sc.length sc1)) := P3.out.move2 hbut hmk hM.le ⟨_, _, HE3.out⟩ hgw0
    by_cases hiq : i < qq
    · have q1 : decide ((i : Int) < (qq : Int)) = true := decide_eq_true (by omega)
      have c3 := (EB.cell _ _ _ _ _ _ heb).2.2.2
      have hi1 : i + 1 ≤ 1000000000 := by omega
      have hq5 : qq ≤ 100000 := by omega
      have hcl := cnts_take_le pl (i + 1)
      have hct := pcn_take pl i
      have HP := Lib.hid (part_any k n pl IH.out w0 wr.drew g m' sc _ (HPr.out.below' (Below.refl _ _).drew) po pc i (by omega) (by omega) HR.out HN.out)
      have HS0 : Hid (But2 W0.heap.size g ge wr wr.drew) := But2.drew2 _ _ _ _
      clear hcl hct
      go_upto_region 54 with fail
      refine wp_region_noPanic ?_
      refine wp_region_held_drew (S := But2 W0.heap.size g ge wr) (by kernel_rfl) (But2.drew2 _ _ _ _) (fun hHeld => ?_)
      refine wpAnyH_take (i := 0) (v := Value.pointer (some ⟨ge, 3, none⟩)) rfl (by kernel_rfl) (by kernel_rfl) (by kernel_rfl) (fun _ _ _ h => h) (Or.inl ⟨rfl, fun w' hw' => ?_⟩) hHeld ?_
      · go_simp
      simp only [List.getElem_toArray, List.getElem_cons_succ, List.getElem_cons_zero, Act.put, List.setIfInBounds_toArray, List.set_cons_zero, List.set_cons_succ]
      refine wpAnyH_take (i := 2) (v := Value.pointer (some ⟨g, 0, none⟩)) rfl (by kernel_rfl) (by kernel_rfl) (by kernel_rfl) (fun _ _ _ h => h) (Or.inl ⟨rfl, fun w' hw' => ?_⟩) hHeld ?_
      · go_simp
      simp only [List.getElem_toArray, List.getElem_cons_succ, List.getElem_cons_zero, Act.put, List.setIfInBounds_toArray, List.set_cons_zero, List.set_cons_succ]
      refine wpAnyH_take (i := 3) rfl (by kernel_rfl) (by kernel_rfl) (by kernel_rfl) (fun _ _ _ h => h) (yieldsIf_load_mid (by rfl) _ _ rfl w.heap.size 0 rfl [.int .i64 k, .int .i64 n, .slice po pl.length pc] _ (fun w' hw' => row_rangeB ((hw'.block w.heap.size hbW hbg hbe).trans HRr.out)) Tryd.underlying53 rfl info53) hHeld ?_
      simp only [List.getElem_toArray, List.getElem_cons_succ, List.getElem_cons_zero, Act.put, List.setIfInBounds_toArray, List.set_cons_zero, List.set_cons_succ]
      refine wpAnyH_take (i := 4) (v := Value.int .i64 (i : Int)) rfl (by kernel_rfl) (by kernel_rfl) (by kernel_rfl) (fun _ _ _ h => h) (Or.inl ⟨rfl, fun w' hw' => ?_⟩) hHeld ?_
      · go_simp
      simp only [List.getElem_toArray, List.getElem_cons_succ, List.getElem_cons_zero, Act.put, List.setIfInBounds_toArray, List.set_cons_zero, List.set_cons_succ]
      refine wpAnyH_take (i := 5) (v := Value.slice so sc.length sc1) rfl (by kernel_rfl) (by kernel_rfl) (by kernel_rfl) (fun _ _ _ h => h) (Or.inl ⟨rfl, fun w' hw' => ?_⟩) hHeld ?_
      · go_simp
      simp only [List.getElem_toArray, List.getElem_cons_succ, List.getElem_cons_zero, Act.put, List.setIfInBounds_toArray, List.set_cons_zero, List.set_cons_succ]
      refine wpAnyH_ready (rs := [1, 6]) (by kernel_rfl) (by simp) ?_
      refine (AllReadyH.cons rfl (fun K hK => ?_) (AllReadyH.cons rfl (fun K hK => ?_) AllReadyH.nil))
      · skip
        go_simp
        refine hK.out _ _ HS0.out (fun hHeld => ?_)
        clear hK K
        try simp only [List.getElem_toArray, List.getElem_cons_succ, List.getElem_cons_zero, Act.put, List.setIfInBounds_toArray, List.set_cons_zero, List.set_cons_succ]
        refine wpAnyH_ready (rs := [6]) (by kernel_rfl) (by simp) ?_
        refine (AllReadyH.cons rfl (fun K hK => ?_) AllReadyH.nil)
        go_simp
        refine HP.out.mono ?_
        rintro e w7 ⟨cs, t, m'', rfl, hat, hMt, htz, hm'', hmk7, hb7⟩
        have hb7 : But wr.heap.size g wr w7 := ((But.refl wr.heap.size g wr).drew).trans hb7
        obtain ⟨k5, t5, nv5, av5, rfl, o1, o2⟩ := EAt_form hat
        obtain ⟨S7, c7, S8, c8, xs, hx8, hB8, hc9⟩ := LA.step hiq hown heb hM hmk hl hq5 hsz hmm hbut hgb hgeb hne (Et.At.mono (fun _ h => h) _ _ hat) rfl hMt htz hm'' hmk7 hb7
        have HS7 := Lib.hid S7
        have HS8 := Lib.hid S8
        have HX := Lib.hid hx8
        have HB8 := Lib.hid hB8
        have HC := Lib.hid hc9
        have HONE : Hid (nv5.oneCell' = true ∧ av5.oneCell' = true) := ⟨o1, o2⟩
        have HBW := Lib.hid hb7.size
        clear hat hMt htz hm'' hmk7 hb7 S7 S8 hx8 hB8 hc9 o1 o2
        refine hK.out _ _ HS7.out (fun hHeld => ?_)
        clear hK K
        try simp only [List.getElem_toArray, List.getElem_cons_succ, List.getElem_cons_zero, Act.put, List.setIfInBounds_toArray, List.set_cons_zero, List.set_cons_succ]
        refine wpAnyH_ready (rs := [7]) (by kernel_rfl) (by simp) ?_
        refine (AllReadyH.cons rfl (fun K hK => ?_) AllReadyH.nil)
        go_simp
        refine hK.out _ _ HS8.out (fun hHeld => ?_)
        clear hK K
        try simp only [List.getElem_toArray, List.getElem_cons_succ, List.getElem_cons_zero, Act.put, List.setIfInBounds_toArray, List.set_cons_zero, List.set_cons_succ]
        refine wpAnyH_ready (rs := [8]) (by kernel_rfl) (by simp) ?_
        refine (AllReadyH.cons rfl (fun K hK => ?_) AllReadyH.nil)
        refine wp_app (Operand.tmp 198) (Operand.tmp 204) rfl W0.heap.size (.slice ao i ac) i xs rfl HX.out _ 1 rfl #[.int .i64 k5, .string t5, nv5, av5].toList rfl (row_cells _ _) (one_cells HONE.out) hi1 HB8.out ?_
        intro v' w9 hown9 hg9 hv9
        obtain ⟨ao', ac', rfl⟩ := own_form hown9
        obtain ⟨S9, e9, f9, S10, HREL⟩ := HC.out _ _ _ hown9 hg9 hv9
        have HS9 := Lib.hid S9
        have HS10 := Lib.hid S10
        have HR := Lib.hid HREL
        clear hown9 hg9 hv9 S9 S10 HREL
        refine hK.out _ _ HS9.out (fun hHeld => ?_)
        clear hK K
        try simp only [List.getElem_toArray, List.getElem_cons_succ, List.getElem_cons_zero, Act.put, List.setIfInBounds_toArray, List.set_cons_zero, List.set_cons_succ]
        refine wpAnyH_take (i := 9) (v := Value.pointer (some ⟨ge, 3, none⟩)) rfl (by kernel_rfl) (by kernel_rfl) (by kernel_rfl) (fun _ _ _ h => h) (Or.inl ⟨rfl, fun w' hw' => ?_⟩) hHeld ?_
        · go_simp
        simp only [List.getElem_toArray, List.getElem_cons_succ, List.getElem_cons_zero, Act.put, List.setIfInBounds_toArray, List.set_cons_zero, List.set_cons_succ]
        refine wpAnyH_ready (rs := [10]) (by kernel_rfl) (by simp) ?_
        refine (AllReadyH.cons rfl (fun K hK => ?_) AllReadyH.nil)
        go_simp
        refine hK.out _ _ HS10.out (fun hHeld => ?_)
        clear hK K
        try simp only [List.getElem_toArray, List.getElem_cons_succ, List.getElem_cons_zero, Act.put, List.setIfInBounds_toArray, List.set_cons_zero, List.set_cons_succ]
        refine wpAnyH_done (by kernel_rfl) ?_ _
        refine NoPanic.normal ?_
        clear hHeld
        go_wp2_with fail
        go_roundw
        case rel => exact HR.out
        case measure => simp [intOf]; omega
      · skip
        go_simp
        refine HP.out.mono ?_
        rintro e w7 ⟨cs, t, m'', rfl, hat, hMt, htz, hm'', hmk7, hb7⟩
        have hb7 : But wr.heap.size g wr w7 := ((But.refl wr.heap.size g wr).drew).trans hb7
        obtain ⟨k5, t5, nv5, av5, rfl, o1, o2⟩ := EAt_form hat
        obtain ⟨S7, c7, S8, c8, xs, hx8, hB8, hc9⟩ := LA.step hiq hown heb hM hmk hl hq5 hsz hmm hbut hgb hgeb hne (Et.At.mono (fun _ h => h) _ _ hat) rfl hMt htz hm'' hmk7 hb7
        have HS7 := Lib.hid S7
        have HS8 := Lib.hid S8
        have HX := Lib.hid hx8
        have HB8 := Lib.hid hB8
        have HC := Lib.hid hc9
        have HONE : Hid (nv5.oneCell' = true ∧ av5.oneCell' = true) := ⟨o1, o2⟩
        have HBW := Lib.hid hb7.size
        clear hat hMt htz hm'' hmk7 hb7 S7 S8 hx8 hB8 hc9 o1 o2
        refine hK.out _ _ HS7.out (fun hHeld => ?_)
        clear hK K
        try simp only [List.getElem_toArray, List.getElem_cons_succ, List.getElem_cons_zero, Act.put, List.setIfInBounds_toArray, List.set_cons_zero, List.set_cons_succ]
        refine wpAnyH_ready (rs := [1, 7]) (by kernel_rfl) (by simp) ?_
        refine (AllReadyH.cons rfl (fun K hK => ?_) (AllReadyH.cons rfl (fun K hK => ?_) AllReadyH.nil))
        · skip
          go_simp
          refine hK.out _ _ HS7.out (fun hHeld => ?_)
          clear hK K
          try simp only [List.getElem_toArray, List.getElem_cons_succ, List.getElem_cons_zero, Act.put, List.setIfInBounds_toArray, List.set_cons_zero, List.set_cons_succ]
          refine wpAnyH_ready (rs := [7]) (by kernel_rfl) (by simp) ?_
          refine (AllReadyH.cons rfl (fun K hK => ?_) AllReadyH.nil)
          go_simp
          refine hK.out _ _ HS8.out (fun hHeld => ?_)
          clear hK K
          try simp only [List.getElem_toArray, List.getElem_cons_succ, List.getElem_cons_zero, Act.put, List.setIfInBounds_toArray, List.set_cons_zero, List.set_cons_succ]
          refine wpAnyH_ready (rs := [8]) (by kernel_rfl) (by simp) ?_
          refine (AllReadyH.cons rfl (fun K hK => ?_) AllReadyH.nil)
          refine wp_app (Operand.tmp 198) (Operand.tmp 204) rfl W0.heap.size (.slice ao i ac) i xs rfl HX.out _ 1 rfl #[.int .i64 k5, .string t5, nv5, av5].toList rfl (row_cells _ _) (one_cells HONE.out) hi1 HB8.out ?_
          intro v' w9 hown9 hg9 hv9
          obtain ⟨ao', ac', rfl⟩ := own_form hown9
          obtain ⟨S9, e9, f9, S10, HREL⟩ := HC.out _ _ _ hown9 hg9 hv9
          have HS9 := Lib.hid S9
          have HS10 := Lib.hid S10
          have HR := Lib.hid HREL
          clear hown9 hg9 hv9 S9 S10 HREL
          refine hK.out _ _ HS9.out (fun hHeld => ?_)
          clear hK K
          try simp only [List.getElem_toArray, List.getElem_cons_succ, List.getElem_cons_zero, Act.put, List.setIfInBounds_toArray, List.set_cons_zero, List.set_cons_succ]
          refine wpAnyH_take (i := 9) (v := Value.pointer (some ⟨ge, 3, none⟩)) rfl (by kernel_rfl) (by kernel_rfl) (by kernel_rfl) (fun _ _ _ h => h) (Or.inl ⟨rfl, fun w' hw' => ?_⟩) hHeld ?_
          · go_simp
          simp only [List.getElem_toArray, List.getElem_cons_succ, List.getElem_cons_zero, Act.put, List.setIfInBounds_toArray, List.set_cons_zero, List.set_cons_succ]
          refine wpAnyH_ready (rs := [10]) (by kernel_rfl) (by simp) ?_
          refine (AllReadyH.cons rfl (fun K hK => ?_) AllReadyH.nil)
          go_simp
          refine hK.out _ _ HS10.out (fun hHeld => ?_)
          clear hK K
          try simp only [List.getElem_toArray, List.getElem_cons_succ, List.getElem_cons_zero, Act.put, List.setIfInBounds_toArray, List.set_cons_zero, List.set_cons_succ]
          refine wpAnyH_done (by kernel_rfl) ?_ _
          refine NoPanic.normal ?_
          clear hHeld
          go_wp2_with fail
          go_roundw
          case rel => exact HR.out
          case measure => simp [intOf]; omega
        · skip
          go_simp
          refine hK.out _ _ HS8.out (fun hHeld => ?_)
          clear hK K
          try simp only [List.getElem_toArray, List.getElem_cons_succ, List.getElem_cons_zero, Act.put, List.setIfInBounds_toArray, List.set_cons_zero, List.set_cons_succ]
          refine wpAnyH_ready (rs := [1]) (by kernel_rfl) (by simp) ?_
          refine (AllReadyH.cons rfl (fun K hK => ?_) AllReadyH.nil)
          go_simp
          refine hK.out _ _ HS8.out (fun hHeld => ?_)
          clear hK K
          try simp only [List.getElem_toArray, List.getElem_cons_succ, List.getElem_cons_zero, Act.put, List.setIfInBounds_toArray, List.set_cons_zero, List.set_cons_succ]
          refine wpAnyH_ready (rs := [8]) (by kernel_rfl) (by simp) ?_
          refine (AllReadyH.cons rfl (fun K hK => ?_) AllReadyH.nil)
          refine wp_app (Operand.tmp 198) (Operand.tmp 204) rfl W0.heap.size (.slice ao i ac) i xs rfl HX.out _ 1 rfl #[.int .i64 k5, .string t5, nv5, av5].toList rfl (row_cells _ _) (one_cells HONE.out) hi1 HB8.out ?_
          intro v' w9 hown9 hg9 hv9
          obtain ⟨ao', ac', rfl⟩ := own_form hown9
          obtain ⟨S9, e9, f9, S10, HREL⟩ := HC.out _ _ _ hown9 hg9 hv9
          have HS9 := Lib.hid S9
          have HS10 := Lib.hid S10
          have HR := Lib.hid HREL
          clear hown9 hg9 hv9 S9 S10 HREL
          refine hK.out _ _ HS9.out (fun hHeld => ?_)
          clear hK K
          try simp only [List.getElem_toArray, List.getElem_cons_succ, List.getElem_cons_zero, Act.put, List.setIfInBounds_toArray, List.set_cons_zero, List.set_cons_succ]
          refine wpAnyH_take (i := 9) (v := Value.pointer (some ⟨ge, 3, none⟩)) rfl (by kernel_rfl) (by kernel_rfl) (by kernel_rfl) (fun _ _ _ h => h) (Or.inl ⟨rfl, fun w' hw' => ?_⟩) hHeld ?_
          · go_simp
          simp only [List.getElem_toArray, List.getElem_cons_succ, List.getElem_cons_zero, Act.put, List.setIfInBounds_toArray, List.set_cons_zero, List.set_cons_succ]
          refine wpAnyH_ready (rs := [10]) (by kernel_rfl) (by simp) ?_
          refine (AllReadyH.cons rfl (fun K hK => ?_) AllReadyH.nil)
          go_simp
          refine hK.out _ _ HS10.out (fun hHeld => ?_)
          clear hK K
          try simp only [List.getElem_toArray, List.getElem_cons_succ, List.getElem_cons_zero, Act.put, List.setIfInBounds_toArray, List.set_cons_zero, List.set_cons_succ]
          refine wpAnyH_done (by kernel_rfl) ?_ _
          refine NoPanic.normal ?_
          clear hHeld
          go_wp2_with fail
          go_roundw
          case rel => exact HR.out
          case measure => simp [intOf]; omega
    · have q1 : decide ((i : Int) < (qq : Int)) = false := decide_eq_false (by omega)
      obtain rfl : i = qq := by omega
      have hz : wr.heap[w.heap.size + 1]? = some (.cells Z4 28 (0, 0)) := (hbut.block _ (by omega) (by omega) hge1).trans HZ3b.out
      have hcl := cnts_take_le pl i
      have hMM : Made sc m m' (.mk 10 tt [] l) := MadeL.node (sc := sc) (ns := []) (b := m) (by rw [List.append_nil]; exact hM) (Nat.le_refl _) (nms_self m).symm (by omega) (by simp) HTS.out (by decide) (by rw [hl]; simp [shapeB, textB, namesB, partsB, HQA.out]; omega)
      obtain ⟨hone, hfin⟩ := made_exit (c := 2 * (1 + Rw.cnts pl)) (s := 4 * (1 + Rw.cnts pl)) (sc := sc) (ns := []) (m := m) (a := 0) hz (.inl ⟨rfl, rfl⟩) (hown.at.mono (fun x hx => by have : W0.heap.size ≤ x := hx; omega)) hMM (by omega) (by omega) hmk ((But.of HB3.out).trans (hbut.to (by omega) (by omega))) hgw
      have HF := Lib.hid hfin
      have HZ := Lib.hid hz
      have HEB := Lib.hid heb
      clear hfin hz hown hM hMM heb hbut
      go_wp2_with (first | (refine wpList_load_row rfl 28 _ rfl ge rfl 28 #[.int .i64 10, .string tt, .slice none 0 0, .slice ao i ac] (0, 0) _ HEB.out Tryd.underlying28 rfl info28 ?_) | (refine wpList_store_row rfl 28 _ _ rfl (w.heap.size + 1) #[.int .i64 10, .string tt, .slice none 0 0, .slice ao i ac] rfl rfl 28 Z4 HZ.out info28 rfl hone ?_))
      refine bodyPost_ret (results_cell_row rfl _ _ (w.heap.size + 1) 28 #[.int .i64 10, .string tt, .slice none 0 0, .slice ao i ac] (0, 0) _ rfl (setRow_heap wr _ _ _ 28 _ HZ.out) Tryd.underlying28 rfl info28) rfl ?_
      exact HF.out
set_option maxHeartbeats 8000000 in
set_option maxRecDepth 100000 in
theorem make15 (k n : Int) (pl : List Rw) (ih : ∀ r ∈ pl, MkC r) (w0 w : World) (g m : Nat) (sc : List ByteArray) (scv : Value) (P : Pre w0 w g m sc scv) (po : Option Addr) (pc : Nat) (hm : m + 2 * (1 + Rw.cnts pl) ≤ 50000) (hR : RsAt w0 po pl) (hk : I64 k) (hn : I64 n) (hq : k % 16 = 15) :
    Calls Tryd.prog 30 #[.pointer (some ⟨g, 0, none⟩), .agg #[.int .i64 k, .int .i64 n, .slice po pl.length pc], scv] w (RetMade sc g m (2 * (1 + Rw.cnts pl)) (4 * (1 + Rw.cnts pl)) w) := by
  have hb2 : Below w.heap.size w ((w.alloc (.cells #[.int .i64 k, .int .i64 n, .slice po pl.length pc] 53)).alloc (.cells Z4 28)) := ((Below.refl w.heap.size w).alloc (Nat.le_refl _) _).alloc (by simp) _
  have hz2 : ((w.alloc (.cells #[.int .i64 k, .int .i64 n, .slice po pl.length pc] 53)).alloc (.cells Z4 28)).heap[w.heap.size + 1]? = some (.cells Z4 28 (0, 0)) := by
    have h := alloc_at (w.alloc (.cells #[.int .i64 k, .int .i64 n, .slice po pl.length pc] 53)) (.cells Z4 28)
    have e : (w.alloc (.cells #[.int .i64 k, .int .i64 n, .slice po pl.length pc] 53)).heap.size = w.heap.size + 1 := by simp
    rw [e] at h; exact h
  have hs2 : ((w.alloc (.cells #[.int .i64 k, .int .i64 n, .slice po pl.length pc] 53)).alloc (.cells Z4 28)).heap.size = w.heap.size + 2 := by simp
  have hgw := P.cnt.lt
  have HB2 := Lib.hid hb2
  have HZ2 := Lib.hid hz2
  have HRW : Hid (((w.alloc (.cells #[.int .i64 k, .int .i64 n, .slice po pl.length pc] 53)).alloc (.cells Z4 28)).heap[w.heap.size]? = some (.cells #[.int .i64 k, .int .i64 n, .slice po pl.length pc] 53 (0, 0))) := (Lib.alloc_old _ _ _ (by simp)).trans (alloc_at w _)
  obtain ⟨so, sc1, rfl⟩ := P.scope.form
  have PP := Lib.hid P
  have hfew : sc.length ≤ 60000 := by have := P.few; omega
  have F0 := Lib.hid (fun w => within_is k 16 15 hk (by decide) (by decide) hq w)
  have F2 := Lib.hid (fun w => within_some n 21 hn (by decide) (by decide) w)
  have CST : ∀ W : World, W.alloc (.cells #[.string ⟨#[43]⟩, .string ⟨#[45]⟩, .string ⟨#[42]⟩, .string ⟨#[113, 117, 111, 116, 105, 101, 110, 116]⟩, .string ⟨#[114, 101, 109, 97, 105, 110, 100, 101, 114]⟩, .string ⟨#[60]⟩, .string ⟨#[61]⟩, .string ⟨#[101, 113, 63]⟩, .string ⟨#[99, 111, 110, 115]⟩, .string ⟨#[115, 101, 113]⟩, .string ⟨#[99, 97, 114]⟩, .string ⟨#[99, 100, 114]⟩, .string ⟨#[110, 117, 108, 108, 63]⟩, .string ⟨#[112, 97, 105, 114, 63]⟩, .string ⟨#[110, 111, 116]⟩, .string ⟨#[105, 110, 116, 101, 103, 101, 114, 63]⟩, .string ⟨#[115, 121, 109, 98, 111, 108, 63]⟩, .string ⟨#[101, 114, 114, 111, 114]⟩, .string ⟨#[99, 111, 110, 115]⟩, .string ⟨#[43]⟩, .string ⟨#[99, 97, 114]⟩] 9) = W.alloc (.cells (tcells priT) 9) := fun _ => rfl
  have HCS := Lib.hid CST
  have IH := Lib.hid ih
  have HR := Lib.hid hR
  have HN := Lib.hid hn
  clear ih hb2 hz2 hq hk hn hR CST
  go_enter Tryd.func30, Tryd.ntmps30
  go_wp2_with fail
  generalize (w.alloc (.cells #[.int .i64 k, .int .i64 n, .slice po pl.length pc] 53)).alloc (.cells #[.int .i64 0, .string ⟨#[]⟩, .slice none 0 0, .slice none 0 0] 28) = W2 at HB2 HZ2 hs2 HRW ⊢
  have cK : W2.cell? ⟨w.heap.size, 0, none⟩ = some (.int .i64 k) := by rw [Lib.cell_of_heap HRW.out]; rfl
  have cN : W2.cell? ⟨w.heap.size, 1, none⟩ = some (.int .i64 n) := by rw [Lib.cell_of_heap HRW.out]; rfl
  refine (F0.out _).mono ?_
  rintro e w5 ⟨rfl, rfl⟩
  go_upto_region 50 with fail
  rw [HCS.out]
  have hb3' : Below W2.heap.size W2 (W2.alloc (.cells (tcells priT) 9)) := (Below.refl _ _).alloc (Nat.le_refl _) _
  have hg3 := alloc_at W2 (.cells (tcells priT) 9)
  have hsz3 : (W2.alloc (.cells (tcells priT) 9)).heap.size = w.heap.size + 3 := by simp [hs2]
  rw [hs2] at hg3
  generalize W2.alloc (.cells (tcells priT) 9) = W3 at hb3' hg3 hsz3 ⊢
  have HB2' := Lib.hid (HB2.out.trans (hb3'.mono HB2.out.size))
  have HRW' := Lib.hid (row_below hb3' HRW.out)
  have HZ2' := Lib.hid (row_below hb3' HZ2.out)
  have cN3 : W3.cell? ⟨w.heap.size, 1, none⟩ = some (.int .i64 n) := cell_below hb3' cN
  clear HB2 HRW HZ2 cK cN hs2 hb3'
  go_wp2_with fail
  refine (F2.out _).mono ?_
  rintro e w6 ⟨s, hs, rfl, rfl⟩
  have e0 := tcells_get _ _ priT hg3 s hs
  obtain ⟨tt, ht⟩ : ∃ t, priT.getD s ⟨#[]⟩ = t := ⟨_, rfl⟩
  have hpa := priT_ar s hs
  rw [ht] at e0 hpa
  obtain ⟨qq, hqa⟩ : ∃ q, arity tt = q := ⟨_, rfl⟩
  rw [hqa] at hpa
  have hq3 : qq ≤ 3 := by omega
  have hqs : 0 < qq := hpa.2.1
  have HTS : Hid (tt.size ≤ 100) := hpa.1
  have FA := Lib.hid (fun w => refarity_any tt w)
  rw [hqa] at FA
  have HQA := Lib.hid hqa
  have hz3 : (W3.alloc (.cells Z4 28)).heap[w.heap.size + 3]? = some (.cells Z4 28 (0, 0)) := by rw [← hsz3]; exact alloc_at W3 _
  have HZ3 := Lib.hid hz3
  clear hz3 ht hpa hqa hg3 cN3 HCS
  go_upto_region 51 with (refine wpList_store_row rfl 28 _ _ rfl (w.heap.size + 3) #[.int .i64 10, .string tt, .slice none 0 0, .slice none 0 0] rfl rfl 28 Z4 HZ3.out info28 rfl rfl ?_)
  have he3 : (W3.alloc (.cells #[.int .i64 10, .string tt, .slice none 0 0, .slice none 0 0] 28)).heap[w.heap.size + 3]? = some (.cells #[.int .i64 10, .string tt, .slice none 0 0, .slice none 0 0] 28 (0, 0)) := by rw [← hsz3]; exact alloc_at W3 _
  have hb3 : Below W3.heap.size W3 (W3.alloc (.cells #[.int .i64 10, .string tt, .slice none 0 0, .slice none 0 0] 28)) := (Below.refl _ _).alloc (Nat.le_refl _) _
  have hs3 : (W3.alloc (.cells #[.int .i64 10, .string tt, .slice none 0 0, .slice none 0 0] 28)).heap.size = w.heap.size + 4 := by simp [hsz3]
  generalize W3.alloc (.cells #[.int .i64 10, .string tt, .slice none 0 0, .slice none 0 0] 28) = W0 at he3 hb3 hs3 ⊢
  have HB3 := Lib.hid (HB2'.out.trans (hb3.mono HB2'.out.size))
  have HRW3 := Lib.hid (row_below hb3 HRW'.out)
  have HZ3b := Lib.hid (row_below hb3 HZ2'.out)
  have P3 := Lib.hid (PP.out.below' HB3.out)
  obtain ⟨ge, hge⟩ : ∃ ge, ge = w.heap.size + 3 := ⟨_, rfl⟩
  rw [← hge] at he3
  simp only [← hge]
  have HE3 : Hid (EB W0 ge 10 tt (.slice none 0 0) (.slice none 0 0)) := he3
  have hgeb : ge < W0.heap.size := by omega
  have hgb : g < W0.heap.size := by omega
  have hne : ge ≠ g := by omega
  have hbW : w.heap.size < W0.heap.size := by omega
  have hbg : w.heap.size ≠ g := by omega
  have hbe : w.heap.size ≠ ge := by omega
  have hge1 : w.heap.size + 1 ≠ ge := by omega
  have hgeW : w.heap.size ≤ ge := by omega
  have hWW : w.heap.size + 3 ≤ W0.heap.size := by omega
  have hgw0 : w0.heap.size ≤ ge := by have := PP.out.maker; omega
  have HGE := Lib.hid hge
  clear hge hs3
  clear he3 hb3 HZ3 HRW' HB2' HZ2' e0 F0
  have H0 : Hid (LA W0 g ge qq m pl sc 10 tt (.slice none 0 0) (.int .i64 0) W0) := ⟨0, m, [], _, Nat.zero_le _, rfl, OwnA.nil _ _, HE3.out, MadeL.nil _ _, P3.out.cnt, rfl, by simp [Et.sizes], by omega, But2.refl _ _ _ _⟩
  go_wp2_with fail
  go_loopw [21] (fun iv wr => LA W0 g ge qq m pl sc 10 tt (.slice none 0 0) iv wr) (fun iv _ => qq - (intOf iv).toNat)
  case atStart => exact H0.out
  case round =>
    clear H0
    rename_i wv
    obtain ⟨i, m', l, av, hi, rfl, hown0, heb0, hM, hmk0, hl, hsz, hmm, hbut0⟩ := hrel
    obtain ⟨ao, ac, rfl⟩ : ∃ ao ac, av = .slice ao i ac := by
      obtain ⟨xs, ho, _⟩ := hown0
      rw [hl] at ho
      exact own_form ho
    have c1 := (EB.cell _ _ _ _ _ _ heb0).2.1
    have KB := Lib.hid hbut0
    have KO := Lib.hid hown0
    have KE := Lib.hid heb0
    have KM := Lib.hid hmk0
    clear hbut0 hown0 heb0 hmk0
    go_wp2_with fail
    refine (FA.out _).mono ?_
    rintro e wr ⟨rfl, hbx⟩
    have hown := KO.out.below hbx
    have heb : EB wr ge 10 tt (.slice none 0 0) (.slice ao i ac) := row_below hbx KE.out
    have hmk := KM.out.below hbx
    have hbut := KB.out.trans (But2.of (But.of (hbx.mono KB.out.size)))
    clear hbx KO KE KM KB
    have hs0 := hbut.size
    have HRr : Hid (wr.heap[w.heap.size]? = some (.cells #[.int .i64 k, .int .i64 n, .slice po pl.length pc] 53 (0, 0))) := (hbut.block _ hbW hbg hbe).trans HRW3.out
    have HPr : Hid (Pre w0 wr g m' sc (.slice so sc.length sc1)) := P3.out.move2 hbut hmk hM.le ⟨_, _, HE3.out⟩ hgw0
    by_cases hiq : i < qq
    · have q1 : decide ((i : Int) < (qq : Int)) = true := decide_eq_true (by omega)
      have c3 := (EB.cell _ _ _ _ _ _ heb).2.2.2
      have hi1 : i + 1 ≤ 1000000000 := by omega
      have hq5 : qq ≤ 100000 := by omega
      have hcl := cnts_take_le pl (i + 1)
      have hct := pcn_take pl i
      have HP := Lib.hid (part_any k n pl IH.out w0 wr.drew g m' sc _ (HPr.out.below' (Below.refl _ _).drew) po pc i (by omega) (by omega) HR.out HN.out)
      have HS0 : Hid (But2 W0.heap.size g ge wr wr.drew) := But2.drew2 _ _ _ _
      clear hcl hct
      go_upto_region 54 with fail
      refine wp_region_noPanic ?_
      refine wp_region_held_drew (S := But2 W0.heap.size g ge wr) (by kernel_rfl) (But2.drew2 _ _ _ _) (fun hHeld => ?_)
      refine wpAnyH_take (i := 0) (v := Value.pointer (some ⟨ge, 3, none⟩)) rfl (by kernel_rfl) (by kernel_rfl) (by kernel_rfl) (fun _ _ _ h => h) (Or.inl ⟨rfl, fun w' hw' => ?_⟩) hHeld ?_
      · go_simp
      simp only [List.getElem_toArray, List.getElem_cons_succ, List.getElem_cons_zero, Act.put, List.setIfInBounds_toArray, List.set_cons_zero, List.set_cons_succ]
      refine wpAnyH_take (i := 2) (v := Value.pointer (some ⟨g, 0, none⟩)) rfl (by kernel_rfl) (by kernel_rfl) (by kernel_rfl) (fun _ _ _ h => h) (Or.inl ⟨rfl, fun w' hw' => ?_⟩) hHeld ?_
      · go_simp
      simp only [List.getElem_toArray, List.getElem_cons_succ, List.getElem_cons_zero, Act.put, List.setIfInBounds_toArray, List.set_cons_zero, List.set_cons_succ]
      refine wpAnyH_take (i := 3) rfl (by kernel_rfl) (by kernel_rfl) (by kernel_rfl) (fun _ _ _ h => h) (yieldsIf_load_mid (by rfl) _ _ rfl w.heap.size 0 rfl [.int .i64 k, .int .i64 n, .slice po pl.length pc] _ (fun w' hw' => row_rangeB ((hw'.block w.heap.size hbW hbg hbe).trans HRr.out)) Tryd.underlying53 rfl info53) hHeld ?_
      simp only [List.getElem_toArray, List.getElem_cons_succ, List.getElem_cons_zero, Act.put, List.setIfInBounds_toArray, List.set_cons_zero, List.set_cons_succ]
      refine wpAnyH_take (i := 4) (v := Value.int .i64 (i : Int)) rfl (by kernel_rfl) (by kernel_rfl) (by kernel_rfl) (fun _ _ _ h => h) (Or.inl ⟨rfl, fun w' hw' => ?_⟩) hHeld ?_
      · go_simp
      simp only [List.getElem_toArray, List.getElem_cons_succ, List.getElem_cons_zero, Act.put, List.setIfInBounds_toArray, List.set_cons_zero, List.set_cons_succ]
      refine wpAnyH_take (i := 5) (v := Value.slice so sc.length sc1) rfl (by kernel_rfl) (by kernel_rfl) (by kernel_rfl) (fun _ _ _ h => h) (Or.inl ⟨rfl, fun w' hw' => ?_⟩) hHeld ?_
      · go_simp
      simp only [List.getElem_toArray, List.getElem_cons_succ, List.getElem_cons_zero, Act.put, List.setIfInBounds_toArray, List.set_cons_zero, List.set_cons_succ]
      refine wpAnyH_ready (rs := [1, 6]) (by kernel_rfl) (by simp) ?_
      refine (AllReadyH.cons rfl (fun K hK => ?_) (AllReadyH.cons rfl (fun K hK => ?_) AllReadyH.nil))
      · skip
        go_simp
        refine hK.out _ _ HS0.out (fun hHeld => ?_)
        clear hK K
        try simp only [List.getElem_toArray, List.getElem_cons_succ, List.getElem_cons_zero, Act.put, List.setIfInBounds_toArray, List.set_cons_zero, List.set_cons_succ]
        refine wpAnyH_ready (rs := [6]) (by kernel_rfl) (by simp) ?_
        refine (AllReadyH.cons rfl (fun K hK => ?_) AllReadyH.nil)
        go_simp
        refine HP.out.mono ?_
        rintro e w7 ⟨cs, t, m'', rfl, hat, hMt, htz, hm'', hmk7, hb7⟩
        have hb7 : But wr.heap.size g wr w7 := ((But.refl wr.heap.size g wr).drew).trans hb7
        obtain ⟨k5, t5, nv5, av5, rfl, o1, o2⟩ := EAt_form hat
        obtain ⟨S7, c7, S8, c8, xs, hx8, hB8, hc9⟩ := LA.step hiq hown heb hM hmk hl hq5 hsz hmm hbut hgb hgeb hne (Et.At.mono (fun _ h => h) _ _ hat) rfl hMt htz hm'' hmk7 hb7
        have HS7 := Lib.hid S7
        have HS8 := Lib.hid S8
        have HX := Lib.hid hx8
        have HB8 := Lib.hid hB8
        have HC := Lib.hid hc9
        have HONE : Hid (nv5.oneCell' = true ∧ av5.oneCell' = true) := ⟨o1, o2⟩
        have HBW := Lib.hid hb7.size
        clear hat hMt htz hm'' hmk7 hb7 S7 S8 hx8 hB8 hc9 o1 o2
        refine hK.out _ _ HS7.out (fun hHeld => ?_)
        clear hK K
        try simp only [List.getElem_toArray, List.getElem_cons_succ, List.getElem_cons_zero, Act.put, List.setIfInBounds_toArray, List.set_cons_zero, List.set_cons_succ]
        refine wpAnyH_ready (rs := [7]) (by kernel_rfl) (by simp) ?_
        refine (AllReadyH.cons rfl (fun K hK => ?_) AllReadyH.nil)
        go_simp
        refine hK.out _ _ HS8.out (fun hHeld => ?_)
        clear hK K
        try simp only [List.getElem_toArray, List.getElem_cons_succ, List.getElem_cons_zero, Act.put, List.setIfInBounds_toArray, List.set_cons_zero, List.set_cons_succ]
        refine wpAnyH_ready (rs := [8]) (by kernel_rfl) (by simp) ?_
        refine (AllReadyH.cons rfl (fun K hK => ?_) AllReadyH.nil)
        refine wp_app (Operand.tmp 198) (Operand.tmp 204) rfl W0.heap.size (.slice ao i ac) i xs rfl HX.out _ 1 rfl #[.int .i64 k5, .string t5, nv5, av5].toList rfl (row_cells _ _) (one_cells HONE.out) hi1 HB8.out ?_
        intro v' w9 hown9 hg9 hv9
        obtain ⟨ao', ac', rfl⟩ := own_form hown9
        obtain ⟨S9, e9, f9, S10, HREL⟩ := HC.out _ _ _ hown9 hg9 hv9
        have HS9 := Lib.hid S9
        have HS10 := Lib.hid S10
        have HR := Lib.hid HREL
        clear hown9 hg9 hv9 S9 S10 HREL
        refine hK.out _ _ HS9.out (fun hHeld => ?_)
        clear hK K
        try simp only [List.getElem_toArray, List.getElem_cons_succ, List.getElem_cons_zero, Act.put, List.setIfInBounds_toArray, List.set_cons_zero, List.set_cons_succ]
        refine wpAnyH_take (i := 9) (v := Value.pointer (some ⟨ge, 3, none⟩)) rfl (by kernel_rfl) (by kernel_rfl) (by kernel_rfl) (fun _ _ _ h => h) (Or.inl ⟨rfl, fun w' hw' => ?_⟩) hHeld ?_
        · go_simp
        simp only [List.getElem_toArray, List.getElem_cons_succ, List.getElem_cons_zero, Act.put, List.setIfInBounds_toArray, List.set_cons_zero, List.set_cons_succ]
        refine wpAnyH_ready (rs := [10]) (by kernel_rfl) (by simp) ?_
        refine (AllReadyH.cons rfl (fun K hK => ?_) AllReadyH.nil)
        go_simp
        refine hK.out _ _ HS10.out (fun hHeld => ?_)
        clear hK K
        try simp only [List.getElem_toArray, List.getElem_cons_succ, List.getElem_cons_zero, Act.put, List.setIfInBounds_toArray, List.set_cons_zero, List.set_cons_succ]
        refine wpAnyH_done (by kernel_rfl) ?_ _
        refine NoPanic.normal ?_
        clear hHeld
        go_wp2_with fail
        go_roundw
        case rel => exact HR.out
        case measure => simp [intOf]; omega
      · skip
        go_simp
        refine HP.out.mono ?_
        rintro e w7 ⟨cs, t, m'', rfl, hat, hMt, htz, hm'', hmk7, hb7⟩
        have hb7 : But wr.heap.size g wr w7 := ((But.refl wr.heap.size g wr).drew).trans hb7
        obtain ⟨k5, t5, nv5, av5, rfl, o1, o2⟩ := EAt_form hat
        obtain ⟨S7, c7, S8, c8, xs, hx8, hB8, hc9⟩ := LA.step hiq hown heb hM hmk hl hq5 hsz hmm hbut hgb hgeb hne (Et.At.mono (fun _ h => h) _ _ hat) rfl hMt htz hm'' hmk7 hb7
        have HS7 := Lib.hid S7
        have HS8 := Lib.hid S8
        have HX := Lib.hid hx8
        have HB8 := Lib.hid hB8
        have HC := Lib.hid hc9
        have HONE : Hid (nv5.oneCell' = true ∧ av5.oneCell' = true) := ⟨o1, o2⟩
        have HBW := Lib.hid hb7.size
        clear hat hMt htz hm'' hmk7 hb7 S7 S8 hx8 hB8 hc9 o1 o2
        refine hK.out _ _ HS7.out (fun hHeld => ?_)
        clear hK K
        try simp only [List.getElem_toArray, List.getElem_cons_succ, List.getElem_cons_zero, Act.put, List.setIfInBounds_toArray, List.set_cons_zero, List.set_cons_succ]
        refine wpAnyH_ready (rs := [1, 7]) (by kernel_rfl) (by simp) ?_
        refine (AllReadyH.cons rfl (fun K hK => ?_) (AllReadyH.cons rfl (fun K hK => ?_) AllReadyH.nil))
        · skip
          go_simp
          refine hK.out _ _ HS7.out (fun hHeld => ?_)
          clear hK K
          try simp only [List.getElem_toArray, List.getElem_cons_succ, List.getElem_cons_zero, Act.put, List.setIfInBounds_toArray, List.set_cons_zero, List.set_cons_succ]
          refine wpAnyH_ready (rs := [7]) (by kernel_rfl) (by simp) ?_
          refine (AllReadyH.cons rfl (fun K hK => ?_) AllReadyH.nil)
          go_simp
          refine hK.out _ _ HS8.out (fun hHeld => ?_)
          clear hK K
          try simp only [List.getElem_toArray, List.getElem_cons_succ, List.getElem_cons_zero, Act.put, List.setIfInBounds_toArray, List.set_cons_zero, List.set_cons_succ]
          refine wpAnyH_ready (rs := [8]) (by kernel_rfl) (by simp) ?_
          refine (AllReadyH.cons rfl (fun K hK => ?_) AllReadyH.nil)
          refine wp_app (Operand.tmp 198) (Operand.tmp 204) rfl W0.heap.size (.slice ao i ac) i xs rfl HX.out _ 1 rfl #[.int .i64 k5, .string t5, nv5, av5].toList rfl (row_cells _ _) (one_cells HONE.out) hi1 HB8.out ?_
          intro v' w9 hown9 hg9 hv9
          obtain ⟨ao', ac', rfl⟩ := own_form hown9
          obtain ⟨S9, e9, f9, S10, HREL⟩ := HC.out _ _ _ hown9 hg9 hv9
          have HS9 := Lib.hid S9
          have HS10 := Lib.hid S10
          have HR := Lib.hid HREL
          clear hown9 hg9 hv9 S9 S10 HREL
          refine hK.out _ _ HS9.out (fun hHeld => ?_)
          clear hK K
          try simp only [List.getElem_toArray, List.getElem_cons_succ, List.getElem_cons_zero, Act.put, List.setIfInBounds_toArray, List.set_cons_zero, List.set_cons_succ]
          refine wpAnyH_take (i := 9) (v := Value.pointer (some ⟨ge, 3, none⟩)) rfl (by kernel_rfl) (by kernel_rfl) (by kernel_rfl) (fun _ _ _ h => h) (Or.inl ⟨rfl, fun w' hw' => ?_⟩) hHeld ?_
          · go_simp
          simp only [List.getElem_toArray, List.getElem_cons_succ, List.getElem_cons_zero, Act.put, List.setIfInBounds_toArray, List.set_cons_zero, List.set_cons_succ]
          refine wpAnyH_ready (rs := [10]) (by kernel_rfl) (by simp) ?_
          refine (AllReadyH.cons rfl (fun K hK => ?_) AllReadyH.nil)
          go_simp
          refine hK.out _ _ HS10.out (fun hHeld => ?_)
          clear hK K
          try simp only [List.getElem_toArray, List.getElem_cons_succ, List.getElem_cons_zero, Act.put, List.setIfInBounds_toArray, List.set_cons_zero, List.set_cons_succ]
          refine wpAnyH_done (by kernel_rfl) ?_ _
          refine NoPanic.normal ?_
          clear hHeld
          go_wp2_with fail
          go_roundw
          case rel => exact HR.out
          case measure => simp [intOf]; omega
        · skip
          go_simp
          refine hK.out _ _ HS8.out (fun hHeld => ?_)
          clear hK K
          try simp only [List.getElem_toArray, List.getElem_cons_succ, List.getElem_cons_zero, Act.put, List.setIfInBounds_toArray, List.set_cons_zero, List.set_cons_succ]
          refine wpAnyH_ready (rs := [1]) (by kernel_rfl) (by simp) ?_
          refine (AllReadyH.cons rfl (fun K hK => ?_) AllReadyH.nil)
          go_simp
          refine hK.out _ _ HS8.out (fun hHeld => ?_)
          clear hK K
          try simp only [List.getElem_toArray, List.getElem_cons_succ, List.getElem_cons_zero, Act.put, List.setIfInBounds_toArray, List.set_cons_zero, List.set_cons_succ]
          refine wpAnyH_ready (rs := [8]) (by kernel_rfl) (by simp) ?_
          refine (AllReadyH.cons rfl (fun K hK => ?_) AllReadyH.nil)
          refine wp_app (Operand.tmp 198) (Operand.tmp 204) rfl W0.heap.size (.slice ao i ac) i xs rfl HX.out _ 1 rfl #[.int .i64 k5, .string t5, nv5, av5].toList rfl (row_cells _ _) (one_cells HONE.out) hi1 HB8.out ?_
          intro v' w9 hown9 hg9 hv9
          obtain ⟨ao', ac', rfl⟩ := own_form hown9
          obtain ⟨S9, e9, f9, S10, HREL⟩ := HC.out _ _ _ hown9 hg9 hv9
          have HS9 := Lib.hid S9
          have HS10 := Lib.hid S10
          have HR := Lib.hid HREL
          clear hown9 hg9 hv9 S9 S10 HREL
          refine hK.out _ _ HS9.out (fun hHeld => ?_)
          clear hK K
          try simp only [List.getElem_toArray, List.getElem_cons_succ, List.getElem_cons_zero, Act.put, List.setIfInBounds_toArray, List.set_cons_zero, List.set_cons_succ]
          refine wpAnyH_take (i := 9) (v := Value.pointer (some ⟨ge, 3, none⟩)) rfl (by kernel_rfl) (by kernel_rfl) (by kernel_rfl) (fun _ _ _ h => h) (Or.inl ⟨rfl, fun w' hw' => ?_⟩) hHeld ?_
          · go_simp
          simp only [List.getElem_toArray, List.getElem_cons_succ, List.getElem_cons_zero, Act.put, List.setIfInBounds_toArray, List.set_cons_zero, List.set_cons_succ]
          refine wpAnyH_ready (rs := [10]) (by kernel_rfl) (by simp) ?_
          refine (AllReadyH.cons rfl (fun K hK => ?_) AllReadyH.nil)
          go_simp
          refine hK.out _ _ HS10.out (fun hHeld => ?_)
          clear hK K
          try simp only [List.getElem_toArray, List.getElem_cons_succ, List.getElem_cons_zero, Act.put, List.setIfInBounds_toArray, List.set_cons_zero, List.set_cons_succ]
          refine wpAnyH_done (by kernel_rfl) ?_ _
          refine NoPanic.normal ?_
          clear hHeld
          go_wp2_with fail
          go_roundw
          case rel => exact HR.out
          case measure => simp [intOf]; omega
    · have q1 : decide ((i : Int) < (qq : Int)) = false := decide_eq_false (by omega)
      obtain rfl : i = qq := by omega
      have hz : wr.heap[w.heap.size + 1]? = some (.cells Z4 28 (0, 0)) := (hbut.block _ (by omega) (by omega) hge1).trans HZ3b.out
      have hcl := cnts_take_le pl i
      have hMM : Made sc m m' (.mk 10 tt [] l) := MadeL.node (sc := sc) (ns := []) (b := m) (by rw [List.append_nil]; exact hM) (Nat.le_refl _) (nms_self m).symm (by omega) (by simp) HTS.out (by decide) (by rw [hl]; simp [shapeB, textB, namesB, partsB, HQA.out]; omega)
      obtain ⟨hone, hfin⟩ := made_exit (c := 2 * (1 + Rw.cnts pl)) (s := 4 * (1 + Rw.cnts pl)) (sc := sc) (ns := []) (m := m) (a := 0) hz (.inl ⟨rfl, rfl⟩) (hown.at.mono (fun x hx => by have : W0.heap.size ≤ x := hx; omega)) hMM (by omega) (by omega) hmk ((But.of HB3.out).trans (hbut.to (by omega) (by omega))) hgw
      have HF := Lib.hid hfin
      have HZ := Lib.hid hz
      have HEB := Lib.hid heb
      clear hfin hz hown hM hMM heb hbut
      go_wp2_with (first | (refine wpList_load_row rfl 28 _ rfl ge rfl 28 #[.int .i64 10, .string tt, .slice none 0 0, .slice ao i ac] (0, 0) _ HEB.out Tryd.underlying28 rfl info28 ?_) | (refine wpList_store_row rfl 28 _ _ rfl (w.heap.size + 1) #[.int .i64 10, .string tt, .slice none 0 0, .slice ao i ac] rfl rfl 28 Z4 HZ.out info28 rfl hone ?_))
      refine bodyPost_ret (results_cell_row rfl _ _ (w.heap.size + 1) 28 #[.int .i64 10, .string tt, .slice none 0 0, .slice ao i ac] (0, 0) _ rfl (setRow_heap wr _ _ _ 28 _ HZ.out) Tryd.underlying28 rfl info28) rfl ?_
      exact HF.out
end Go.Proofs.YtmcgocbkjdacaaaDoor
