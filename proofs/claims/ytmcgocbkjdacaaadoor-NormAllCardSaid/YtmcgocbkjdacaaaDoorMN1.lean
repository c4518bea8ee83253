/- Make, at functions. -/
import Derived.Test.YtmcgocbkjdacaaaDoorZD
import Derived.Test.YtmcgocbkjdacaaaDoorMK4
namespace Go.Proofs.YtmcgocbkjdacaaaDoor
open Go.RowKit Go.BigM
set_option linter.unusedVariables false
set_option linter.unusedSimpArgs false
theorem LN.start {W0 : World} {g ge q m : Nat} {sc : List ByteArray} {kk : Int} {v' : Value} {w9 : World} (he : EB W0 ge kk ⟨#[]⟩ (.slice none 0 0) (.slice none 0 0)) (h : OwnN W0.heap.size w9 v' sc) (hg9 : (W0.alloc (.cells #[] 9)).grownBy w9 (some W0.heap.size)) (hmk : Mk W0 g m) (hgb : g < W0.heap.size) (hgeb : ge < W0.heap.size) :
    LN W0 g ge q m sc kk v' (.int .i64 0) w9 := by
  have hb : But W0.heap.size g W0 w9 := (((But.refl W0.heap.size g W0).alloc (Nat.le_refl _) _)).grown hg9 (by simp) (fun k hk => by injection hk with hk; omega)
  have hz : (W0.alloc (.cells #[] 9)).heap.size = W0.heap.size + 1 := by simp
  refine ⟨0, .slice none 0 0, Nat.zero_le _, rfl, ?_, by rw [Nat.add_zero, nms_self]; exact OwnN.nil _ _, by rw [Nat.add_zero, nms_self, List.append_nil]; exact h, fun k hk => (by cases hk), ?_, But2.of hb⟩
  · unfold EB
    rw [hg9.block ge (by omega) (fun e => by injection e with e; omega), Lib.alloc_old _ _ _ (by omega)]; exact he
  · unfold Mk
    rw [hg9.block g (by omega) (fun e => by injection e with e; omega), Lib.alloc_old _ _ _ (by omega)]; exact hmk
theorem one_at1 {S : Nat → Prop} {w : World} {t0 : Et} {k0 : Int} {x0 : ByteArray} {n0 a0 : Value} {g : Nat} (hg : S g)
    (h0 : Et.At S w t0 #[.int .i64 k0, .string x0, n0, a0]) (hr : w.heap[g]? = some (.cells #[.int .i64 k0, .string x0, n0, a0] 28 (0, 0))) : AAt S w (.slice (some ⟨g, 0, none⟩) 1 1) [t0] := by
  refine .inr ⟨g, 0, 1, _, (0, 0), rfl, hg, hr, ?_, Nat.le_refl _⟩
  unfold Ets.At
  refine ⟨⟨_, fun i hi => ?_, h0⟩, ?_⟩
  · match i, hi with
    | 0, _ => rfl
    | 1, _ => rfl
    | 2, _ => rfl
    | 3, _ => rfl
    | n + 4, h => exact absurd h (by omega)
  unfold Ets.At; trivial
/-- What the parts see, behind the loop. -/
theorem LN.pre {W0 : World} {g ge m : Nat} {sc : List ByteArray} {inv : Value} {wr w0 : World} {i : Nat} {scv : Value} (P3 : Pre w0 W0 g m sc scv) (he : ∃ c fz, W0.heap[ge]? = some (.cells c 28 fz)) (hgw0 : w0.heap.size ≤ ge)
    (hin : OwnN W0.heap.size wr inv (sc ++ nms m (m + i))) (hmk : Mk wr g (m + i)) (hbut : But2 W0.heap.size g ge W0 wr) (hgb : g < W0.heap.size) (hm : m + i ≤ 60000) : Pre w0 wr g (m + i) (sc ++ nms m (m + i)) inv := by
  have P4 := P3.move2 hbut hmk (by omega) he hgw0
  refine ⟨P4.below, P4.maker, hmk, hin.at.mono (fun x hx => by have : W0.heap.size ≤ x := hx.1; show x ≠ g; omega), P3.good.append (Good.nms (by omega)), ?_⟩
  have := P3.few
  rw [List.length_append, nms_len]; omega
set_option maxHeartbeats 8000000 in
set_option maxRecDepth 100000 in
theorem make4 (k n : Int) (pl : List Rw) (ih : ∀ r ∈ pl, MkC r) (w0 w : World) (g m : Nat) (sc : List ByteArray) (scv : Value) (P : Pre w0 w g m sc scv) (po : Option Addr) (pc : Nat) (hm : m + 2 * (1 + Rw.cnts pl) ≤ 50000) (hR : RsAt w0 po pl) (hk : I64 k) (hn : I64 n) (hq : k % 16 = 4) :
    Calls Tryd.prog 30 #[.pointer (some ⟨g, 0, none⟩), .agg #[.int .i64 k, .int .i64 n, .slice po pl.length pc], scv] w (RetMade sc g m (2 * (1 + Rw.cnts pl)) (4 * (1 + Rw.cnts pl)) w) := by
  have hb2 : Below w.heap.size w ((w.alloc (.cells #[.int .i64 k, .int .i64 n, .slice po pl.length pc] 53)).alloc (.cells Z4 28)) := ((Below.refl w.heap.size w).alloc (Nat.le_refl _) _).alloc (by simp) _
  have hz2 : ((w.alloc (.cells #[.int .i64 k, .int .i64 n, .slice po pl.length pc] 53)).alloc (.cells Z4 28)).heap[w.heap.size + 1]? = some (.cells Z4 28 (0, 0)) := by
    have h := alloc_at (w.alloc (.cells #[.int .i64 k, .int .i64 n, .slice po pl.length pc] 53)) (.cells Z4 28)
    have e : (w.alloc (.cells #[.int .i64 k, .int .i64 n, .slice po pl.length pc] 53)).heap.size = w.heap.size + 1 := by simp
    rw [e] at h; exact h
  have hs2 : ((w.alloc (.cells #[.int .i64 k, .int .i64 n, .slice po pl.length pc] 53)).alloc (.cells Z4 28)).heap.size = w.heap.size + 2 := by simp
  have hgw := P.cnt.lt
  have HB2 := Lib.hid hb2
  have HZ2 := Lib.hid hz2
  have HRW : Hid (((w.alloc (.cells #[.int .i64 k, .int .i64 n, .slice po pl.length pc] 53)).alloc (.cells Z4 28)).heap[w.heap.size]? = some (.cells #[.int .i64 k, .int .i64 n, .slice po pl.length pc] 53 (0, 0))) := (Lib.alloc_old _ _ _ (by simp)).trans (alloc_at w _)
  obtain ⟨so, sc1, rfl⟩ := P.scope.form
  have PP := Lib.hid P
  have hfew : sc.length ≤ 60000 := by have := P.few; omega
  have F0 := Lib.hid (fun w => within_is k 16 4 hk (by decide) (by decide) hq w)
  obtain ⟨r2, hr2⟩ : ∃ r : Nat, n % 2 = (r : Int) := ⟨(n % 2).toNat, by omega⟩
  have hr2l : r2 < 2 := by omega
  have F2 := Lib.hid (fun w => within_is n 2 r2 hn (by decide) (by decide) hr2 w)
  obtain ⟨qq, hqq⟩ : ∃ qq, qq = r2 + 1 := ⟨_, rfl⟩
  have hq1 : qq ≤ r2 + 1 := by omega
  have hq2 : r2 < qq := by omega
  have IH := Lib.hid ih
  have HR := Lib.hid hR
  have HN := Lib.hid hn
  clear ih hb2 hz2 hq hk hn hr2 hR hqq
  go_enter Tryd.func30, Tryd.ntmps30
  go_wp2_with fail
  generalize (w.alloc (.cells #[.int .i64 k, .int .i64 n, .slice po pl.length pc] 53)).alloc (.cells #[.int .i64 0, .string ⟨#[]⟩, .slice none 0 0, .slice none 0 0] 28) = W2 at HB2 HZ2 hs2 HRW ⊢
  have cK : W2.cell? ⟨w.heap.size, 0, none⟩ = some (.int .i64 k) := by rw [Lib.cell_of_heap HRW.out]; rfl
  have cN : W2.cell? ⟨w.heap.size, 1, none⟩ = some (.int .i64 n) := by rw [Lib.cell_of_heap HRW.out]; rfl
  refine (F0.out _).mono ?_
  rintro e w5 ⟨rfl, rfl⟩
  have hz3 : (W2.alloc (.cells Z4 28)).heap[w.heap.size + 2]? = some (.cells Z4 28 (0, 0)) := by rw [← hs2]; exact alloc_at W2 _
  have HZ3 := Lib.hid hz3
  clear hz3
  go_upto_region 14 with (refine wpList_store_row rfl 28 _ _ rfl (w.heap.size + 2) #[.int .i64 6, .string ⟨#[]⟩, .slice none 0 0, .slice none 0 0] rfl rfl 28 Z4 HZ3.out info28 rfl rfl ?_)
  have he3 : (W2.alloc (.cells #[.int .i64 6, .string ⟨#[]⟩, .slice none 0 0, .slice none 0 0] 28)).heap[w.heap.size + 2]? = some (.cells #[.int .i64 6, .string ⟨#[]⟩, .slice none 0 0, .slice none 0 0] 28 (0, 0)) := by rw [← hs2]; exact alloc_at W2 _
  have hb3 : Below W2.heap.size W2 (W2.alloc (.cells #[.int .i64 6, .string ⟨#[]⟩, .slice none 0 0, .slice none 0 0] 28)) := (Below.refl _ _).alloc (Nat.le_refl _) _
  have hs3 : (W2.alloc (.cells #[.int .i64 6, .string ⟨#[]⟩, .slice none 0 0, .slice none 0 0] 28)).heap.size = w.heap.size + 3 := by simp [hs2]
  generalize W2.alloc (.cells #[.int .i64 6, .string ⟨#[]⟩, .slice none 0 0, .slice none 0 0] 28) = W0 at he3 hb3 hs3 ⊢
  have HB3 := Lib.hid (HB2.out.trans (hb3.mono HB2.out.size))
  have HRW3 := Lib.hid (row_below hb3 HRW.out)
  have HZ3b := Lib.hid (row_below hb3 HZ2.out)
  have P3 := Lib.hid (PP.out.below' HB3.out)
  obtain ⟨ge, hge⟩ : ∃ ge, ge = w.heap.size + 2 := ⟨_, rfl⟩
  rw [← hge] at he3
  simp only [← hge]
  have HE3 : Hid (EB W0 ge 6 ⟨#[]⟩ (.slice none 0 0) (.slice none 0 0)) := he3
  have hgeb : ge < W0.heap.size := by omega
  have hgb : g < W0.heap.size := by omega
  have hne : ge ≠ g := by omega
  have hbW : w.heap.size < W0.heap.size := by omega
  have hbg : w.heap.size ≠ g := by omega
  have hbe : w.heap.size ≠ ge := by omega
  have hge1 : w.heap.size + 1 ≠ ge := by omega
  have hgeW : w.heap.size ≤ ge := by omega
  have hWW : w.heap.size + 3 ≤ W0.heap.size := by omega
  have hgw0 : w0.heap.size ≤ ge := by have := PP.out.maker; omega
  have HGE := Lib.hid hge
  clear hge hs3
  clear he3 hb3 HZ3 HRW HB2 HZ2 cK cN hs2 F0
  have HSC : Hid (NAt (fun x => x ≠ g) (W0.alloc (.cells #[] 9)) (.slice so sc.length sc1) sc) := P3.out.scope.keeps (Keeps.of_below ((Below.refl _ _).alloc (Nat.le_refl _) _))
  have HL := Lib.hid (OwnN.lit W0.heap.size W0 (Nat.le_refl _))
  have hscl : sc.length ≤ 100000 := by omega
  have hB1 : W0.heap.size ≤ (W0.alloc (.cells #[] 9)).heap.size := by simp
  go_wp2_with (refine wpList_wanted (by rfl) fun K hK => ?_; refine wp_appNs (Operand.tmp 66) (Operand.tmp 67) rfl W0.heap.size W0.heap.size 0 rfl HL.out _ sc rfl HSC.out hscl hB1 ?_; intro v' w9 hown9 hg9; have H0 : Hid (LN W0 g ge qq m sc 6 v' (.int .i64 0) w9) := LN.start HE3.out hown9 hg9 P3.out.cnt hgb hgeb; clear hown9 hg9 HL HSC hscl hB1; refine hK _ _ ?_; clear hK K)
  go_loopw [8, 9] (fun inv iv wr => LN W0 g ge qq m sc 6 inv iv wr) (fun _ iv _ => qq - (intOf iv).toNat)
  case atStart => exact H0.out
  case round =>
    clear H0
    obtain ⟨i, nv, hi, rfl, heb, hn, hin, hap, hmk, hbut⟩ := hrel
    have hs0 := hbut.size
    have HRr : Hid (wr.heap[w.heap.size]? = some (.cells #[.int .i64 k, .int .i64 n, .slice po pl.length pc] 53 (0, 0))) := (hbut.block _ hbW hbg hbe).trans HRW3.out
    have cN : wr.cell? ⟨w.heap.size, 1, none⟩ = some (.int .i64 n) := by rw [Lib.cell_of_heap HRr.out]; rfl
    have HPr : Hid (Pre w0 wr g (m + i) (sc ++ nms m (m + i)) u8) := LN.pre P3.out ⟨_, _, HE3.out⟩ hgw0 hin hmk hbut hgb (by omega)
    go_wp2_with fail
    refine (F2.out _).mono ?_
    rintro e w6 ⟨rfl, rfl⟩
    by_cases hiq : i < qq
    · have q1 : decide ((i : Int) ≤ (r2 : Int)) = true := decide_eq_true (by omega)
      have HNM := Lib.hid (name_any g (m + i) wr hmk (by omega))
      have HST : Hid (∀ (w6 : World) (h1 : Mk w6 g (m + i + 1)) (h2 : But wr.heap.size g wr w6) (s : ByteArray) (hs : s = nm (m + i + 1)), _) := fun w6 h1 h2 s hs => LN.step hiq heb hn hin hap hbut hgb hgeb hne h1 h2 s hs
      have hln : (nms m (m + i)).length ≤ 100000 := by rw [nms_len]; omega
      have hls : (sc ++ nms m (m + i)).length ≤ 100000 := by rw [List.length_append, nms_len]; omega
      clear heb hn hin hap hmk hbut HRr HPr
      go_wp2_with fail
      refine HNM.out.mono ?_
      rintro e w7 ⟨rfl, hmk7, hb7⟩
      obtain ⟨s, hs⟩ : ∃ s, s = nm (m + i + 1) := ⟨_, rfl⟩
      rw [← hs]
      obtain ⟨c2, hx, hcx, hBx, hc⟩ := HST.out w7 hmk7 hb7 s hs
      have HX := Lib.hid hx
      have HC := Lib.hid hc
      clear hmk7 hb7 hs hx hc HST HNM
      go_wp2_with (first | (refine wpList_wanted (by rfl) fun K hK => ?_; refine wp_appN2 (Operand.tmp 79) (Operand.tmp 81) rfl W0.heap.size nv _ rfl HX.out _ rfl s hcx hln hBx ?_; intro v' w8 h8 hg8 hv8; obtain ⟨ao', ac', rfl⟩ := own_form h8; obtain ⟨y1, y2, y3, y4⟩ := HC.out _ w8 h8 hg8 hv8; have HY := Lib.hid y1; have HD := Lib.hid y4; clear h8 hg8 hv8 y1 y4 HC HX; refine hK _ _ ?_; clear hK K) | (refine wpList_wanted (by rfl) fun K hK => ?_; refine wp_appN2 (Operand.tmp 83) (Operand.tmp 85) rfl W0.heap.size u8 _ rfl HY.out _ rfl s y2 hls y3 ?_; intro v2 w10 h10 hg10 hv10; obtain ⟨c10, f10, x10⟩ := HD.out v2 w10 h10 hg10 hv10; have HREL := Lib.hid x10; clear h10 hg10 hv10 x10 HD HY; refine hK _ _ ?_; clear hK K))
      go_roundw
      case rel => (have h9 := HREL.out; simp only [List.length_append, List.length_singleton] at h9; exact h9)
      case measure => simp [intOf]; omega
    · have q1 : decide ((i : Int) ≤ (r2 : Int)) = false := decide_eq_false (by omega)
      obtain rfl : i = qq := by omega
      have hcl := cnts_take_le pl 1
      have hct : Rw.cnts (pl.take 1) = pcn pl 0 := by have h := pcn_take pl 0; have h0 : Rw.cnts (pl.take 0) = 0 := (by simp [Rw.cnts]); rw [h0] at h; simpa using h
      have HP := Lib.hid (part_any k n pl IH.out w0 wr g (m + i) _ _ HPr.out po pc 0 (by omega) (by omega) HR.out HN.out)
      have hz : wr.heap[w.heap.size + 1]? = some (.cells Z4 28 (0, 0)) := (hbut.block _ (by omega) (by omega) hge1).trans HZ3b.out
      have HEX : Hid (∀ (w7 : World) (t : Et) (k5 : Int) (t5 : ByteArray) (nv5 av5 : Value) (m1 : Nat), Et.At (fun x => wr.heap.size ≤ x) w7 t #[.int .i64 k5, .string t5, nv5, av5] → Made (sc ++ nms m (m + i)) (m + i) m1 t → t.size ≤ 1 + 4 * pcn pl 0 → m1 ≤ m + i + 2 * pcn pl 0 → Mk w7 g m1 → But wr.heap.size g wr w7 →
          (w7.alloc (.cells #[.int .i64 k5, .string t5, nv5, av5] 28)).cell? ⟨ge, 3, none⟩ = some (.slice none 0 0) ∧ (w7.alloc (.cells #[.int .i64 k5, .string t5, nv5, av5] 28)).frozen? ⟨ge, 3, none⟩ = false ∧
          EB ((w7.alloc (.cells #[.int .i64 k5, .string t5, nv5, av5] 28)).setCell ⟨ge, 3, none⟩ (.slice (some ⟨w7.heap.size, 0, none⟩) 1 1)) ge 6 ⟨#[]⟩ nv (.slice (some ⟨w7.heap.size, 0, none⟩) 1 1) ∧
          ((w7.alloc (.cells #[.int .i64 k5, .string t5, nv5, av5] 28)).setCell ⟨ge, 3, none⟩ (.slice (some ⟨w7.heap.size, 0, none⟩) 1 1)).heap[w.heap.size + 1]? = some (.cells Z4 28 (0, 0)) ∧
          (#[.int .i64 6, .string ⟨#[]⟩, nv, .slice (some ⟨w7.heap.size, 0, none⟩) 1 1] : Array Value).all (·.oneCell') = true ∧
          RetMade sc g m (2 * (1 + Rw.cnts pl)) (4 * (1 + Rw.cnts pl)) w (.returned (.agg #[.int .i64 6, .string ⟨#[]⟩, nv, .slice (some ⟨w7.heap.size, 0, none⟩) 1 1])) (((w7.alloc (.cells #[.int .i64 k5, .string t5, nv5, av5] 28)).setCell ⟨ge, 3, none⟩ (.slice (some ⟨w7.heap.size, 0, none⟩) 1 1)).setRow (w.heap.size + 1) #[.int .i64 6, .string ⟨#[]⟩, nv, .slice (some ⟨w7.heap.size, 0, none⟩) 1 1])) := by
        show _
        intro w7 t k5 t5 nv5 av5 m1 hat hM htz hm1 hk1 hb1
        have h7 := hb1.size
        have heb7 : EB w7 ge 6 ⟨#[]⟩ nv (.slice none 0 0) := by unfold EB; rw [hb1.block ge (by omega) hne]; exact heb
        have hn7 := hn.but hb1 hgb
        have hz7 : w7.heap[w.heap.size + 1]? = some (.cells Z4 28 (0, 0)) := (hb1.block _ (by omega) (by omega)).trans hz
        have hbu7 : But2 W0.heap.size g ge W0 w7 := hbut.trans (But2.of (hb1.mono hs0))
        generalize hW8 : w7.alloc (.cells #[.int .i64 k5, .string t5, nv5, av5] 28) = w8
        have ha : Below w7.heap.size w7 w8 := by rw [← hW8]; exact (Below.refl _ _).alloc (Nat.le_refl _) _
        have hrow : w8.heap[w7.heap.size]? = some (.cells #[.int .i64 k5, .string t5, nv5, av5] 28 (0, 0)) := by rw [← hW8]; exact alloc_at w7 _
        have heb8 : EB w8 ge 6 ⟨#[]⟩ nv (.slice none 0 0) := row_below ha heb7
        have hz8 := row_below ha hz7
        have hn8 := hn7.below ha
        have hmk8 := hk1.below ha
        have hbu8 : But2 W0.heap.size g ge W0 w8 := hbu7.trans (But2.of (But.of (ha.mono (by omega))))
        have hat8 : Et.At (fun x => wr.heap.size ≤ x) w8 t #[.int .i64 k5, .string t5, nv5, av5] := Et.At.keeps (Keeps.of_below ha) _ _ hat
        clear hW8
        have heb9 := heb8.setA (.slice (some ⟨w7.heap.size, 0, none⟩) 1 1)
        have hz9 : (w8.setCell ⟨ge, 3, none⟩ (.slice (some ⟨w7.heap.size, 0, none⟩) 1 1)).heap[w.heap.size + 1]? = some (.cells Z4 28 (0, 0)) := by rw [heap_setCell_other w8 ⟨ge, 3, none⟩ _ _ (by show w.heap.size + 1 ≠ ge; omega)]; exact hz8
        have hn9 := hn8.setCell (a := ⟨ge, 3, none⟩) hgeb (.slice (some ⟨w7.heap.size, 0, none⟩) 1 1)
        have hmk9 : Mk (w8.setCell ⟨ge, 3, none⟩ (.slice (some ⟨w7.heap.size, 0, none⟩) 1 1)) g m1 := by unfold Mk; rw [heap_setCell_other w8 ⟨ge, 3, none⟩ g _ (by show g ≠ ge; omega)]; exact hmk8
        have hbu9 : But2 W0.heap.size g ge W0 (w8.setCell ⟨ge, 3, none⟩ (.slice (some ⟨w7.heap.size, 0, none⟩) 1 1)) := hbu8.setCell (p := ⟨ge, 3, none⟩) (.inr rfl) _
        have hrow9 : (w8.setCell ⟨ge, 3, none⟩ (.slice (some ⟨w7.heap.size, 0, none⟩) 1 1)).heap[w7.heap.size]? = some (.cells #[.int .i64 k5, .string t5, nv5, av5] 28 (0, 0)) := by rw [heap_setCell_other w8 ⟨ge, 3, none⟩ _ _ (by show w7.heap.size ≠ ge; omega)]; exact hrow
        have hat9 : Et.At (fun x => w.heap.size + 2 ≤ x) (w8.setCell ⟨ge, 3, none⟩ (.slice (some ⟨w7.heap.size, 0, none⟩) 1 1)) t #[.int .i64 k5, .string t5, nv5, av5] := Et.At.mono (fun x hx => by have : wr.heap.size ≤ x := hx; omega) _ _ (Et.At.keeps (fun x c T fz hx hxx _ => ⟨fz, by have : wr.heap.size ≤ x := hx; rw [heap_setCell_other w8 ⟨ge, 3, none⟩ x _ (by show x ≠ ge; omega)]; exact hxx⟩) _ _ hat8)
        have hnl : 1 ≤ i := by omega
        have hMM : Made sc m m1 (.mk 6 ⟨#[]⟩ (nms m (m + i)) [t]) := MadeL.node (sc := sc) (ns := nms m (m + i)) (b := m + i) ((MadeL.nil _ _).snoc hM) (by omega) rfl (by omega) (by rw [nms_len]; omega) (by decide) (by decide) (by
          have ho := nms_once m (m + i)
          have hl := nms_len m (m + i)
          simp [shapeB, textB, namesB, partsB, Lib.toList_data, ho, hl]
          try omega)
        obtain ⟨hone, hfin⟩ := made_exit (c := 2 * (1 + Rw.cnts pl)) (s := 4 * (1 + Rw.cnts pl)) (sc := sc) (ns := nms m (m + i)) (m := m) (a := 0) hz9 (hn9.at.mono (fun x hx => by have : W0.heap.size ≤ x := hx.1; omega)) (one_at1 (by omega) hat9 hrow9) hMM (by simp only [Et.sizes]; omega) (by omega) hmk9 ((But.of HB3.out).trans (hbu9.to (by omega) (by omega))) hgw
        exact ⟨(EB.cell _ _ _ _ _ _ heb8).2.2.2, heb8.frozen 3, heb9, hz9, hone, hfin⟩
      clear heb hn hin hap hmk hbut hz HPr hcl hct
      go_wp2_with (refine wpList_load_row rfl 53 _ rfl w.heap.size rfl 53 #[.int .i64 k, .int .i64 n, .slice po pl.length pc] (0, 0) _ HRr.out Tryd.underlying53 rfl info53 ?_)
      refine HP.out.mono ?_
      rintro e w7 ⟨cs, t, m1, rfl, hat, hM, htz, hm1, hk1, hb1⟩
      obtain ⟨k5, t5, nv5, av5, rfl, o1, o2⟩ := EAt_form hat
      obtain ⟨c8, f8, heb9, hz9, hone, hfin⟩ := HEX.out w7 t k5 t5 nv5 av5 m1 hat hM htz hm1 hk1 hb1
      have HF := Lib.hid hfin
      have HZ := Lib.hid hz9
      have HEB := Lib.hid heb9
      clear hfin hz9 heb9 hat hM htz hm1 hk1 hb1 HEX HP HRr
      go_wp2_with (first | (refine wpList_load_row rfl 28 _ rfl ge rfl 28 #[.int .i64 6, .string ⟨#[]⟩, nv, .slice (some ⟨w7.heap.size, 0, none⟩) 1 1] (0, 0) _ HEB.out Tryd.underlying28 rfl info28 ?_) | (refine wpList_store_row rfl 28 _ _ rfl (w.heap.size + 1) #[.int .i64 6, .string ⟨#[]⟩, nv, .slice (some ⟨w7.heap.size, 0, none⟩) 1 1] rfl rfl 28 Z4 HZ.out info28 rfl hone ?_))
      refine bodyPost_ret (results_cell_row rfl _ _ (w.heap.size + 1) 28 #[.int .i64 6, .string ⟨#[]⟩, nv, .slice (some ⟨w7.heap.size, 0, none⟩) 1 1] (0, 0) _ rfl (setRow_heap _ _ _ _ 28 _ HZ.out) Tryd.underlying28 rfl info28) rfl ?_
      exact HF.out
set_option maxHeartbeats 8000000 in
set_option maxRecDepth 100000 in
theorem make5 (k n : Int) (pl : List Rw) (ih : ∀ r ∈ pl, MkC r) (w0 w : World) (g m : Nat) (sc : List ByteArray) (scv : Value) (P : Pre w0 w g m sc scv) (po : Option Addr) (pc : Nat) (hm : m + 2 * (1 + Rw.cnts pl) ≤ 50000) (hR : RsAt w0 po pl) (hk : I64 k) (hn : I64 n) (hq : k % 16 = 5) :
    Calls Tryd.prog 30 #[.pointer (some ⟨g, 0, none⟩), .agg #[.int .i64 k, .int .i64 n, .slice po pl.length pc], scv] w (RetMade sc g m (2 * (1 + Rw.cnts pl)) (4 * (1 + Rw.cnts pl)) w) := by
  have hb2 : Below w.heap.size w ((w.alloc (.cells #[.int .i64 k, .int .i64 n, .slice po pl.length pc] 53)).alloc (.cells Z4 28)) := ((Below.refl w.heap.size w).alloc (Nat.le_refl _) _).alloc (by simp) _
  have hz2 : ((w.alloc (.cells #[.int .i64 k, .int .i64 n, .slice po pl.length pc] 53)).alloc (.cells Z4 28)).heap[w.heap.size + 1]? = some (.cells Z4 28 (0, 0)) := by
    have h := alloc_at (w.alloc (.cells #[.int .i64 k, .int .i64 n, .slice po pl.length pc] 53)) (.cells Z4 28)
    have e : (w.alloc (.cells #[.int .i64 k, .int .i64 n, .slice po pl.length pc] 53)).heap.size = w.heap.size + 1 := by simp
    rw [e] at h; exact h
  have hs2 : ((w.alloc (.cells #[.int .i64 k, .int .i64 n, .slice po pl.length pc] 53)).alloc (.cells Z4 28)).heap.size = w.heap.size + 2 := by simp
  have hgw := P.cnt.lt
  have HB2 := Lib.hid hb2
  have HZ2 := Lib.hid hz2
  have HRW : Hid (((w.alloc (.cells #[.int .i64 k, .int .i64 n, .slice po pl.length pc] 53)).alloc (.cells Z4 28)).heap[w.heap.size]? = some (.cells #[.int .i64 k, .int .i64 n, .slice po pl.length pc] 53 (0, 0))) := (Lib.alloc_old _ _ _ (by simp)).trans (alloc_at w _)
  obtain ⟨so, sc1, rfl⟩ := P.scope.form
  have PP := Lib.hid P
  have hfew : sc.length ≤ 60000 := by have := P.few; omega
  have F0 := Lib.hid (fun w => within_is k 16 5 hk (by decide) (by decide) hq w)
  obtain ⟨r2, hr2⟩ : ∃ r : Nat, n % 2 = (r : Int) := ⟨(n % 2).toNat, by omega⟩
  have hr2l : r2 < 2 := by omega
  have F2 := Lib.hid (fun w => within_is n 2 r2 hn (by decide) (by decide) hr2 w)
  obtain ⟨qq, hqq⟩ : ∃ qq, qq = r2 + 1 := ⟨_, rfl⟩
  have hq1 : qq ≤ r2 + 1 := by omega
  have hq2 : r2 < qq := by omega
  have IH := Lib.hid ih
  have HR := Lib.hid hR
  have HN := Lib.hid hn
  clear ih hb2 hz2 hq hk hn hr2 hR hqq
  go_enter Tryd.func30, Tryd.ntmps30
  go_wp2_with fail
  generalize (w.alloc (.cells #[.int .i64 k, .int .i64 n, .slice po pl.length pc] 53)).alloc (.cells #[.int .i64 0, .string ⟨#[]⟩, .slice none 0 0, .slice none 0 0] 28) = W2 at HB2 HZ2 hs2 HRW ⊢
  have cK : W2.cell? ⟨w.heap.size, 0, none⟩ = some (.int .i64 k) := by rw [Lib.cell_of_heap HRW.out]; rfl
  have cN : W2.cell? ⟨w.heap.size, 1, none⟩ = some (.int .i64 n) := by rw [Lib.cell_of_heap HRW.out]; rfl
  refine (F0.out _).mono ?_
  rintro e w5 ⟨rfl, rfl⟩
  have hz3 : (W2.alloc (.cells Z4 28)).heap[w.heap.size + 2]? = some (.cells Z4 28 (0, 0)) := by rw [← hs2]; exact alloc_at W2 _
  have HZ3 := Lib.hid hz3
  clear hz3
  go_upto_region 14 with (refine wpList_store_row rfl 28 _ _ rfl (w.heap.size + 2) #[.int .i64 6, .string ⟨#[]⟩, .slice none 0 0, .slice none 0 0] rfl rfl 28 Z4 HZ3.out info28 rfl rfl ?_)
  have he3 : (W2.alloc (.cells #[.int .i64 6, .string ⟨#[]⟩, .slice none 0 0, .slice none 0 0] 28)).heap[w.heap.size + 2]? = some (.cells #[.int .i64 6, .string ⟨#[]⟩, .slice none 0 0, .slice none 0 0] 28 (0, 0)) := by rw [← hs2]; exact alloc_at W2 _
  have hb3 : Below W2.heap.size W2 (W2.alloc (.cells #[.int .i64 6, .string ⟨#[]⟩, .slice none 0 0, .slice none 0 0] 28)) := (Below.refl _ _).alloc (Nat.le_refl _) _
  have hs3 : (W2.alloc (.cells #[.int .i64 6, .string ⟨#[]⟩, .slice none 0 0, .slice none 0 0] 28)).heap.size = w.heap.size + 3 := by simp [hs2]
  generalize W2.alloc (.cells #[.int .i64 6, .string ⟨#[]⟩, .slice none 0 0, .slice none 0 0] 28) = W0 at he3 hb3 hs3 ⊢
  have HB3 := Lib.hid (HB2.out.trans (hb3.mono HB2.out.size))
  have HRW3 := Lib.hid (row_below hb3 HRW.out)
  have HZ3b := Lib.hid (row_below hb3 HZ2.out)
  have P3 := Lib.hid (PP.out.below' HB3.out)
  obtain ⟨ge, hge⟩ : ∃ ge, ge = w.heap.size + 2 := ⟨_, rfl⟩
  rw [← hge] at he3
  simp only [← hge]
  have HE3 : Hid (EB W0 ge 6 ⟨#[]⟩ (.slice none 0 0) (.slice none 0 0)) := he3
  have hgeb : ge < W0.heap.size := by omega
  have hgb : g < W0.heap.size := by omega
  have hne : ge ≠ g := by omega
  have hbW : w.heap.size < W0.heap.size := by omega
  have hbg : w.heap.size ≠ g := by omega
  have hbe : w.heap.size ≠ ge := by omega
  have hge1 : w.heap.size + 1 ≠ ge := by omega
  have hgeW : w.heap.size ≤ ge := by omega
  have hWW : w.heap.size + 3 ≤ W0.heap.size := by omega
  have hgw0 : w0.heap.size ≤ ge := by have := PP.out.maker; omega
  have HGE := Lib.hid hge
  clear hge hs3
  clear he3 hb3 HZ3 HRW HB2 HZ2 cK cN hs2 F0
  have HSC : Hid (NAt (fun x => x ≠ g) (W0.alloc (.cells #[] 9)) (.slice so sc.length sc1) sc) := P3.out.scope.keeps (Keeps.of_below ((Below.refl _ _).alloc (Nat.le_refl _) _))
  have HL := Lib.hid (OwnN.lit W0.heap.size W0 (Nat.le_refl _))
  have hscl : sc.length ≤ 100000 := by omega
  have hB1 : W0.heap.size ≤ (W0.alloc (.cells #[] 9)).heap.size := by simp
  go_wp2_with (refine wpList_wanted (by rfl) fun K hK => ?_; refine wp_appNs (Operand.tmp 66) (Operand.tmp 67) rfl W0.heap.size W0.heap.size 0 rfl HL.out _ sc rfl HSC.out hscl hB1 ?_; intro v' w9 hown9 hg9; have H0 : Hid (LN W0 g ge qq m sc 6 v' (.int .i64 0) w9) := LN.start HE3.out hown9 hg9 P3.out.cnt hgb hgeb; clear hown9 hg9 HL HSC hscl hB1; refine hK _ _ ?_; clear hK K)
  go_loopw [8, 9] (fun inv iv wr => LN W0 g ge qq m sc 6 inv iv wr) (fun _ iv _ => qq - (intOf iv).toNat)
  case atStart => exact H0.out
  case round =>
    clear H0
    obtain ⟨i, nv, hi, rfl, heb, hn, hin, hap, hmk, hbut⟩ := hrel
    have hs0 := hbut.size
    have HRr : Hid (wr.heap[w.heap.size]? = some (.cells #[.int .i64 k, .int .i64 n, .slice po pl.length pc] 53 (0, 0))) := (hbut.block _ hbW hbg hbe).trans HRW3.out
    have cN : wr.cell? ⟨w.heap.size, 1, none⟩ = some (.int .i64 n) := by rw [Lib.cell_of_heap HRr.out]; rfl
    have HPr : Hid (Pre w0 wr g (m + i) (sc ++ nms m (m + i)) u8) := LN.pre P3.out ⟨_, _, HE3.out⟩ hgw0 hin hmk hbut hgb (by omega)
    go_wp2_with fail
    refine (F2.out _).mono ?_
    rintro e w6 ⟨rfl, rfl⟩
    by_cases hiq : i < qq
    · have q1 : decide ((i : Int) ≤ (r2 : Int)) = true := decide_eq_true (by omega)
      have HNM := Lib.hid (name_any g (m + i) wr hmk (by omega))
      have HST : Hid (∀ (w6 : World) (h1 : Mk w6 g (m + i + 1)) (h2 : But wr.heap.size g wr w6) (s : ByteArray) (hs : s = nm (m + i + 1)), _) := fun w6 h1 h2 s hs => LN.step hiq heb hn hin hap hbut hgb hgeb hne h1 h2 s hs
      have hln : (nms m (m + i)).length ≤ 100000 := by rw [nms_len]; omega
      have hls : (sc ++ nms m (m + i)).length ≤ 100000 := by rw [List.length_append, nms_len]; omega
      clear heb hn hin hap hmk hbut HRr HPr
      go_wp2_with fail
      refine HNM.out.mono ?_
      rintro e w7 ⟨rfl, hmk7, hb7⟩
      obtain ⟨s, hs⟩ : ∃ s, s = nm (m + i + 1) := ⟨_, rfl⟩
      rw [← hs]
      obtain ⟨c2, hx, hcx, hBx, hc⟩ := HST.out w7 hmk7 hb7 s hs
      have HX := Lib.hid hx
      have HC := Lib.hid hc
      clear hmk7 hb7 hs hx hc HST HNM
      go_wp2_with (first | (refine wpList_wanted (by rfl) fun K hK => ?_; refine wp_appN2 (Operand.tmp 79) (Operand.tmp 81) rfl W0.heap.size nv _ rfl HX.out _ rfl s hcx hln hBx ?_; intro v' w8 h8 hg8 hv8; obtain ⟨ao', ac', rfl⟩ := own_form h8; obtain ⟨y1, y2, y3, y4⟩ := HC.out _ w8 h8 hg8 hv8; have HY := Lib.hid y1; have HD := Lib.hid y4; clear h8 hg8 hv8 y1 y4 HC HX; refine hK _ _ ?_; clear hK K) | (refine wpList_wanted (by rfl) fun K hK => ?_; refine wp_appN2 (Operand.tmp 83) (Operand.tmp 85) rfl W0.heap.size u8 _ rfl HY.out _ rfl s y2 hls y3 ?_; intro v2 w10 h10 hg10 hv10; obtain ⟨c10, f10, x10⟩ := HD.out v2 w10 h10 hg10 hv10; have HREL := Lib.hid x10; clear h10 hg10 hv10 x10 HD HY; refine hK _ _ ?_; clear hK K))
      go_roundw
      case rel => (have h9 := HREL.out; simp only [List.length_append, List.length_singleton] at h9; exact h9)
      case measure => simp [intOf]; omega
    · have q1 : decide ((i : Int) ≤ (r2 : Int)) = false := decide_eq_false (by omega)
      obtain rfl : i = qq := by omega
      have hcl := cnts_take_le pl 1
      have hct : Rw.cnts (pl.take 1) = pcn pl 0 := by have h := pcn_take pl 0; have h0 : Rw.cnts (pl.take 0) = 0 := (by simp [Rw.cnts]); rw [h0] at h; simpa using h
      have HP := Lib.hid (part_any k n pl IH.out w0 wr g (m + i) _ _ HPr.out po pc 0 (by omega) (by omega) HR.out HN.out)
      have hz : wr.heap[w.heap.size + 1]? = some (.cells Z4 28 (0, 0)) := (hbut.block _ (by omega) (by omega) hge1).trans HZ3b.out
      have HEX : Hid (∀ (w7 : World) (t : Et) (k5 : Int) (t5 : ByteArray) (nv5 av5 : Value) (m1 : Nat), Et.At (fun x => wr.heap.size ≤ x) w7 t #[.int .i64 k5, .string t5, nv5, av5] → Made (sc ++ nms m (m + i)) (m + i) m1 t → t.size ≤ 1 + 4 * pcn pl 0 → m1 ≤ m + i + 2 * pcn pl 0 → Mk w7 g m1 → But wr.heap.size g wr w7 →
          (w7.alloc (.cells #[.int .i64 k5, .string t5, nv5, av5] 28)).cell? ⟨ge, 3, none⟩ = some (.slice none 0 0) ∧ (w7.alloc (.cells #[.int .i64 k5, .string t5, nv5, av5] 28)).frozen? ⟨ge, 3, none⟩ = false ∧
          EB ((w7.alloc (.cells #[.int .i64 k5, .string t5, nv5, av5] 28)).setCell ⟨ge, 3, none⟩ (.slice (some ⟨w7.heap.size, 0, none⟩) 1 1)) ge 6 ⟨#[]⟩ nv (.slice (some ⟨w7.heap.size, 0, none⟩) 1 1) ∧
          ((w7.alloc (.cells #[.int .i64 k5, .string t5, nv5, av5] 28)).setCell ⟨ge, 3, none⟩ (.slice (some ⟨w7.heap.size, 0, none⟩) 1 1)).heap[w.heap.size + 1]? = some (.cells Z4 28 (0, 0)) ∧
          (#[.int .i64 6, .string ⟨#[]⟩, nv, .slice (some ⟨w7.heap.size, 0, none⟩) 1 1] : Array Value).all (·.oneCell') = true ∧
          RetMade sc g m (2 * (1 + Rw.cnts pl)) (4 * (1 + Rw.cnts pl)) w (.returned (.agg #[.int .i64 6, .string ⟨#[]⟩, nv, .slice (some ⟨w7.heap.size, 0, none⟩) 1 1])) (((w7.alloc (.cells #[.int .i64 k5, .string t5, nv5, av5] 28)).setCell ⟨ge, 3, none⟩ (.slice (some ⟨w7.heap.size, 0, none⟩) 1 1)).setRow (w.heap.size + 1) #[.int .i64 6, .string ⟨#[]⟩, nv, .slice (some ⟨w7.heap.size, 0, none⟩) 1 1])) := by
        show _
        intro w7 t k5 t5 nv5 av5 m1 hat hM htz hm1 hk1 hb1
        have h7 := hb1.size
        have heb7 : EB w7 ge 6 ⟨#[]⟩ nv (.slice none 0 0) := by unfold EB; rw [hb1.block ge (by omega) hne]; exact heb
        have hn7 := hn.but hb1 hgb
        have hz7 : w7.heap[w.heap.size + 1]? = some (.cells Z4 28 (0, 0)) := (hb1.block _ (by omega) (by omega)).trans hz
        have hbu7 : But2 W0.heap.size g ge W0 w7 := hbut.trans (But2.of (hb1.mono hs0))
        generalize hW8 : w7.alloc (.cells #[.int .i64 k5, .string t5, nv5, av5] 28) = w8
        have ha : Below w7.heap.size w7 w8 := by rw [← hW8]; exact (Below.refl _ _).alloc (Nat.le_refl _) _
        have hrow : w8.heap[w7.heap.size]? = some (.cells #[.int .i64 k5, .string t5, nv5, av5] 28 (0, 0)) := by rw [← hW8]; exact alloc_at w7 _
        have heb8 : EB w8 ge 6 ⟨#[]⟩ nv (.slice none 0 0) := row_below ha heb7
        have hz8 := row_below ha hz7
        have hn8 := hn7.below ha
        have hmk8 := hk1.below ha
        have hbu8 : But2 W0.heap.size g ge W0 w8 := hbu7.trans (But2.of (But.of (ha.mono (by omega))))
        have hat8 : Et.At (fun x => wr.heap.size ≤ x) w8 t #[.int .i64 k5, .string t5, nv5, av5] := Et.At.keeps (Keeps.of_below ha) _ _ hat
        clear hW8
        have heb9 := heb8.setA (.slice (some ⟨w7.heap.size, 0, none⟩) 1 1)
        have hz9 : (w8.setCell ⟨ge, 3, none⟩ (.slice (some ⟨w7.heap.size, 0, none⟩) 1 1)).heap[w.heap.size + 1]? = some (.cells Z4 28 (0, 0)) := by rw [heap_setCell_other w8 ⟨ge, 3, none⟩ _ _ (by show w.heap.size + 1 ≠ ge; omega)]; exact hz8
        have hn9 := hn8.setCell (a := ⟨ge, 3, none⟩) hgeb (.slice (some ⟨w7.heap.size, 0, none⟩) 1 1)
        have hmk9 : Mk (w8.setCell ⟨ge, 3, none⟩ (.slice (some ⟨w7.heap.size, 0, none⟩) 1 1)) g m1 := by unfold Mk; rw [heap_setCell_other w8 ⟨ge, 3, none⟩ g _ (by show g ≠ ge; omega)]; exact hmk8
        have hbu9 : But2 W0.heap.size g ge W0 (w8.setCell ⟨ge, 3, none⟩ (.slice (some ⟨w7.heap.size, 0, none⟩) 1 1)) := hbu8.setCell (p := ⟨ge, 3, none⟩) (.inr rfl) _
        have hrow9 : (w8.setCell ⟨ge, 3, none⟩ (.slice (some ⟨w7.heap.size, 0, none⟩) 1 1)).heap[w7.heap.size]? = some (.cells #[.int .i64 k5, .string t5, nv5, av5] 28 (0, 0)) := by rw [heap_setCell_other w8 ⟨ge, 3, none⟩ _ _ (by show w7.heap.size ≠ ge; omega)]; exact hrow
        have hat9 : Et.At (fun x => w.heap.size + 2 ≤ x) (w8.setCell ⟨ge, 3, none⟩ (.slice (some ⟨w7.heap.size, 0, none⟩) 1 1)) t #[.int .i64 k5, .string t5, nv5, av5] := Et.At.mono (fun x hx => by have : wr.heap.size ≤ x := hx; omega) _ _ (Et.At.keeps (fun x c T fz hx hxx _ => ⟨fz, by have : wr.heap.size ≤ x := hx; rw [heap_setCell_other w8 ⟨ge, 3, none⟩ x _ (by show x ≠ ge; omega)]; exact hxx⟩) _ _ hat8)
        have hnl : 1 ≤ i := by omega
        have hMM : Made sc m m1 (.mk 6 ⟨#[]⟩ (nms m (m + i)) [t]) := MadeL.node (sc := sc) (ns := nms m (m + i)) (b := m + i) ((MadeL.nil _ _).snoc hM) (by omega) rfl (by omega) (by rw [nms_len]; omega) (by decide) (by decide) (by
          have ho := nms_once m (m + i)
          have hl := nms_len m (m + i)
          simp [shapeB, textB, namesB, partsB, Lib.toList_data, ho, hl]
          try omega)
        obtain ⟨hone, hfin⟩ := made_exit (c := 2 * (1 + Rw.cnts pl)) (s := 4 * (1 + Rw.cnts pl)) (sc := sc) (ns := nms m (m + i)) (m := m) (a := 0) hz9 (hn9.at.mono (fun x hx => by have : W0.heap.size ≤ x := hx.1; omega)) (one_at1 (by omega) hat9 hrow9) hMM (by simp only [Et.sizes]; omega) (by omega) hmk9 ((But.of HB3.out).trans (hbu9.to (by omega) (by omega))) hgw
        exact ⟨(EB.cell _ _ _ _ _ _ heb8).2.2.2, heb8.frozen 3, heb9, hz9, hone, hfin⟩
      clear heb hn hin hap hmk hbut hz HPr hcl hct
      go_wp2_with (refine wpList_load_row rfl 53 _ rfl w.heap.size rfl 53 #[.int .i64 k, .int .i64 n, .slice po pl.length pc] (0, 0) _ HRr.out Tryd.underlying53 rfl info53 ?_)
      refine HP.out.mono ?_
      rintro e w7 ⟨cs, t, m1, rfl, hat, hM, htz, hm1, hk1, hb1⟩
      obtain ⟨k5, t5, nv5, av5, rfl, o1, o2⟩ := EAt_form hat
      obtain ⟨c8, f8, heb9, hz9, hone, hfin⟩ := HEX.out w7 t k5 t5 nv5 av5 m1 hat hM htz hm1 hk1 hb1
      have HF := Lib.hid hfin
      have HZ := Lib.hid hz9
      have HEB := Lib.hid heb9
      clear hfin hz9 heb9 hat hM htz hm1 hk1 hb1 HEX HP HRr
      go_wp2_with (first | (refine wpList_load_row rfl 28 _ rfl ge rfl 28 #[.int .i64 6, .string ⟨#[]⟩, nv, .slice (some ⟨w7.heap.size, 0, none⟩) 1 1] (0, 0) _ HEB.out Tryd.underlying28 rfl info28 ?_) | (refine wpList_store_row rfl 28 _ _ rfl (w.heap.size + 1) #[.int .i64 6, .string ⟨#[]⟩, nv, .slice (some ⟨w7.heap.size, 0, none⟩) 1 1] rfl rfl 28 Z4 HZ.out info28 rfl hone ?_))
      refine bodyPost_ret (results_cell_row rfl _ _ (w.heap.size + 1) 28 #[.int .i64 6, .string ⟨#[]⟩, nv, .slice (some ⟨w7.heap.size, 0, none⟩) 1 1] (0, 0) _ rfl (setRow_heap _ _ _ _ 28 _ HZ.out) Tryd.underlying28 rfl info28) rfl ?_
      exact HF.out
end Go.Proofs.YtmcgocbkjdacaaaDoor
