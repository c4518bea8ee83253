/- The walk of DatumAll. -/
import Derived.Test.YtlkpddokmibkiaaN4
import Derived.Test.YtlkpddokmibkiaaC2
import Derived.Test.YtlkpddokmibkiaaC4
import Derived.Test.YtlkpddokmibkiaaC5
namespace Go.Proofs.Ytlkpddokmibkiaa
open Go.RowKit
set_option linter.unusedVariables false
set_option linter.unusedSimpArgs false

/-- What a made and marked list is: no greater than sixty data and itself, its text not long. -/
theorem made_small (l : List Rw) (hc : Rw.cnts l ≤ 60) : (Dt.mk 4 ⟨#[]⟩ [] (Rw.makes l) 0).size ≤ 61 ∧ (Dt.mk 4 ⟨#[]⟩ [] (Rw.makes l) 0).txt.length ≤ 2470 := by
  have h0 := makes_size l
  have h1 := makes_txt l
  have h2 := txts_txtr (Rw.makes l)
  constructor
  · simp only [Dt.size]; omega
  · simp only [Dt.txt, if_true, List.length_cons, List.length_append, List.length_nil]; omega
theorem But.below {g : Nat} {w0 w1 w2 : World} (h : Below w0.heap.size w0 w1) (hb : But w1.heap.size g w1 w2) (hg : w0.heap.size ≤ g) : Below w0.heap.size w0 w2 :=
  ⟨hb.os.trans h.os, hb.tape.trans h.tape, hb.output.trans h.output, Nat.le_trans h.size hb.size, fun k hk => (hb.block k (by have := h.size; omega) (by omega)).trans (h.block k hk)⟩

set_option maxHeartbeats 8000000 in
theorem all_walk (l : List Rw) (ao : Option Addr) (ac : Nat) (l2 : List Rw) (ao2 : Option Addr) (ac2 : Nat) (bo : Option Addr) (bl bc : Nat) (zs : List Int) (raw : ByteArray) (w : World) (hR : RsAt w ao l) (hR2 : RsAt w ao2 l2) (hN : IsRow .i64 w bo bl bc zs) (hraw : raw.size ≤ maxLen) :
    Calls Try.prog 3 #[.slice ao l.length ac, .slice ao2 l2.length ac2, .slice bo bl bc, .string raw] w fun e w' => e = .returned (.bool true) ∧ Below w.heap.size w w' := by
  unfold maxLen at hraw
  have HR := Lib.hid hR
  have HR2 := Lib.hid hR2
  have HN := Lib.hid hN
  clear hR hR2 hN
  go_enter Try.func3, Try.ntmps3
  go_wp2_with fail
  refine (known_any _).mono ?_
  rintro e w0 ⟨rfl, hb0⟩
  have B0 := Lib.hid hb0
  have R0 := Lib.hid (HR.out.below hb0)
  have R02 := Lib.hid (HR2.out.below hb0)
  clear hb0
  go_wp2_with fail
  refine (few_any l ao ac w0 R0.out).mono ?_
  rintro e w' ⟨r, rfl, hfew, rfl⟩
  cases r with
  | false =>
    clear hfew
    go_wp2
    go_ret
    exact ⟨rfl, B0.out⟩
  | true =>
  have HC := Lib.hid (hfew rfl)
  clear hfew
  go_wp2_with fail
  refine (few_any l2 ao2 ac2 w0 R02.out).mono ?_
  rintro e w' ⟨r, rfl, hfew, rfl⟩
  cases r with
  | false =>
    clear hfew
    go_wp2
    go_ret
    exact ⟨rfl, B0.out⟩
  | true =>
  have HC2 := Lib.hid (hfew rfl)
  clear hfew
  by_cases hlen : 60 < raw.size
  · have q0 : decide ((60 : Int) < (raw.size : Int)) = true := decide_eq_true (by omega)
    go_wp2_with fail
    go_ret
    exact ⟨rfl, B0.out⟩
  have q0 : decide ((60 : Int) < (raw.size : Int)) = false := decide_eq_false (by omega)
  have hrs : raw.size ≤ 60 := by omega
  clear hraw
  go_wp2_with fail
  clear q0 hlen
  have hbc : Below w0.heap.size w0 (w0.alloc (.cells #[.int .i64 0] 3)) := (Below.refl _ _).alloc (Nat.le_refl _) _
  have g0 := alloc_at w0 (.cells #[.int .i64 0] 3)
  have hsc : (w0.alloc (.cells #[.int .i64 0] 3)).heap.size = w0.heap.size + 1 := by simp
  generalize w0.alloc (.cells #[.int .i64 0] 3) = WC at hbc g0 hsc ⊢
  obtain ⟨g, hg⟩ : ∃ g, g = w0.heap.size := ⟨_, rfl⟩
  rw [← hg] at g0 ⊢
  have HGW := Lib.hid hg
  have hwg : w.heap.size ≤ g := by have := B0.out.size; omega
  have hwg0 : w0.heap.size ≤ g := by omega
  have BWC := hbc
  have GWC : WC.heap[g]? = some (.cells #[.int .i64 (0 : Nat)] 3 (0, 0)) := g0
  have GLWC : g < WC.heap.size := by omega
  clear hbc g0 hsc hg HGW
  refine (all_any l (by have := HC.out; omega) ao ac WC (R0.out.below BWC)).mono ?_
  rintro e w1a ⟨dv, rfl, hown, hb1⟩
  have gg1 : w1a.heap[g]? = some (.cells #[.int .i64 (0 : Nat)] 3 (0, 0)) := by rw [hb1.block _ GLWC]; exact GWC
  have BW1 : Below w0.heap.size w0 w1a := BWC.trans (hb1.mono BWC.size)
  have sg1 := ((Sg.of_row HN.out (g := g) hwg).but (But.of B0.out)).but (But.of BW1)
  obtain ⟨dao, dcap, rfl⟩ := hown.at.form
  obtain ⟨dn, hdn⟩ : ∃ dn, dn = (Rw.makes l).length := ⟨_, rfl⟩
  rw [← hdn] at hown ⊢
  clear hdn
  obtain ⟨zs1, zt1⟩ := made_small l HC.out
  have hat := list_at2 hown.at
  have hat' := Dt.At.mono (T := fun b => b ≠ g) (fun b (hb : WC.heap.size ≤ b) => by have := GLWC; omega) _ _ hat
  obtain ⟨da, hda⟩ : ∃ d, d = Dt.mk 4 ⟨#[]⟩ [] (Rw.makes l) 0 := ⟨_, rfl⟩
  rw [← hda] at hat' zs1 zt1
  clear hda
  have F0 := Lib.hid (mark_any 1000000 (Nat.le_refl _) da (by omega) (zs.take bl) g 0 _ bo bl bc w1a hat' sg1 gg1 (by omega))
  have o1 := hown.at.one
  have ZS := Lib.hid zs1
  have ZT := Lib.hid zt1
  have BW1H := Lib.hid BW1
  have GL1 : g < w1a.heap.size := Nat.lt_of_lt_of_le GLWC hb1.size
  have GLHa := Lib.hid GL1
  clear hown hb1 hat hat' sg1 gg1 BW1 zs1 zt1
  go_wp2_with fail
  refine F0.out.mono ?_
  rintro e w2a ⟨ca, rfl, hat, hb2, hg2⟩
  obtain ⟨ka, ta, mva, lva, pa, rfl, o3a, o4a⟩ := At_form hat
  have zsa : (da.mark (zs.take bl) 0).size ≤ 61 := by rw [mark_size]; exact ZS.out
  have zta : (da.mark (zs.take bl) 0).txt.length ≤ 2470 := by rw [mark_txt]; exact ZT.out
  have hpn := next_le (zs.take bl) da 0
  have hz0 := ZS.out
  have hpna : da.next (zs.take bl) 0 ≤ 0 + 305 := by omega
  obtain ⟨pna, hpea⟩ : ∃ x, x = da.next (zs.take bl) 0 := ⟨_, rfl⟩
  rw [← hpea] at hg2 hpna
  obtain ⟨daa, hdaa⟩ : ∃ x, x = da.mark (zs.take bl) 0 := ⟨_, rfl⟩
  rw [← hdaa] at hat zsa zta
  have BW2 : Below w0.heap.size w0 w2a := But.below BW1H.out hb2 (by omega)
  have GL2 : g < w2a.heap.size := Nat.lt_of_lt_of_le GL1 hb2.size
  clear F0 hpea hpn hz0
  have z1 : (#[.int .i64 ka, .string ta, mva, lva, .int .i64 pa] : Array Value).all (·.oneCell') = true := by simp [Value.oneCell'] at o3a o4a ⊢; exact ⟨o3a, o4a⟩
  go_wp2_with (refine wpList_store_row rfl 28 _ _ rfl w2a.heap.size #[.int .i64 ka, .string ta, mva, lva, .int .i64 pa] rfl rfl 28 Z5 (alloc_at _ _) info28 rfl z1 ?_)
  try rw [show (w2a.alloc (.cells #[.int .i64 0, .string ⟨#[]⟩, .slice none 0 0, .slice none 0 0, .int .i64 0] 28)).setRow w2a.heap.size #[.int .i64 ka, .string ta, mva, lva, .int .i64 pa] = w2a.alloc (.cells #[.int .i64 ka, .string ta, mva, lva, .int .i64 pa] 28) from setRow_new _ _ _ _]
  have h3 := alloc_at w2a (.cells #[.int .i64 ka, .string ta, mva, lva, .int .i64 pa] 28)
  have b3 : Below w2a.heap.size w2a (w2a.alloc (.cells #[.int .i64 ka, .string ta, mva, lva, .int .i64 pa] 28)) := (Below.refl _ _).alloc (Nat.le_refl _) _
  have ATA := Lib.hid (Dt.At.keeps (Keeps.of_below b3) _ _ hat)
  have GW3 : (w2a.alloc (.cells #[.int .i64 ka, .string ta, mva, lva, .int .i64 pa] 28)).heap[g]? = some (.cells #[.int .i64 pna] 3 (0, 0)) := by rw [b3.block _ GL2]; exact hg2
  have BW3 : Below w0.heap.size w0 (w2a.alloc (.cells #[.int .i64 ka, .string ta, mva, lva, .int .i64 pa] 28)) := BW2.trans (b3.mono BW2.size)
  have GLW3 : g < (w2a.alloc (.cells #[.int .i64 ka, .string ta, mva, lva, .int .i64 pa] 28)).heap.size := Nat.lt_of_lt_of_le GL2 b3.size
  clear b3 BW2 GL2 hg2 hat GL1 BW1H BWC GWC GLWC z1 hb2 ZS ZT
  obtain ⟨abk, habk⟩ : ∃ x, x = w2a.heap.size := ⟨_, rfl⟩
  generalize w2a.alloc (.cells #[.int .i64 ka, .string ta, mva, lva, .int .i64 pa] 28) = W3 at h3 ATA GW3 BW3 GLW3 ⊢
  rw [← habk] at h3 ⊢
  have HA3 := Lib.hid h3
  have ha3 : abk < W3.heap.size := (Array.getElem?_eq_some_iff.1 h3).1
  have hag : abk ≠ g := by rintro rfl; rw [GW3] at h3; injection h3 with h3; injection h3 with _ h3 _; exact absurd h3 (by decide)
  clear habk h3
  refine (all_any l2 (by have := HC2.out; omega) ao2 ac2 W3 (R02.out.below BW3)).mono ?_
  rintro e w1b ⟨dv, rfl, hown, hb1⟩
  have gg1 : w1b.heap[g]? = some (.cells #[.int .i64 (pna : Nat)] 3 (0, 0)) := by rw [hb1.block _ GLW3]; exact GW3
  have BW1 : Below w0.heap.size w0 w1b := BW3.trans (hb1.mono BW3.size)
  have sg1 := ((Sg.of_row HN.out (g := g) hwg).but (But.of B0.out)).but (But.of BW1)
  obtain ⟨dao, dcap, rfl⟩ := hown.at.form
  obtain ⟨dn, hdn⟩ : ∃ dn, dn = (Rw.makes l2).length := ⟨_, rfl⟩
  rw [← hdn] at hown ⊢
  clear hdn
  obtain ⟨zs1, zt1⟩ := made_small l2 HC2.out
  have hat := list_at2 hown.at
  have hat' := Dt.At.mono (T := fun b => b ≠ g) (fun b (hb : W3.heap.size ≤ b) => by have := GLW3; omega) _ _ hat
  obtain ⟨db, hdb⟩ : ∃ d, d = Dt.mk 4 ⟨#[]⟩ [] (Rw.makes l2) 0 := ⟨_, rfl⟩
  rw [← hdb] at hat' zs1 zt1
  clear hdb
  have F0 := Lib.hid (mark_any 1000000 (Nat.le_refl _) db (by omega) (zs.take bl) g pna _ bo bl bc w1b hat' sg1 gg1 (by omega))
  have o1 := hown.at.one
  have ZS := Lib.hid zs1
  have ZT := Lib.hid zt1
  have BW1H := Lib.hid BW1
  have GL1 : g < w1b.heap.size := Nat.lt_of_lt_of_le GLW3 hb1.size
  have hb13 := Lib.hid hb1
  have GLHb := Lib.hid GL1
  clear hown hb1 hat hat' sg1 gg1 BW1 zs1 zt1
  go_wp2_with fail
  refine F0.out.mono ?_
  rintro e w2b ⟨ca, rfl, hat, hb2, hg2⟩
  obtain ⟨kb, tb, mvb, lvb, pb, rfl, o3b, o4b⟩ := At_form hat
  have zsb : (db.mark (zs.take bl) pna).size ≤ 61 := by rw [mark_size]; exact ZS.out
  have ztb : (db.mark (zs.take bl) pna).txt.length ≤ 2470 := by rw [mark_txt]; exact ZT.out
  have hpn := next_le (zs.take bl) db pna
  have hz0 := ZS.out
  have hpnb : db.next (zs.take bl) pna ≤ pna + 305 := by omega
  obtain ⟨pnb, hpeb⟩ : ∃ x, x = db.next (zs.take bl) pna := ⟨_, rfl⟩
  rw [← hpeb] at hg2 hpnb
  obtain ⟨dab, hdab⟩ : ∃ x, x = db.mark (zs.take bl) pna := ⟨_, rfl⟩
  rw [← hdab] at hat zsb ztb
  have BW2 : Below w0.heap.size w0 w2b := But.below BW1H.out hb2 (by omega)
  have GL2 : g < w2b.heap.size := Nat.lt_of_lt_of_le GL1 hb2.size
  clear F0 hpeb hpn hz0
  have z1 : (#[.int .i64 kb, .string tb, mvb, lvb, .int .i64 pb] : Array Value).all (·.oneCell') = true := by simp [Value.oneCell'] at o3b o4b ⊢; exact ⟨o3b, o4b⟩
  -- what a is, behind b's making
  have BAB : But W3.heap.size g W3 w2b := ((But.of (Below.refl _ _)).trans (But.of hb13.out)).trans (hb2.mono hb13.out.size)
  have HA4 : w2b.heap[abk]? = some (.cells #[.int .i64 ka, .string ta, mva, lva, .int .i64 pa] 28 (0, 0)) := by rw [BAB.block _ ha3 hag]; exact HA3.out
  have ATA4 := Lib.hid (Dt.At.keeps (BAB.keeps (S := fun x => w1a.heap.size ≤ x) (fun x hx => by have : w1a.heap.size ≤ x := hx; have := GLHa.out; omega)) _ _ ATA.out)
  go_upto_region 8 with (refine wpList_store_row rfl 28 _ _ rfl w2b.heap.size #[.int .i64 kb, .string tb, mvb, lvb, .int .i64 pb] rfl rfl 28 Z5 (alloc_at _ _) info28 rfl z1 ?_)
  try simp only [Act.put]
  try rw [show (w2b.alloc (.cells #[.int .i64 0, .string ⟨#[]⟩, .slice none 0 0, .slice none 0 0, .int .i64 0] 28)).setRow w2b.heap.size #[.int .i64 kb, .string tb, mvb, lvb, .int .i64 pb] = w2b.alloc (.cells #[.int .i64 kb, .string tb, mvb, lvb, .int .i64 pb] 28) from setRow_new _ _ _ _]
  have h5 := alloc_at w2b (.cells #[.int .i64 kb, .string tb, mvb, lvb, .int .i64 pb] 28)
  have b5 : Below w2b.heap.size w2b (w2b.alloc (.cells #[.int .i64 kb, .string tb, mvb, lvb, .int .i64 pb] 28)) := (Below.refl _ _).alloc (Nat.le_refl _) _
  have atb := Dt.At.keeps (Keeps.of_below b5) _ _ hat
  have ata := Dt.At.keeps (Keeps.of_below b5) _ _ ATA4.out
  have h5a := Below.row b5 HA4
  have BW5 := Lib.hid (B0.out.trans ((BW2.trans (b5.mono BW2.size)).mono B0.out.size))
  clear b5 BW2 GL2 hg2 hat GL1 BW1H BW3 GW3 GLW3 z1 hb2 ZS ZT ATA HA3 BAB HA4 ATA4 ha3 hag
  obtain ⟨bbk, hbbk⟩ : ∃ x, x = w2b.heap.size := ⟨_, rfl⟩
  generalize w2b.alloc (.cells #[.int .i64 kb, .string tb, mvb, lvb, .int .i64 pb] 28) = W5 at h5 atb ata h5a BW5 ⊢
  rw [← hbbk] at h5 ⊢
  have HA5 := Lib.hid h5a
  have HB5 := Lib.hid h5
  have ATA5 := Lib.hid ata
  have ATB5 := Lib.hid atb
  clear hbbk h5 h5a ata atb
  rename_i K hK
  have REST : ∀ (u4 u5 u6 u7 u8 u9 u14 u15 u16 u17 u18 u19 u20 u21 u22 u23 u24 u25 u26 u27 u28 u29 u30 u31 u32 u33 u34 u35 u36 u37 u38 u39 u40 u41 u42 u43 u44 u45 u46 u47 u48 u49 u50 u51 u52 u53 u54 u55 u56 u57 u58 u59 u60 u61 u62 u63 u64 u65 u66 u67 u68 u69 u70 u71 u72 u73 u74 u75 u76 u77 u78 u79 u80 u81 u82 u83 u84 u85 u86 u87 u88 u89 u90 u91 u92 u93 u94 u95 u96 : Value) (wr : World) (pbk qbk : Nat) (kp : Int) (tp : ByteArray) (mvp lvp : Value) (pp : Int) (kq : Int) (tq : ByteArray) (mvq lvq : Value) (pq : Int), wr.heap[pbk]? = some (.cells #[.int .i64 kp, .string tp, mvp, lvp, .int .i64 pp] 28 (0, 0)) → wr.heap[qbk]? = some (.cells #[.int .i64 kq, .string tq, mvq, lvq, .int .i64 pq] 28 (0, 0)) →
      Dt.At (fun _ => True) wr daa.plain #[.int .i64 kp, .string tp, mvp, lvp, .int .i64 pp] → Dt.At (fun _ => True) wr daa.plain #[.int .i64 kq, .string tq, mvq, lvq, .int .i64 pq] → Below W5.heap.size W5 wr → K ⟨#[.slice ao l.length ac, .slice ao2 l2.length ac2, .slice bo bl bc, .string raw, u4, u5, u6, u7, u8, u9, .pointer (some ⟨abk, 0, none⟩), .pointer (some ⟨bbk, 0, none⟩), .pointer (some ⟨pbk, 0, none⟩), .pointer (some ⟨qbk, 0, none⟩), u14, u15, u16, u17, u18, u19, u20, u21, u22, u23, u24, u25, u26, u27, u28, u29, u30, u31, u32, u33, u34, u35, u36, u37, u38, u39, u40, u41, u42, u43, u44, u45, u46, u47, u48, u49, u50, u51, u52, u53, u54, u55, u56, u57, u58, u59, u60, u61, u62, u63, u64, u65, u66, u67, u68, u69, u70, u71, u72, u73, u74, u75, u76, u77, u78, u79, u80, u81, u82, u83, u84, u85, u86, u87, u88, u89, u90, u91, u92, u93, u94, u95, u96], []⟩ wr := by
    intro u4 u5 u6 u7 u8 u9 u14 u15 u16 u17 u18 u19 u20 u21 u22 u23 u24 u25 u26 u27 u28 u29 u30 u31 u32 u33 u34 u35 u36 u37 u38 u39 u40 u41 u42 u43 u44 u45 u46 u47 u48 u49 u50 u51 u52 u53 u54 u55 u56 u57 u58 u59 u60 u61 u62 u63 u64 u65 u66 u67 u68 u69 u70 u71 u72 u73 u74 u75 u76 u77 u78 u79 u80 u81 u82 u83 u84 u85 u86 u87 u88 u89 u90 u91 u92 u93 u94 u95 u96 wr pbk qbk kp tp mvp lvp pp kq tq mvq lvq pq hp hq atp atq hbw
    refine hK _ _ ?_
    clear hK K
    have HA6 := Lib.hid (Below.row hbw HA5.out)
    have HB6 := Lib.hid (Below.row hbw HB5.out)
    have ATA6 := Lib.hid (Dt.At.keeps (Keeps.of_below hbw) _ _ ATA5.out)
    have ATB6 := Lib.hid (Dt.At.keeps (Keeps.of_below hbw) _ _ ATB5.out)
    have BW6 := Lib.hid (BW5.out.trans (hbw.mono BW5.out.size))
    have HP6 := Lib.hid hp
    have HQ6 := Lib.hid hq
    have ATP := Lib.hid atp
    have ATQ := Lib.hid atq
    clear hbw hp hq atp atq HA5 HB5 ATA5 ATB5 BW5
    obtain ⟨TD, hTD⟩ : ∃ TD : ByteArray, TD = ⟨daa.txt.toArray⟩ := ⟨_, rfl⟩
    have htd : TD.size ≤ 2470 := by rw [hTD]; simp only [ByteArray.size, List.size_toArray]; omega
    obtain ⟨dz, hdz⟩ : ∃ dz, dz = daa.size := ⟨_, rfl⟩
    have F1 := Lib.hid (part_text ATA6.out (by omega) (by omega) TD hTD)
    have F2 : Hid (∀ w', Below wr.heap.size wr w' → Calls Try.prog 18 #[.agg #[.int .i64 ka, .string ta, mva, lva, .int .i64 pa]] w' (RetStr TD w')) := by
      intro w' hb
      have := reftext_any 1000000 (by decide) daa (by omega) (by omega) _ _ w' (Dt.At.keeps (Keeps.of_below hb) _ _ ATA6.out)
      rw [← hTD] at this
      exact this
    obtain ⟨sab, hsab⟩ : ∃ sab, sab = daa.same dab := ⟨_, rfl⟩
    have F3 : Hid (∀ w', Below wr.heap.size wr w' → Calls Try.prog 19 #[.agg #[.int .i64 ka, .string ta, mva, lva, .int .i64 pa], .agg #[.int .i64 kb, .string tb, mvb, lvb, .int .i64 pb]] w' (RetBool sab w')) := by
      intro w' hb
      have := same_any 1000000 (by decide) daa dab (by omega) _ _ _ _ w' (Dt.At.keeps (Keeps.of_below hb) _ _ ATA6.out) (Dt.At.keeps (Keeps.of_below hb) _ _ ATB6.out)
      rw [← hsab] at this
      exact this
    have F4 : Hid (∀ w', Below wr.heap.size wr w' → Calls Try.prog 20 #[.agg #[.int .i64 ka, .string ta, mva, lva, .int .i64 pa], .agg #[.int .i64 kb, .string tb, mvb, lvb, .int .i64 pb]] w' (RetBool sab w')) := by
      intro w' hb
      have := refsame_any 1000000 (by decide) daa dab (by omega) _ _ _ _ w' (Dt.At.keeps (Keeps.of_below hb) _ _ ATA6.out) (Dt.At.keeps (Keeps.of_below hb) _ _ ATB6.out)
      rw [← hsab] at this
      exact this
    have F5 : Hid (∀ w', Below wr.heap.size wr w' → Calls Try.prog 19 #[.agg #[.int .i64 ka, .string ta, mva, lva, .int .i64 pa], .agg #[.int .i64 ka, .string ta, mva, lva, .int .i64 pa]] w' (RetBool true w')) := by
      intro w' hb
      have := same_any 1000000 (by decide) daa daa (by omega) _ _ _ _ w' (Dt.At.keeps (Keeps.of_below hb) _ _ ATA6.out) (Dt.At.keeps (Keeps.of_below hb) _ _ ATA6.out)
      rw [same_refl] at this
      exact this
    have F6 : Hid (∀ w', Below wr.heap.size wr w' → Calls Try.prog 21 #[.agg #[.int .i64 kp, .string tp, mvp, lvp, .int .i64 pp], .agg #[.int .i64 kq, .string tq, mvq, lvq, .int .i64 pq]] w' (RetBool true w')) := by
      intro w' hb
      exact places_refl 1000000 (by decide) daa.plain (by rw [plain_size]; omega) _ _ _ _ w' (Dt.At.keeps (Keeps.of_below hb) _ _ ATP.out) (Dt.At.keeps (Keeps.of_below hb) _ _ ATQ.out)
    have F7' := part_size ATA6.out (by omega)
    rw [← hdz] at F7'
    have F7 := Lib.hid F7'
    have F8 : Hid (∀ w', Below wr.heap.size wr w' → Calls Try.prog 23 #[.agg #[.int .i64 ka, .string ta, mva, lva, .int .i64 pa]] w' (RetInt (dz : Int) w')) := by
      intro w' hb
      have := refsize_any 1000000 (by decide) daa (by omega) _ _ w' (Dt.At.keeps (Keeps.of_below hb) _ _ ATA6.out)
      rw [← hdz] at this
      exact this
    obtain ⟨ris, hris⟩ : ∃ r, r = ((ka == 3) && (ta.toList == raw.toList)) := ⟨_, rfl⟩
    have F9 : Hid (∀ w', Below wr.heap.size wr w' → Calls Try.prog 24 #[.agg #[.int .i64 ka, .string ta, mva, lva, .int .i64 pa], .string raw] w' (RetBool ris w')) := by
      intro w' _
      rw [hris]
      exact is_any ka ta raw mva lva pa _ _ rfl rfl o3a o4a w'
    have F10 : Hid (∀ w', Below wr.heap.size wr w' → Calls Try.prog 25 #[.agg #[.int .i64 ka, .string ta, mva, lva, .int .i64 pa], .string raw] w' (RetBool ris w')) := by
      intro w' _
      rw [hris]
      exact refis_any ka ta raw mva lva pa _ _ rfl rfl o3a o4a w'
    have F12 : Hid (∀ w', Below wr.heap.size wr w' → Calls Try.prog 24 #[.agg #[.int .i64 2, .string raw, .slice none 0 0, .slice none 0 0, .int .i64 0], .string raw] w' (RetBool false w')) := by
      intro w' _
      exact is_any 2 raw raw (.slice none 0 0) (.slice none 0 0) 0 false true rfl (by simp) rfl rfl w'
    have F11 : Hid (∀ (mo : Option Addr) w', Below wr.heap.size wr w' → Calls Try.prog 24 #[.agg #[.int .i64 3, .string raw, .slice mo 1 1, .slice none 0 0, .int .i64 0], .string raw] w' (RetBool true w')) := by
      intro mo w' _
      exact is_any 3 raw raw (.slice mo 1 1) (.slice none 0 0) 0 true true rfl (by simp) rfl rfl w'
    clear hTD hdz hsab hris F7'
    go_upto_region 9 with fail
    refine wp_region_noPanic ?_
    refine wp_region_held_drew (S := Below wr.heap.size wr) (by kernel_rfl) ((Below.refl _ _).drew) (fun hHeld => ?_)
    obtain ⟨wd, hwd⟩ : ∃ x, x = wr.drew := ⟨_, rfl⟩
    rw [← hwd] at hHeld ⊢
    clear hwd
    refine wpAnyH_take (i := 0) rfl (by kernel_rfl) (by kernel_rfl) (by kernel_rfl) (fun _ _ _ h => h) (yieldsIf_load_mid (by rfl) _ _ rfl abk 0 rfl [.int .i64 ka, .string ta, mva, lva, .int .i64 pa] _ (fun w' hw' => row_range (Below.row hw' HA6.out)) Try.underlying28 rfl info28) hHeld ?_
    simp only [List.getElem_toArray, List.getElem_cons_succ, List.getElem_cons_zero, Act.put, List.setIfInBounds_toArray, List.set_cons_zero, List.set_cons_succ]
    refine wpAnyH_take (i := 2) rfl (by kernel_rfl) (by kernel_rfl) (by kernel_rfl) (fun _ _ _ h => h) (yieldsIf_load_mid (by rfl) _ _ rfl abk 0 rfl [.int .i64 ka, .string ta, mva, lva, .int .i64 pa] _ (fun w' hw' => row_range (Below.row hw' HA6.out)) Try.underlying28 rfl info28) hHeld ?_
    simp only [List.getElem_toArray, List.getElem_cons_succ, List.getElem_cons_zero, Act.put, List.setIfInBounds_toArray, List.set_cons_zero, List.set_cons_succ]
    refine wpAnyH_ready (rs := [1]) (by kernel_rfl) (by simp) ?_
    refine (AllReadyH.cons rfl (fun K hK => ?_) AllReadyH.nil)
    go_simp
    refine (F1.out _ hHeld).mono ?_
    rintro e w5 ⟨rfl, hb⟩
    have hS := Below.trans hHeld (hb.mono hHeld.size)
    refine hK.out _ _ hS (fun hHeld => ?_)
    clear hK K hb hS
    try simp only [List.getElem_toArray, List.getElem_cons_succ, List.getElem_cons_zero, Act.put, List.setIfInBounds_toArray, List.set_cons_zero, List.set_cons_succ]
    refine wpAnyH_ready (rs := [3]) (by kernel_rfl) (by simp) ?_
    refine (AllReadyH.cons rfl (fun K hK => ?_) AllReadyH.nil)
    go_simp
    refine (F2.out _ hHeld).mono ?_
    rintro e w5 ⟨rfl, hb⟩
    have hS := Below.trans hHeld (hb.mono hHeld.size)
    refine hK.out _ _ hS (fun hHeld => ?_)
    clear hK K hb hS
    try simp only [List.getElem_toArray, List.getElem_cons_succ, List.getElem_cons_zero, Act.put, List.setIfInBounds_toArray, List.set_cons_zero, List.set_cons_succ]
    refine wpAnyH_take (i := 4) (v := Value.bool true) rfl (by kernel_rfl) (by kernel_rfl) (by kernel_rfl) (fun _ _ _ h => h) (Or.inl ⟨rfl, fun w' hw' => ?_⟩) hHeld ?_
    · go_simp
    simp only [List.getElem_toArray, List.getElem_cons_succ, List.getElem_cons_zero, Act.put, List.setIfInBounds_toArray, List.set_cons_zero, List.set_cons_succ]
    refine wpAnyH_take (i := 5) (v := Value.bool true) rfl (by kernel_rfl) (by kernel_rfl) (by kernel_rfl) (fun _ _ _ h => h) (Or.inl ⟨rfl, fun w' hw' => ?_⟩) hHeld ?_
    · go_simp
    simp only [List.getElem_toArray, List.getElem_cons_succ, List.getElem_cons_zero, Act.put, List.setIfInBounds_toArray, List.set_cons_zero, List.set_cons_succ]
    refine wpAnyH_take (i := 6) rfl (by kernel_rfl) (by kernel_rfl) (by kernel_rfl) (fun _ _ _ h => h) (yieldsIf_load_mid (by rfl) _ _ rfl abk 0 rfl [.int .i64 ka, .string ta, mva, lva, .int .i64 pa] _ (fun w' hw' => row_range (Below.row hw' HA6.out)) Try.underlying28 rfl info28) hHeld ?_
    simp only [List.getElem_toArray, List.getElem_cons_succ, List.getElem_cons_zero, Act.put, List.setIfInBounds_toArray, List.set_cons_zero, List.set_cons_succ]
    refine wpAnyH_take (i := 7) rfl (by kernel_rfl) (by kernel_rfl) (by kernel_rfl) (fun _ _ _ h => h) (yieldsIf_load_mid (by rfl) _ _ rfl bbk 0 rfl [.int .i64 kb, .string tb, mvb, lvb, .int .i64 pb] _ (fun w' hw' => row_range (Below.row hw' HB6.out)) Try.underlying28 rfl info28) hHeld ?_
    simp only [List.getElem_toArray, List.getElem_cons_succ, List.getElem_cons_zero, Act.put, List.setIfInBounds_toArray, List.set_cons_zero, List.set_cons_succ]
    refine wpAnyH_take (i := 9) rfl (by kernel_rfl) (by kernel_rfl) (by kernel_rfl) (fun _ _ _ h => h) (yieldsIf_load_mid (by rfl) _ _ rfl abk 0 rfl [.int .i64 ka, .string ta, mva, lva, .int .i64 pa] _ (fun w' hw' => row_range (Below.row hw' HA6.out)) Try.underlying28 rfl info28) hHeld ?_
    simp only [List.getElem_toArray, List.getElem_cons_succ, List.getElem_cons_zero, Act.put, List.setIfInBounds_toArray, List.set_cons_zero, List.set_cons_succ]
    refine wpAnyH_take (i := 10) rfl (by kernel_rfl) (by kernel_rfl) (by kernel_rfl) (fun _ _ _ h => h) (yieldsIf_load_mid (by rfl) _ _ rfl bbk 0 rfl [.int .i64 kb, .string tb, mvb, lvb, .int .i64 pb] _ (fun w' hw' => row_range (Below.row hw' HB6.out)) Try.underlying28 rfl info28) hHeld ?_
    simp only [List.getElem_toArray, List.getElem_cons_succ, List.getElem_cons_zero, Act.put, List.setIfInBounds_toArray, List.set_cons_zero, List.set_cons_succ]
    refine wpAnyH_ready (rs := [8]) (by kernel_rfl) (by simp) ?_
    refine (AllReadyH.cons rfl (fun K hK => ?_) AllReadyH.nil)
    go_simp
    refine (F3.out _ hHeld).mono ?_
    rintro e w5 ⟨rfl, hb⟩
    have hS := Below.trans hHeld (hb.mono hHeld.size)
    refine hK.out _ _ hS (fun hHeld => ?_)
    clear hK K hb hS
    try simp only [List.getElem_toArray, List.getElem_cons_succ, List.getElem_cons_zero, Act.put, List.setIfInBounds_toArray, List.set_cons_zero, List.set_cons_succ]
    refine wpAnyH_ready (rs := [11]) (by kernel_rfl) (by simp) ?_
    refine (AllReadyH.cons rfl (fun K hK => ?_) AllReadyH.nil)
    go_simp
    refine (F4.out _ hHeld).mono ?_
    rintro e w5 ⟨rfl, hb⟩
    have hS := Below.trans hHeld (hb.mono hHeld.size)
    refine hK.out _ _ hS (fun hHeld => ?_)
    clear hK K hb hS
    try simp only [List.getElem_toArray, List.getElem_cons_succ, List.getElem_cons_zero, Act.put, List.setIfInBounds_toArray, List.set_cons_zero, List.set_cons_succ]
    refine wpAnyH_take (i := 12) (v := Value.bool true) rfl (by kernel_rfl) (by kernel_rfl) (by kernel_rfl) (fun _ _ _ h => h) (Or.inl ⟨rfl, fun w' hw' => ?_⟩) hHeld ?_
    · go_simp
    simp only [List.getElem_toArray, List.getElem_cons_succ, List.getElem_cons_zero, Act.put, List.setIfInBounds_toArray, List.set_cons_zero, List.set_cons_succ]
    refine wpAnyH_take (i := 13) (v := Value.bool true) rfl (by kernel_rfl) (by kernel_rfl) (by kernel_rfl) (fun _ _ _ h => h) (Or.inl ⟨rfl, fun w' hw' => ?_⟩) hHeld ?_
    · go_simp
    simp only [List.getElem_toArray, List.getElem_cons_succ, List.getElem_cons_zero, Act.put, List.setIfInBounds_toArray, List.set_cons_zero, List.set_cons_succ]
    refine wpAnyH_take (i := 14) (v := Value.bool true) rfl (by kernel_rfl) (by kernel_rfl) (by kernel_rfl) (fun _ _ _ h => h) (Or.inl ⟨rfl, fun w' hw' => ?_⟩) hHeld ?_
    · go_simp
    simp only [List.getElem_toArray, List.getElem_cons_succ, List.getElem_cons_zero, Act.put, List.setIfInBounds_toArray, List.set_cons_zero, List.set_cons_succ]
    refine wpAnyH_take (i := 15) rfl (by kernel_rfl) (by kernel_rfl) (by kernel_rfl) (fun _ _ _ h => h) (yieldsIf_load_mid (by rfl) _ _ rfl abk 0 rfl [.int .i64 ka, .string ta, mva, lva, .int .i64 pa] _ (fun w' hw' => row_range (Below.row hw' HA6.out)) Try.underlying28 rfl info28) hHeld ?_
    simp only [List.getElem_toArray, List.getElem_cons_succ, List.getElem_cons_zero, Act.put, List.setIfInBounds_toArray, List.set_cons_zero, List.set_cons_succ]
    refine wpAnyH_take (i := 16) rfl (by kernel_rfl) (by kernel_rfl) (by kernel_rfl) (fun _ _ _ h => h) (yieldsIf_load_mid (by rfl) _ _ rfl abk 0 rfl [.int .i64 ka, .string ta, mva, lva, .int .i64 pa] _ (fun w' hw' => row_range (Below.row hw' HA6.out)) Try.underlying28 rfl info28) hHeld ?_
    simp only [List.getElem_toArray, List.getElem_cons_succ, List.getElem_cons_zero, Act.put, List.setIfInBounds_toArray, List.set_cons_zero, List.set_cons_succ]
    refine wpAnyH_ready (rs := [17]) (by kernel_rfl) (by simp) ?_
    refine (AllReadyH.cons rfl (fun K hK => ?_) AllReadyH.nil)
    go_simp
    refine (F5.out _ hHeld).mono ?_
    rintro e w5 ⟨rfl, hb⟩
    have hS := Below.trans hHeld (hb.mono hHeld.size)
    refine hK.out _ _ hS (fun hHeld => ?_)
    clear hK K hb hS
    try simp only [List.getElem_toArray, List.getElem_cons_succ, List.getElem_cons_zero, Act.put, List.setIfInBounds_toArray, List.set_cons_zero, List.set_cons_succ]
    refine wpAnyH_take (i := 18) (v := Value.bool true) rfl (by kernel_rfl) (by kernel_rfl) (by kernel_rfl) (fun _ _ _ h => h) (Or.inl ⟨rfl, fun w' hw' => ?_⟩) hHeld ?_
    · go_simp
    simp only [List.getElem_toArray, List.getElem_cons_succ, List.getElem_cons_zero, Act.put, List.setIfInBounds_toArray, List.set_cons_zero, List.set_cons_succ]
    refine wpAnyH_take (i := 19) (v := Value.bool true) rfl (by kernel_rfl) (by kernel_rfl) (by kernel_rfl) (fun _ _ _ h => h) (Or.inl ⟨rfl, fun w' hw' => ?_⟩) hHeld ?_
    · go_simp
    simp only [List.getElem_toArray, List.getElem_cons_succ, List.getElem_cons_zero, Act.put, List.setIfInBounds_toArray, List.set_cons_zero, List.set_cons_succ]
    refine wpAnyH_take (i := 20) rfl (by kernel_rfl) (by kernel_rfl) (by kernel_rfl) (fun _ _ _ h => h) (yieldsIf_load_mid (by rfl) _ _ rfl pbk 0 rfl [.int .i64 kp, .string tp, mvp, lvp, .int .i64 pp] _ (fun w' hw' => row_range (Below.row hw' HP6.out)) Try.underlying28 rfl info28) hHeld ?_
    simp only [List.getElem_toArray, List.getElem_cons_succ, List.getElem_cons_zero, Act.put, List.setIfInBounds_toArray, List.set_cons_zero, List.set_cons_succ]
    refine wpAnyH_take (i := 21) rfl (by kernel_rfl) (by kernel_rfl) (by kernel_rfl) (fun _ _ _ h => h) (yieldsIf_load_mid (by rfl) _ _ rfl qbk 0 rfl [.int .i64 kq, .string tq, mvq, lvq, .int .i64 pq] _ (fun w' hw' => row_range (Below.row hw' HQ6.out)) Try.underlying28 rfl info28) hHeld ?_
    simp only [List.getElem_toArray, List.getElem_cons_succ, List.getElem_cons_zero, Act.put, List.setIfInBounds_toArray, List.set_cons_zero, List.set_cons_succ]
    refine wpAnyH_ready (rs := [22]) (by kernel_rfl) (by simp) ?_
    refine (AllReadyH.cons rfl (fun K hK => ?_) AllReadyH.nil)
    go_simp
    refine (F6.out _ hHeld).mono ?_
    rintro e w5 ⟨rfl, hb⟩
    have hS := Below.trans hHeld (hb.mono hHeld.size)
    refine hK.out _ _ hS (fun hHeld => ?_)
    clear hK K hb hS
    try simp only [List.getElem_toArray, List.getElem_cons_succ, List.getElem_cons_zero, Act.put, List.setIfInBounds_toArray, List.set_cons_zero, List.set_cons_succ]
    refine wpAnyH_take (i := 23) (v := Value.bool true) rfl (by kernel_rfl) (by kernel_rfl) (by kernel_rfl) (fun _ _ _ h => h) (Or.inl ⟨rfl, fun w' hw' => ?_⟩) hHeld ?_
    · go_simp
    simp only [List.getElem_toArray, List.getElem_cons_succ, List.getElem_cons_zero, Act.put, List.setIfInBounds_toArray, List.set_cons_zero, List.set_cons_succ]
    refine wpAnyH_take (i := 24) (v := Value.bool true) rfl (by kernel_rfl) (by kernel_rfl) (by kernel_rfl) (fun _ _ _ h => h) (Or.inl ⟨rfl, fun w' hw' => ?_⟩) hHeld ?_
    · go_simp
    simp only [List.getElem_toArray, List.getElem_cons_succ, List.getElem_cons_zero, Act.put, List.setIfInBounds_toArray, List.set_cons_zero, List.set_cons_succ]
    refine wpAnyH_take (i := 25) rfl (by kernel_rfl) (by kernel_rfl) (by kernel_rfl) (fun _ _ _ h => h) (yieldsIf_load_mid (by rfl) _ _ rfl abk 0 rfl [.int .i64 ka, .string ta, mva, lva, .int .i64 pa] _ (fun w' hw' => row_range (Below.row hw' HA6.out)) Try.underlying28 rfl info28) hHeld ?_
    simp only [List.getElem_toArray, List.getElem_cons_succ, List.getElem_cons_zero, Act.put, List.setIfInBounds_toArray, List.set_cons_zero, List.set_cons_succ]
    refine wpAnyH_take (i := 27) rfl (by kernel_rfl) (by kernel_rfl) (by kernel_rfl) (fun _ _ _ h => h) (yieldsIf_load_mid (by rfl) _ _ rfl abk 0 rfl [.int .i64 ka, .string ta, mva, lva, .int .i64 pa] _ (fun w' hw' => row_range (Below.row hw' HA6.out)) Try.underlying28 rfl info28) hHeld ?_
    simp only [List.getElem_toArray, List.getElem_cons_succ, List.getElem_cons_zero, Act.put, List.setIfInBounds_toArray, List.set_cons_zero, List.set_cons_succ]
    refine wpAnyH_ready (rs := [26]) (by kernel_rfl) (by simp) ?_
    refine (AllReadyH.cons rfl (fun K hK => ?_) AllReadyH.nil)
    go_simp
    refine (F7.out _ hHeld).mono ?_
    rintro e w5 ⟨rfl, hb⟩
    have hS := Below.trans hHeld (hb.mono hHeld.size)
    refine hK.out _ _ hS (fun hHeld => ?_)
    clear hK K hb hS
    try simp only [List.getElem_toArray, List.getElem_cons_succ, List.getElem_cons_zero, Act.put, List.setIfInBounds_toArray, List.set_cons_zero, List.set_cons_succ]
    refine wpAnyH_ready (rs := [28]) (by kernel_rfl) (by simp) ?_
    refine (AllReadyH.cons rfl (fun K hK => ?_) AllReadyH.nil)
    go_simp
    refine (F8.out _ hHeld).mono ?_
    rintro e w5 ⟨rfl, hb⟩
    have hS := Below.trans hHeld (hb.mono hHeld.size)
    refine hK.out _ _ hS (fun hHeld => ?_)
    clear hK K hb hS
    try simp only [List.getElem_toArray, List.getElem_cons_succ, List.getElem_cons_zero, Act.put, List.setIfInBounds_toArray, List.set_cons_zero, List.set_cons_succ]
    refine wpAnyH_take (i := 29) (v := Value.bool true) rfl (by kernel_rfl) (by kernel_rfl) (by kernel_rfl) (fun _ _ _ h => h) (Or.inl ⟨rfl, fun w' hw' => ?_⟩) hHeld ?_
    · go_simp
    simp only [List.getElem_toArray, List.getElem_cons_succ, List.getElem_cons_zero, Act.put, List.setIfInBounds_toArray, List.set_cons_zero, List.set_cons_succ]
    refine wpAnyH_take (i := 30) (v := Value.bool true) rfl (by kernel_rfl) (by kernel_rfl) (by kernel_rfl) (fun _ _ _ h => h) (Or.inl ⟨rfl, fun w' hw' => ?_⟩) hHeld ?_
    · go_simp
    simp only [List.getElem_toArray, List.getElem_cons_succ, List.getElem_cons_zero, Act.put, List.setIfInBounds_toArray, List.set_cons_zero, List.set_cons_succ]
    refine wpAnyH_take (i := 31) (v := Value.bool true) rfl (by kernel_rfl) (by kernel_rfl) (by kernel_rfl) (fun _ _ _ h => h) (Or.inl ⟨rfl, fun w' hw' => ?_⟩) hHeld ?_
    · go_simp
    simp only [List.getElem_toArray, List.getElem_cons_succ, List.getElem_cons_zero, Act.put, List.setIfInBounds_toArray, List.set_cons_zero, List.set_cons_succ]
    refine wpAnyH_take (i := 32) rfl (by kernel_rfl) (by kernel_rfl) (by kernel_rfl) (fun _ _ _ h => h) (yieldsIf_load_mid (by rfl) _ _ rfl abk 0 rfl [.int .i64 ka, .string ta, mva, lva, .int .i64 pa] _ (fun w' hw' => row_range (Below.row hw' HA6.out)) Try.underlying28 rfl info28) hHeld ?_
    simp only [List.getElem_toArray, List.getElem_cons_succ, List.getElem_cons_zero, Act.put, List.setIfInBounds_toArray, List.set_cons_zero, List.set_cons_succ]
    refine wpAnyH_take (i := 33) (v := Value.string raw) rfl (by kernel_rfl) (by kernel_rfl) (by kernel_rfl) (fun _ _ _ h => h) (Or.inl ⟨rfl, fun w' hw' => ?_⟩) hHeld ?_
    · go_simp
    simp only [List.getElem_toArray, List.getElem_cons_succ, List.getElem_cons_zero, Act.put, List.setIfInBounds_toArray, List.set_cons_zero, List.set_cons_succ]
    refine wpAnyH_take (i := 35) rfl (by kernel_rfl) (by kernel_rfl) (by kernel_rfl) (fun _ _ _ h => h) (yieldsIf_load_mid (by rfl) _ _ rfl abk 0 rfl [.int .i64 ka, .string ta, mva, lva, .int .i64 pa] _ (fun w' hw' => row_range (Below.row hw' HA6.out)) Try.underlying28 rfl info28) hHeld ?_
    simp only [List.getElem_toArray, List.getElem_cons_succ, List.getElem_cons_zero, Act.put, List.setIfInBounds_toArray, List.set_cons_zero, List.set_cons_succ]
    refine wpAnyH_take (i := 36) (v := Value.string raw) rfl (by kernel_rfl) (by kernel_rfl) (by kernel_rfl) (fun _ _ _ h => h) (Or.inl ⟨rfl, fun w' hw' => ?_⟩) hHeld ?_
    · go_simp
    simp only [List.getElem_toArray, List.getElem_cons_succ, List.getElem_cons_zero, Act.put, List.setIfInBounds_toArray, List.set_cons_zero, List.set_cons_succ]
    refine wpAnyH_ready (rs := [34]) (by kernel_rfl) (by simp) ?_
    refine (AllReadyH.cons rfl (fun K hK => ?_) AllReadyH.nil)
    go_simp
    refine (F9.out _ hHeld).mono ?_
    rintro e w5 ⟨rfl, hb⟩
    have hS := Below.trans hHeld (hb.mono hHeld.size)
    refine hK.out _ _ hS (fun hHeld => ?_)
    clear hK K hb hS
    try simp only [List.getElem_toArray, List.getElem_cons_succ, List.getElem_cons_zero, Act.put, List.setIfInBounds_toArray, List.set_cons_zero, List.set_cons_succ]
    refine wpAnyH_ready (rs := [37]) (by kernel_rfl) (by simp) ?_
    refine (AllReadyH.cons rfl (fun K hK => ?_) AllReadyH.nil)
    go_simp
    refine (F10.out _ hHeld).mono ?_
    rintro e w5 ⟨rfl, hb⟩
    have hS := Below.trans hHeld (hb.mono hHeld.size)
    refine hK.out _ _ hS (fun hHeld => ?_)
    clear hK K hb hS
    try simp only [List.getElem_toArray, List.getElem_cons_succ, List.getElem_cons_zero, Act.put, List.setIfInBounds_toArray, List.set_cons_zero, List.set_cons_succ]
    refine wpAnyH_take (i := 38) (v := Value.bool true) rfl (by kernel_rfl) (by kernel_rfl) (by kernel_rfl) (fun _ _ _ h => h) (Or.inl ⟨rfl, fun w' hw' => ?_⟩) hHeld ?_
    · go_simp
    simp only [List.getElem_toArray, List.getElem_cons_succ, List.getElem_cons_zero, Act.put, List.setIfInBounds_toArray, List.set_cons_zero, List.set_cons_succ]
    refine wpAnyH_take (i := 39) (v := Value.bool true) rfl (by kernel_rfl) (by kernel_rfl) (by kernel_rfl) (fun _ _ _ h => h) (Or.inl ⟨rfl, fun w' hw' => ?_⟩) hHeld ?_
    · go_simp
    simp only [List.getElem_toArray, List.getElem_cons_succ, List.getElem_cons_zero, Act.put, List.setIfInBounds_toArray, List.set_cons_zero, List.set_cons_succ]
    refine wpAnyH_take (i := 40) (v := Value.bool true) rfl (by kernel_rfl) (by kernel_rfl) (by kernel_rfl) (fun _ _ _ h => h) (Or.inl ⟨rfl, fun w' hw' => ?_⟩) hHeld ?_
    · go_simp
    simp only [List.getElem_toArray, List.getElem_cons_succ, List.getElem_cons_zero, Act.put, List.setIfInBounds_toArray, List.set_cons_zero, List.set_cons_succ]
    refine wpAnyH_take (i := 41) (v := Value.string raw) rfl (by kernel_rfl) (by kernel_rfl) (by kernel_rfl) (fun _ _ _ h => h) (Or.inl ⟨rfl, fun w' hw' => ?_⟩) hHeld ?_
    · go_simp
    simp only [List.getElem_toArray, List.getElem_cons_succ, List.getElem_cons_zero, Act.put, List.setIfInBounds_toArray, List.set_cons_zero, List.set_cons_succ]
    refine wpAnyH_take (i := 44) (v := Value.string raw) rfl (by kernel_rfl) (by kernel_rfl) (by kernel_rfl) (fun _ _ _ h => h) (Or.inl ⟨rfl, fun w' hw' => ?_⟩) hHeld ?_
    · go_simp
    simp only [List.getElem_toArray, List.getElem_cons_succ, List.getElem_cons_zero, Act.put, List.setIfInBounds_toArray, List.set_cons_zero, List.set_cons_succ]
    refine wpAnyH_ready (rs := [42]) (by kernel_rfl) (by simp) ?_
    refine (AllReadyH.cons rfl (fun K hK => ?_) AllReadyH.nil)
    go_simp
    refine hK.out _ _ (hHeld.alloc hHeld.size _) (fun hHeld => ?_)
    clear hK K
    try simp only [List.getElem_toArray, List.getElem_cons_succ, List.getElem_cons_zero, Act.put, List.setIfInBounds_toArray, List.set_cons_zero, List.set_cons_succ]
    have hnb : ∃ x, x = w5.heap.size := ⟨_, rfl⟩
    obtain ⟨nb, hnb⟩ := hnb
    rw [← hnb]
    clear hnb
    refine wpAnyH_take (i := 43) (v := Value.agg #[.int .i64 3, .string raw, .slice (some ⟨nb, 0, none⟩) 1 1, .slice none 0 0, .int .i64 0]) rfl (by kernel_rfl) (by kernel_rfl) (by kernel_rfl) (fun _ _ _ h => h) (Or.inl ⟨rfl, fun w' hw' => ?_⟩) hHeld ?_
    · go_simp
    simp only [List.getElem_toArray, List.getElem_cons_succ, List.getElem_cons_zero, Act.put, List.setIfInBounds_toArray, List.set_cons_zero, List.set_cons_succ]
    refine wpAnyH_ready (rs := [45]) (by kernel_rfl) (by simp) ?_
    refine (AllReadyH.cons rfl (fun K hK => ?_) AllReadyH.nil)
    go_simp
    refine (F11.out (some ⟨nb, 0, none⟩) _ hHeld).mono ?_
    rintro e w5 ⟨rfl, hb⟩
    have hS := Below.trans hHeld (hb.mono hHeld.size)
    refine hK.out _ _ hS (fun hHeld => ?_)
    clear hK K hb hS
    try simp only [List.getElem_toArray, List.getElem_cons_succ, List.getElem_cons_zero, Act.put, List.setIfInBounds_toArray, List.set_cons_zero, List.set_cons_succ]
    refine wpAnyH_take (i := 46) (v := Value.bool true) rfl (by kernel_rfl) (by kernel_rfl) (by kernel_rfl) (fun _ _ _ h => h) (Or.inl ⟨rfl, fun w' hw' => ?_⟩) hHeld ?_
    · go_simp
    simp only [List.getElem_toArray, List.getElem_cons_succ, List.getElem_cons_zero, Act.put, List.setIfInBounds_toArray, List.set_cons_zero, List.set_cons_succ]
    refine wpAnyH_take (i := 47) (v := Value.bool true) rfl (by kernel_rfl) (by kernel_rfl) (by kernel_rfl) (fun _ _ _ h => h) (Or.inl ⟨rfl, fun w' hw' => ?_⟩) hHeld ?_
    · go_simp
    simp only [List.getElem_toArray, List.getElem_cons_succ, List.getElem_cons_zero, Act.put, List.setIfInBounds_toArray, List.set_cons_zero, List.set_cons_succ]
    refine wpAnyH_take (i := 48) (v := Value.string raw) rfl (by kernel_rfl) (by kernel_rfl) (by kernel_rfl) (fun _ _ _ h => h) (Or.inl ⟨rfl, fun w' hw' => ?_⟩) hHeld ?_
    · go_simp
    simp only [List.getElem_toArray, List.getElem_cons_succ, List.getElem_cons_zero, Act.put, List.setIfInBounds_toArray, List.set_cons_zero, List.set_cons_succ]
    refine wpAnyH_take (i := 49) (v := Value.agg #[.int .i64 2, .string raw, .slice none 0 0, .slice none 0 0, .int .i64 0]) rfl (by kernel_rfl) (by kernel_rfl) (by kernel_rfl) (fun _ _ _ h => h) (Or.inl ⟨rfl, fun w' hw' => ?_⟩) hHeld ?_
    · go_simp
    simp only [List.getElem_toArray, List.getElem_cons_succ, List.getElem_cons_zero, Act.put, List.setIfInBounds_toArray, List.set_cons_zero, List.set_cons_succ]
    refine wpAnyH_take (i := 50) (v := Value.string raw) rfl (by kernel_rfl) (by kernel_rfl) (by kernel_rfl) (fun _ _ _ h => h) (Or.inl ⟨rfl, fun w' hw' => ?_⟩) hHeld ?_
    · go_simp
    simp only [List.getElem_toArray, List.getElem_cons_succ, List.getElem_cons_zero, Act.put, List.setIfInBounds_toArray, List.set_cons_zero, List.set_cons_succ]
    refine wpAnyH_ready (rs := [51]) (by kernel_rfl) (by simp) ?_
    refine (AllReadyH.cons rfl (fun K hK => ?_) AllReadyH.nil)
    go_simp
    refine (F12.out _ hHeld).mono ?_
    rintro e w5 ⟨rfl, hb⟩
    have hS := Below.trans hHeld (hb.mono hHeld.size)
    refine hK.out _ _ hS (fun hHeld => ?_)
    clear hK K hb hS
    try simp only [List.getElem_toArray, List.getElem_cons_succ, List.getElem_cons_zero, Act.put, List.setIfInBounds_toArray, List.set_cons_zero, List.set_cons_succ]
    refine wpAnyH_take (i := 52) (v := Value.bool true) rfl (by kernel_rfl) (by kernel_rfl) (by kernel_rfl) (fun _ _ _ h => h) (Or.inl ⟨rfl, fun w' hw' => ?_⟩) hHeld ?_
    · go_simp
    simp only [List.getElem_toArray, List.getElem_cons_succ, List.getElem_cons_zero, Act.put, List.setIfInBounds_toArray, List.set_cons_zero, List.set_cons_succ]
    refine wpAnyH_take (i := 53) (v := Value.bool true) rfl (by kernel_rfl) (by kernel_rfl) (by kernel_rfl) (fun _ _ _ h => h) (Or.inl ⟨rfl, fun w' hw' => ?_⟩) hHeld ?_
    · go_simp
    simp only [List.getElem_toArray, List.getElem_cons_succ, List.getElem_cons_zero, Act.put, List.setIfInBounds_toArray, List.set_cons_zero, List.set_cons_succ]
    refine wpAnyH_take (i := 54) (v := Value.bool true) rfl (by kernel_rfl) (by kernel_rfl) (by kernel_rfl) (fun _ _ _ h => h) (Or.inl ⟨rfl, fun w' hw' => ?_⟩) hHeld ?_
    · go_simp
    simp only [List.getElem_toArray, List.getElem_cons_succ, List.getElem_cons_zero, Act.put, List.setIfInBounds_toArray, List.set_cons_zero, List.set_cons_succ]
    refine wpAnyH_done (by kernel_rfl) ?_ _
    refine NoPanic.normal ?_
    have HS := Lib.hid hHeld
    clear hHeld
    go_wp2
    go_ret
    exact ⟨rfl, BW6.out.trans (HS.out.mono BW6.out.size)⟩
  replace REST := Lib.hid REST
  clear hK
  have FP : Hid (∀ w', Below W5.heap.size W5 w' → Calls Try.prog 15 #[.agg #[.int .i64 ka, .string ta, mva, lva, .int .i64 pa]] w' (RetMk daa.plain w')) := fun w' hb => plain_any 1000000 (by decide) daa (by omega) _ _ w' (Dt.At.keeps (Keeps.of_below hb) _ _ ATA5.out)
  have FQ : Hid (∀ w', Below W5.heap.size W5 w' → Calls Try.prog 16 #[.agg #[.int .i64 ka, .string ta, mva, lva, .int .i64 pa]] w' (RetMk daa.plain w')) := fun w' hb => refplain_any 1000000 (by decide) daa (by omega) _ _ w' (Dt.At.keeps (Keeps.of_below hb) _ _ ATA5.out)
  refine wp_region_noPanic ?_
  refine wp_region_held_drew (S := Below W5.heap.size W5) (by kernel_rfl) ((Below.refl _ _).drew) (fun hHeld => ?_)
  obtain ⟨v0, hv0⟩ : ∃ x, x = W5.drew := ⟨_, rfl⟩
  rw [← hv0] at hHeld ⊢
  clear hv0
  refine wpAnyH_take (i := 0) rfl (by kernel_rfl) (by kernel_rfl) (by kernel_rfl) (fun _ _ _ h => h) (yieldsIf_load_mid (by rfl) _ _ rfl abk 0 rfl [.int .i64 ka, .string ta, mva, lva, .int .i64 pa] _ (fun w' hw' => row_range (Below.row hw' HA5.out)) Try.underlying28 rfl info28) hHeld ?_
  simp only [List.getElem_toArray, List.getElem_cons_succ, List.getElem_cons_zero, Act.put, List.setIfInBounds_toArray, List.set_cons_zero, List.set_cons_succ]
  refine wpAnyH_take (i := 2) rfl (by kernel_rfl) (by kernel_rfl) (by kernel_rfl) (fun _ _ _ h => h) (yieldsIf_load_mid (by rfl) _ _ rfl abk 0 rfl [.int .i64 ka, .string ta, mva, lva, .int .i64 pa] _ (fun w' hw' => row_range (Below.row hw' HA5.out)) Try.underlying28 rfl info28) hHeld ?_
  simp only [List.getElem_toArray, List.getElem_cons_succ, List.getElem_cons_zero, Act.put, List.setIfInBounds_toArray, List.set_cons_zero, List.set_cons_succ]
  refine wpAnyH_ready (rs := [1, 4, 5]) (by kernel_rfl) (by simp) ?_
  refine (AllReadyH.cons rfl (fun K hK => ?_) (AllReadyH.cons rfl (fun K hK => ?_) (AllReadyH.cons rfl (fun K hK => ?_) AllReadyH.nil)))
  · skip
    go_simp
    refine (FP.out _ hHeld).mono ?_
    rintro e v1 ⟨c, rfl, hat, hb⟩
    obtain ⟨kp, tp, mvp, lvp, pp, rfl, oap, obp⟩ := At_form hat
    have hS := Below.trans hHeld (hb.mono hHeld.size)
    have hsz := hHeld.size
    have PA : Hid (Dt.At (fun x => W5.heap.size ≤ x) v1 daa.plain #[.int .i64 kp, .string tp, mvp, lvp, .int .i64 pp]) := Dt.At.mono (fun x (hx : v0.heap.size ≤ x) => by omega) _ _ hat
    refine hK.out _ _ hS (fun hHeld => ?_)
    clear hK K hat hb hS hsz
    try simp only [List.getElem_toArray, List.getElem_cons_succ, List.getElem_cons_zero, Act.put, List.setIfInBounds_toArray, List.set_cons_zero, List.set_cons_succ]
    refine wpAnyH_ready (rs := [3, 4, 5]) (by kernel_rfl) (by simp) ?_
    refine (AllReadyH.cons rfl (fun K hK => ?_) (AllReadyH.cons rfl (fun K hK => ?_) (AllReadyH.cons rfl (fun K hK => ?_) AllReadyH.nil)))
    · skip
      go_simp
      refine (FQ.out _ hHeld).mono ?_
      rintro e v2 ⟨c, rfl, hat, hb⟩
      obtain ⟨kq, tq, mvq, lvq, pq, rfl, oaq, obq⟩ := At_form hat
      have hS := Below.trans hHeld (hb.mono hHeld.size)
      have hsz := hHeld.size
      have PA' := Lib.hid (Dt.At.keeps (Keeps.of_below hb) _ _ PA.out)
      clear PA; have PA := PA'; clear PA'
      have QA : Hid (Dt.At (fun x => W5.heap.size ≤ x) v2 daa.plain #[.int .i64 kq, .string tq, mvq, lvq, .int .i64 pq]) := Dt.At.mono (fun x (hx : v1.heap.size ≤ x) => by omega) _ _ hat
      refine hK.out _ _ hS (fun hHeld => ?_)
      clear hK K hat hb hS hsz
      try simp only [List.getElem_toArray, List.getElem_cons_succ, List.getElem_cons_zero, Act.put, List.setIfInBounds_toArray, List.set_cons_zero, List.set_cons_succ]
      refine wpAnyH_ready (rs := [4, 5]) (by kernel_rfl) (by simp) ?_
      refine (AllReadyH.cons rfl (fun K hK => ?_) (AllReadyH.cons rfl (fun K hK => ?_) AllReadyH.nil))
      · skip
        go_simp
        refine hK.out _ _ (hHeld.alloc hHeld.size _) (fun hHeld2 => ?_)
        clear hK K
        try simp only [List.getElem_toArray, List.getElem_cons_succ, List.getElem_cons_zero, Act.put, List.setIfInBounds_toArray, List.set_cons_zero, List.set_cons_succ]
        have hb := (Below.refl v2.heap.size v2).alloc (Nat.le_refl _) (.cells #[.int .i64 0, .string ⟨#[]⟩, .slice none 0 0, .slice none 0 0, .int .i64 0] 28)
        have hn := alloc_at v2 (.cells #[.int .i64 0, .string ⟨#[]⟩, .slice none 0 0, .slice none 0 0, .int .i64 0] 28)
        change Below W5.heap.size W5 (v2.alloc (.cells #[.int .i64 0, .string ⟨#[]⟩, .slice none 0 0, .slice none 0 0, .int .i64 0] 28)) at hHeld2
        have PAb := Dt.At.bound _ _ PA.out
        have QAb := Dt.At.bound _ _ QA.out
        have hge := hHeld.size
        obtain ⟨pbk, hblk⟩ : ∃ x, x = v2.heap.size := ⟨_, rfl⟩
        have PA' : Hid (Dt.At (fun x => W5.heap.size ≤ x ∧ x ≠ pbk) (v2.alloc (.cells #[.int .i64 0, .string ⟨#[]⟩, .slice none 0 0, .slice none 0 0, .int .i64 0] 28)) daa.plain #[.int .i64 kp, .string tp, mvp, lvp, .int .i64 pp]) := Dt.At.mono (fun x hx => ⟨hx.1, (by have := hx.2; omega)⟩) _ _ (Dt.At.keeps (Keeps.of_below hb) _ _ PAb)
        have QA' : Hid (Dt.At (fun x => W5.heap.size ≤ x ∧ x ≠ pbk) (v2.alloc (.cells #[.int .i64 0, .string ⟨#[]⟩, .slice none 0 0, .slice none 0 0, .int .i64 0] 28)) daa.plain #[.int .i64 kq, .string tq, mvq, lvq, .int .i64 pq]) := Dt.At.mono (fun x hx => ⟨hx.1, (by have := hx.2; omega)⟩) _ _ (Dt.At.keeps (Keeps.of_below hb) _ _ QAb)
        clear PA; have PA := PA'; clear PA'
        clear QA; have QA := QA'; clear QA'
        skip
        rw [← hblk] at hn ⊢
        have hge2 : W5.heap.size ≤ pbk := by omega
        clear hb hge hblk PAb QAb
        generalize v2.alloc (.cells #[.int .i64 0, .string ⟨#[]⟩, .slice none 0 0, .slice none 0 0, .int .i64 0] 28) = v3 at hn hHeld2 PA QA ⊢
        have HPB : Hid (v3.heap[pbk]? = some (.cells Z5 28 (0, 0))) := hn
        have GEpbk := Lib.hid hge2
        clear hn hge2 hHeld
        have hHeld := hHeld2
        clear hHeld2
        refine wpAnyH_ready (rs := [5]) (by kernel_rfl) (by simp) ?_
        refine (AllReadyH.cons rfl (fun K hK => ?_) AllReadyH.nil)
        go_simp
        refine hK.out _ _ (hHeld.alloc hHeld.size _) (fun hHeld2 => ?_)
        clear hK K
        try simp only [List.getElem_toArray, List.getElem_cons_succ, List.getElem_cons_zero, Act.put, List.setIfInBounds_toArray, List.set_cons_zero, List.set_cons_succ]
        have hb := (Below.refl v3.heap.size v3).alloc (Nat.le_refl _) (.cells #[.int .i64 0, .string ⟨#[]⟩, .slice none 0 0, .slice none 0 0, .int .i64 0] 28)
        have hn := alloc_at v3 (.cells #[.int .i64 0, .string ⟨#[]⟩, .slice none 0 0, .slice none 0 0, .int .i64 0] 28)
        change Below W5.heap.size W5 (v3.alloc (.cells #[.int .i64 0, .string ⟨#[]⟩, .slice none 0 0, .slice none 0 0, .int .i64 0] 28)) at hHeld2
        have PAb := Dt.At.bound _ _ PA.out
        have QAb := Dt.At.bound _ _ QA.out
        have hne : v3.heap.size ≠ pbk := by have := (Array.getElem?_eq_some_iff.1 HPB.out).1; omega
        have hge := hHeld.size
        obtain ⟨qbk, hblk⟩ : ∃ x, x = v3.heap.size := ⟨_, rfl⟩
        have PA' : Hid (Dt.At (fun x => W5.heap.size ≤ x ∧ x ≠ pbk ∧ x ≠ qbk) (v3.alloc (.cells #[.int .i64 0, .string ⟨#[]⟩, .slice none 0 0, .slice none 0 0, .int .i64 0] 28)) daa.plain #[.int .i64 kp, .string tp, mvp, lvp, .int .i64 pp]) := Dt.At.mono (fun x hx => ⟨hx.1.1, hx.1.2, (by have := hx.2; omega)⟩) _ _ (Dt.At.keeps (Keeps.of_below hb) _ _ PAb)
        have QA' : Hid (Dt.At (fun x => W5.heap.size ≤ x ∧ x ≠ pbk ∧ x ≠ qbk) (v3.alloc (.cells #[.int .i64 0, .string ⟨#[]⟩, .slice none 0 0, .slice none 0 0, .int .i64 0] 28)) daa.plain #[.int .i64 kq, .string tq, mvq, lvq, .int .i64 pq]) := Dt.At.mono (fun x hx => ⟨hx.1.1, hx.1.2, (by have := hx.2; omega)⟩) _ _ (Dt.At.keeps (Keeps.of_below hb) _ _ QAb)
        have HPB' := Lib.hid (Below.row hb HPB.out)
        clear PA; have PA := PA'; clear PA'
        clear QA; have QA := QA'; clear QA'
        clear HPB; have HPB := HPB'; clear HPB'
        skip
        rw [← hblk] at hn ⊢
        rw [← hblk] at hne
        have hge2 : W5.heap.size ≤ qbk := by omega
        clear hb hge hblk PAb QAb
        generalize v3.alloc (.cells #[.int .i64 0, .string ⟨#[]⟩, .slice none 0 0, .slice none 0 0, .int .i64 0] 28) = v4 at hn hHeld2 PA QA HPB ⊢
        have HQB : Hid (v4.heap[qbk]? = some (.cells Z5 28 (0, 0))) := hn
        have GEqbk := Lib.hid hge2
        have NE := Lib.hid hne
        clear hne
        clear hn hge2 hHeld
        have hHeld := hHeld2
        clear hHeld2
        refine wpAnyH_ready (rs := [6]) (by kernel_rfl) (by simp) ?_
        refine (AllReadyH.cons rfl (fun K hK => ?_) AllReadyH.nil)
        rw [if_pos (by rfl)]
        have z1 : (#[.int .i64 kp, .string tp, mvp, lvp, .int .i64 pp] : Array Value).all (·.oneCell') = true := by simp [Value.oneCell'] at oap obp ⊢; exact ⟨oap, obp⟩
        refine wp_store_row 28 _ _ rfl pbk #[.int .i64 kp, .string tp, mvp, lvp, .int .i64 pp] rfl rfl 28 Z5 HPB.out info28 rfl z1 ?_
        have hS : Below W5.heap.size W5 (v4.setRow pbk #[.int .i64 kp, .string tp, mvp, lvp, .int .i64 pp]) := below_setRow hHeld _ _ GEpbk.out
        have HPB' := Lib.hid (setRow_heap v4 pbk _ #[.int .i64 kp, .string tp, mvp, lvp, .int .i64 pp] 28 _ HPB.out)
        have PA' := Lib.hid (Dt.At.keeps (w' := v4.setRow pbk #[.int .i64 kp, .string tp, mvp, lvp, .int .i64 pp]) (fun x c T fz hx hg _ => ⟨fz, by rw [setRow_other v4 _ x _ hx.2.1]; exact hg⟩) _ _ PA.out)
        have QA' := Lib.hid (Dt.At.keeps (w' := v4.setRow pbk #[.int .i64 kp, .string tp, mvp, lvp, .int .i64 pp]) (fun x c T fz hx hg _ => ⟨fz, by rw [setRow_other v4 _ x _ hx.2.1]; exact hg⟩) _ _ QA.out)
        have HQB' := Lib.hid (show (v4.setRow pbk #[.int .i64 kp, .string tp, mvp, lvp, .int .i64 pp]).heap[qbk]? = _ from (setRow_other v4 pbk qbk _ (fun e => NE.out (by omega))).trans HQB.out)
        refine hK.out _ _ hS (fun hHeld2 => ?_)
        clear hK K hS z1
        try simp only [List.getElem_toArray, List.getElem_cons_succ, List.getElem_cons_zero, Act.put, List.setIfInBounds_toArray, List.set_cons_zero, List.set_cons_succ]
        clear PA; have PA := PA'; clear PA'
        clear QA; have QA := QA'; clear QA'
        clear HPB; have HPB := HPB'; clear HPB'
        clear HQB; have HQB := HQB'; clear HQB'
        generalize v4.setRow pbk #[.int .i64 kp, .string tp, mvp, lvp, .int .i64 pp] = v5 at hHeld2 PA QA HPB HQB ⊢
        clear hHeld
        have hHeld := hHeld2
        clear hHeld2
        refine wpAnyH_ready (rs := [7]) (by kernel_rfl) (by simp) ?_
        refine (AllReadyH.cons rfl (fun K hK => ?_) AllReadyH.nil)
        rw [if_pos (by rfl)]
        have z1 : (#[.int .i64 kq, .string tq, mvq, lvq, .int .i64 pq] : Array Value).all (·.oneCell') = true := by simp [Value.oneCell'] at oaq obq ⊢; exact ⟨oaq, obq⟩
        refine wp_store_row 28 _ _ rfl qbk #[.int .i64 kq, .string tq, mvq, lvq, .int .i64 pq] rfl rfl 28 Z5 HQB.out info28 rfl z1 ?_
        have hS : Below W5.heap.size W5 (v5.setRow qbk #[.int .i64 kq, .string tq, mvq, lvq, .int .i64 pq]) := below_setRow hHeld _ _ GEqbk.out
        have HQB' := Lib.hid (setRow_heap v5 qbk _ #[.int .i64 kq, .string tq, mvq, lvq, .int .i64 pq] 28 _ HQB.out)
        have PA' := Lib.hid (Dt.At.keeps (w' := v5.setRow qbk #[.int .i64 kq, .string tq, mvq, lvq, .int .i64 pq]) (fun x c T fz hx hg _ => ⟨fz, by rw [setRow_other v5 _ x _ hx.2.2]; exact hg⟩) _ _ PA.out)
        have QA' := Lib.hid (Dt.At.keeps (w' := v5.setRow qbk #[.int .i64 kq, .string tq, mvq, lvq, .int .i64 pq]) (fun x c T fz hx hg _ => ⟨fz, by rw [setRow_other v5 _ x _ hx.2.2]; exact hg⟩) _ _ QA.out)
        have HPB' := Lib.hid (show (v5.setRow qbk #[.int .i64 kq, .string tq, mvq, lvq, .int .i64 pq]).heap[pbk]? = _ from (setRow_other v5 qbk pbk _ (fun e => NE.out (by omega))).trans HPB.out)
        refine hK.out _ _ hS (fun hHeld2 => ?_)
        clear hK K hS z1
        try simp only [List.getElem_toArray, List.getElem_cons_succ, List.getElem_cons_zero, Act.put, List.setIfInBounds_toArray, List.set_cons_zero, List.set_cons_succ]
        clear PA; have PA := PA'; clear PA'
        clear QA; have QA := QA'; clear QA'
        clear HPB; have HPB := HPB'; clear HPB'
        clear HQB; have HQB := HQB'; clear HQB'
        generalize v5.setRow qbk #[.int .i64 kq, .string tq, mvq, lvq, .int .i64 pq] = v6 at hHeld2 PA QA HPB HQB ⊢
        clear hHeld
        have hHeld := hHeld2
        clear hHeld2
        refine wpAnyH_done (by kernel_rfl) ?_ _
        refine NoPanic.normal ?_
        have hX := hHeld
        clear hHeld
        exact REST.out _ _ _ _ _ _ _ _ _ _ _ _ _ _ _ _ _ _ _ _ _ _ _ _ _ _ _ _ _ _ _ _ _ _ _ _ _ _ _ _ _ _ _ _ _ _ _ _ _ _ _ _ _ _ _ _ _ _ _ _ _ _ _ _ _ _ _ _ _ _ _ _ _ _ _ _ _ _ _ _ _ _ _ _ _ _ _ _ _ _ pbk qbk _ _ _ _ _ _ _ _ _ _ HPB.out HQB.out (Dt.At.mono (fun _ _ => trivial) _ _ PA.out) (Dt.At.mono (fun _ _ => trivial) _ _ QA.out) hX
      · skip
        go_simp
        refine hK.out _ _ (hHeld.alloc hHeld.size _) (fun hHeld2 => ?_)
        clear hK K
        try simp only [List.getElem_toArray, List.getElem_cons_succ, List.getElem_cons_zero, Act.put, List.setIfInBounds_toArray, List.set_cons_zero, List.set_cons_succ]
        have hb := (Below.refl v2.heap.size v2).alloc (Nat.le_refl _) (.cells #[.int .i64 0, .string ⟨#[]⟩, .slice none 0 0, .slice none 0 0, .int .i64 0] 28)
        have hn := alloc_at v2 (.cells #[.int .i64 0, .string ⟨#[]⟩, .slice none 0 0, .slice none 0 0, .int .i64 0] 28)
        change Below W5.heap.size W5 (v2.alloc (.cells #[.int .i64 0, .string ⟨#[]⟩, .slice none 0 0, .slice none 0 0, .int .i64 0] 28)) at hHeld2
        have PAb := Dt.At.bound _ _ PA.out
        have QAb := Dt.At.bound _ _ QA.out
        have hge := hHeld.size
        obtain ⟨qbk, hblk⟩ : ∃ x, x = v2.heap.size := ⟨_, rfl⟩
        have PA' : Hid (Dt.At (fun x => W5.heap.size ≤ x ∧ x ≠ qbk) (v2.alloc (.cells #[.int .i64 0, .string ⟨#[]⟩, .slice none 0 0, .slice none 0 0, .int .i64 0] 28)) daa.plain #[.int .i64 kp, .string tp, mvp, lvp, .int .i64 pp]) := Dt.At.mono (fun x hx => ⟨hx.1, (by have := hx.2; omega)⟩) _ _ (Dt.At.keeps (Keeps.of_below hb) _ _ PAb)
        have QA' : Hid (Dt.At (fun x => W5.heap.size ≤ x ∧ x ≠ qbk) (v2.alloc (.cells #[.int .i64 0, .string ⟨#[]⟩, .slice none 0 0, .slice none 0 0, .int .i64 0] 28)) daa.plain #[.int .i64 kq, .string tq, mvq, lvq, .int .i64 pq]) := Dt.At.mono (fun x hx => ⟨hx.1, (by have := hx.2; omega)⟩) _ _ (Dt.At.keeps (Keeps.of_below hb) _ _ QAb)
        clear PA; have PA := PA'; clear PA'
        clear QA; have QA := QA'; clear QA'
        skip
        rw [← hblk] at hn ⊢
        have hge2 : W5.heap.size ≤ qbk := by omega
        clear hb hge hblk PAb QAb
        generalize v2.alloc (.cells #[.int .i64 0, .string ⟨#[]⟩, .slice none 0 0, .slice none 0 0, .int .i64 0] 28) = v3 at hn hHeld2 PA QA ⊢
        have HQB : Hid (v3.heap[qbk]? = some (.cells Z5 28 (0, 0))) := hn
        have GEqbk := Lib.hid hge2
        clear hn hge2 hHeld
        have hHeld := hHeld2
        clear hHeld2
        refine wpAnyH_ready (rs := [4]) (by kernel_rfl) (by simp) ?_
        refine (AllReadyH.cons rfl (fun K hK => ?_) AllReadyH.nil)
        go_simp
        refine hK.out _ _ (hHeld.alloc hHeld.size _) (fun hHeld2 => ?_)
        clear hK K
        try simp only [List.getElem_toArray, List.getElem_cons_succ, List.getElem_cons_zero, Act.put, List.setIfInBounds_toArray, List.set_cons_zero, List.set_cons_succ]
        have hb := (Below.refl v3.heap.size v3).alloc (Nat.le_refl _) (.cells #[.int .i64 0, .string ⟨#[]⟩, .slice none 0 0, .slice none 0 0, .int .i64 0] 28)
        have hn := alloc_at v3 (.cells #[.int .i64 0, .string ⟨#[]⟩, .slice none 0 0, .slice none 0 0, .int .i64 0] 28)
        change Below W5.heap.size W5 (v3.alloc (.cells #[.int .i64 0, .string ⟨#[]⟩, .slice none 0 0, .slice none 0 0, .int .i64 0] 28)) at hHeld2
        have PAb := Dt.At.bound _ _ PA.out
        have QAb := Dt.At.bound _ _ QA.out
        have hne : v3.heap.size ≠ qbk := by have := (Array.getElem?_eq_some_iff.1 HQB.out).1; omega
        have hge := hHeld.size
        obtain ⟨pbk, hblk⟩ : ∃ x, x = v3.heap.size := ⟨_, rfl⟩
        have PA' : Hid (Dt.At (fun x => W5.heap.size ≤ x ∧ x ≠ pbk ∧ x ≠ qbk) (v3.alloc (.cells #[.int .i64 0, .string ⟨#[]⟩, .slice none 0 0, .slice none 0 0, .int .i64 0] 28)) daa.plain #[.int .i64 kp, .string tp, mvp, lvp, .int .i64 pp]) := Dt.At.mono (fun x hx => ⟨hx.1.1, (by have := hx.2; omega), hx.1.2⟩) _ _ (Dt.At.keeps (Keeps.of_below hb) _ _ PAb)
        have QA' : Hid (Dt.At (fun x => W5.heap.size ≤ x ∧ x ≠ pbk ∧ x ≠ qbk) (v3.alloc (.cells #[.int .i64 0, .string ⟨#[]⟩, .slice none 0 0, .slice none 0 0, .int .i64 0] 28)) daa.plain #[.int .i64 kq, .string tq, mvq, lvq, .int .i64 pq]) := Dt.At.mono (fun x hx => ⟨hx.1.1, (by have := hx.2; omega), hx.1.2⟩) _ _ (Dt.At.keeps (Keeps.of_below hb) _ _ QAb)
        have HQB' := Lib.hid (Below.row hb HQB.out)
        clear PA; have PA := PA'; clear PA'
        clear QA; have QA := QA'; clear QA'
        clear HQB; have HQB := HQB'; clear HQB'
        skip
        rw [← hblk] at hn ⊢
        rw [← hblk] at hne
        have hge2 : W5.heap.size ≤ pbk := by omega
        clear hb hge hblk PAb QAb
        generalize v3.alloc (.cells #[.int .i64 0, .string ⟨#[]⟩, .slice none 0 0, .slice none 0 0, .int .i64 0] 28) = v4 at hn hHeld2 PA QA HQB ⊢
        have HPB : Hid (v4.heap[pbk]? = some (.cells Z5 28 (0, 0))) := hn
        have GEpbk := Lib.hid hge2
        have NE := Lib.hid hne
        clear hne
        clear hn hge2 hHeld
        have hHeld := hHeld2
        clear hHeld2
        refine wpAnyH_ready (rs := [6]) (by kernel_rfl) (by simp) ?_
        refine (AllReadyH.cons rfl (fun K hK => ?_) AllReadyH.nil)
        rw [if_pos (by rfl)]
        have z1 : (#[.int .i64 kp, .string tp, mvp, lvp, .int .i64 pp] : Array Value).all (·.oneCell') = true := by simp [Value.oneCell'] at oap obp ⊢; exact ⟨oap, obp⟩
        refine wp_store_row 28 _ _ rfl pbk #[.int .i64 kp, .string tp, mvp, lvp, .int .i64 pp] rfl rfl 28 Z5 HPB.out info28 rfl z1 ?_
        have hS : Below W5.heap.size W5 (v4.setRow pbk #[.int .i64 kp, .string tp, mvp, lvp, .int .i64 pp]) := below_setRow hHeld _ _ GEpbk.out
        have HPB' := Lib.hid (setRow_heap v4 pbk _ #[.int .i64 kp, .string tp, mvp, lvp, .int .i64 pp] 28 _ HPB.out)
        have PA' := Lib.hid (Dt.At.keeps (w' := v4.setRow pbk #[.int .i64 kp, .string tp, mvp, lvp, .int .i64 pp]) (fun x c T fz hx hg _ => ⟨fz, by rw [setRow_other v4 _ x _ hx.2.1]; exact hg⟩) _ _ PA.out)
        have QA' := Lib.hid (Dt.At.keeps (w' := v4.setRow pbk #[.int .i64 kp, .string tp, mvp, lvp, .int .i64 pp]) (fun x c T fz hx hg _ => ⟨fz, by rw [setRow_other v4 _ x _ hx.2.1]; exact hg⟩) _ _ QA.out)
        have HQB' := Lib.hid (show (v4.setRow pbk #[.int .i64 kp, .string tp, mvp, lvp, .int .i64 pp]).heap[qbk]? = _ from (setRow_other v4 pbk qbk _ (fun e => NE.out (by omega))).trans HQB.out)
        refine hK.out _ _ hS (fun hHeld2 => ?_)
        clear hK K hS z1
        try simp only [List.getElem_toArray, List.getElem_cons_succ, List.getElem_cons_zero, Act.put, List.setIfInBounds_toArray, List.set_cons_zero, List.set_cons_succ]
        clear PA; have PA := PA'; clear PA'
        clear QA; have QA := QA'; clear QA'
        clear HPB; have HPB := HPB'; clear HPB'
        clear HQB; have HQB := HQB'; clear HQB'
        generalize v4.setRow pbk #[.int .i64 kp, .string tp, mvp, lvp, .int .i64 pp] = v5 at hHeld2 PA QA HPB HQB ⊢
        clear hHeld
        have hHeld := hHeld2
        clear hHeld2
        refine wpAnyH_ready (rs := [7]) (by kernel_rfl) (by simp) ?_
        refine (AllReadyH.cons rfl (fun K hK => ?_) AllReadyH.nil)
        rw [if_pos (by rfl)]
        have z1 : (#[.int .i64 kq, .string tq, mvq, lvq, .int .i64 pq] : Array Value).all (·.oneCell') = true := by simp [Value.oneCell'] at oaq obq ⊢; exact ⟨oaq, obq⟩
        refine wp_store_row 28 _ _ rfl qbk #[.int .i64 kq, .string tq, mvq, lvq, .int .i64 pq] rfl rfl 28 Z5 HQB.out info28 rfl z1 ?_
        have hS : Below W5.heap.size W5 (v5.setRow qbk #[.int .i64 kq, .string tq, mvq, lvq, .int .i64 pq]) := below_setRow hHeld _ _ GEqbk.out
        have HQB' := Lib.hid (setRow_heap v5 qbk _ #[.int .i64 kq, .string tq, mvq, lvq, .int .i64 pq] 28 _ HQB.out)
        have PA' := Lib.hid (Dt.At.keeps (w' := v5.setRow qbk #[.int .i64 kq, .string tq, mvq, lvq, .int .i64 pq]) (fun x c T fz hx hg _ => ⟨fz, by rw [setRow_other v5 _ x _ hx.2.2]; exact hg⟩) _ _ PA.out)
        have QA' := Lib.hid (Dt.At.keeps (w' := v5.setRow qbk #[.int .i64 kq, .string tq, mvq, lvq, .int .i64 pq]) (fun x c T fz hx hg _ => ⟨fz, by rw [setRow_other v5 _ x _ hx.2.2]; exact hg⟩) _ _ QA.out)
        have HPB' := Lib.hid (show (v5.setRow qbk #[.int .i64 kq, .string tq, mvq, lvq, .int .i64 pq]).heap[pbk]? = _ from (setRow_other v5 qbk pbk _ (fun e => NE.out (by omega))).trans HPB.out)
        refine hK.out _ _ hS (fun hHeld2 => ?_)
        clear hK K hS z1
        try simp only [List.getElem_toArray, List.getElem_cons_succ, List.getElem_cons_zero, Act.put, List.setIfInBounds_toArray, List.set_cons_zero, List.set_cons_succ]
        clear PA; have PA := PA'; clear PA'
        clear QA; have QA := QA'; clear QA'
        clear HPB; have HPB := HPB'; clear HPB'
        clear HQB; have HQB := HQB'; clear HQB'
        generalize v5.setRow qbk #[.int .i64 kq, .string tq, mvq, lvq, .int .i64 pq] = v6 at hHeld2 PA QA HPB HQB ⊢
        clear hHeld
        have hHeld := hHeld2
        clear hHeld2
        refine wpAnyH_done (by kernel_rfl) ?_ _
        refine NoPanic.normal ?_
        have hX := hHeld
        clear hHeld
        exact REST.out _ _ _ _ _ _ _ _ _ _ _ _ _ _ _ _ _ _ _ _ _ _ _ _ _ _ _ _ _ _ _ _ _ _ _ _ _ _ _ _ _ _ _ _ _ _ _ _ _ _ _ _ _ _ _ _ _ _ _ _ _ _ _ _ _ _ _ _ _ _ _ _ _ _ _ _ _ _ _ _ _ _ _ _ _ _ _ _ _ _ pbk qbk _ _ _ _ _ _ _ _ _ _ HPB.out HQB.out (Dt.At.mono (fun _ _ => trivial) _ _ PA.out) (Dt.At.mono (fun _ _ => trivial) _ _ QA.out) hX
    · skip
      go_simp
      refine hK.out _ _ (hHeld.alloc hHeld.size _) (fun hHeld2 => ?_)
      clear hK K
      try simp only [List.getElem_toArray, List.getElem_cons_succ, List.getElem_cons_zero, Act.put, List.setIfInBounds_toArray, List.set_cons_zero, List.set_cons_succ]
      have hb := (Below.refl v1.heap.size v1).alloc (Nat.le_refl _) (.cells #[.int .i64 0, .string ⟨#[]⟩, .slice none 0 0, .slice none 0 0, .int .i64 0] 28)
      have hn := alloc_at v1 (.cells #[.int .i64 0, .string ⟨#[]⟩, .slice none 0 0, .slice none 0 0, .int .i64 0] 28)
      change Below W5.heap.size W5 (v1.alloc (.cells #[.int .i64 0, .string ⟨#[]⟩, .slice none 0 0, .slice none 0 0, .int .i64 0] 28)) at hHeld2
      have PAb := Dt.At.bound _ _ PA.out
      have hge := hHeld.size
      obtain ⟨pbk, hblk⟩ : ∃ x, x = v1.heap.size := ⟨_, rfl⟩
      have PA' : Hid (Dt.At (fun x => W5.heap.size ≤ x ∧ x ≠ pbk) (v1.alloc (.cells #[.int .i64 0, .string ⟨#[]⟩, .slice none 0 0, .slice none 0 0, .int .i64 0] 28)) daa.plain #[.int .i64 kp, .string tp, mvp, lvp, .int .i64 pp]) := Dt.At.mono (fun x hx => ⟨hx.1, (by have := hx.2; omega)⟩) _ _ (Dt.At.keeps (Keeps.of_below hb) _ _ PAb)
      clear PA; have PA := PA'; clear PA'
      skip
      rw [← hblk] at hn ⊢
      have hge2 : W5.heap.size ≤ pbk := by omega
      clear hb hge hblk PAb
      generalize v1.alloc (.cells #[.int .i64 0, .string ⟨#[]⟩, .slice none 0 0, .slice none 0 0, .int .i64 0] 28) = v2 at hn hHeld2 PA ⊢
      have HPB : Hid (v2.heap[pbk]? = some (.cells Z5 28 (0, 0))) := hn
      have GEpbk := Lib.hid hge2
      clear hn hge2 hHeld
      have hHeld := hHeld2
      clear hHeld2
      refine wpAnyH_ready (rs := [3, 5]) (by kernel_rfl) (by simp) ?_
      refine (AllReadyH.cons rfl (fun K hK => ?_) (AllReadyH.cons rfl (fun K hK => ?_) AllReadyH.nil))
      · skip
        go_simp
        refine (FQ.out _ hHeld).mono ?_
        rintro e v3 ⟨c, rfl, hat, hb⟩
        obtain ⟨kq, tq, mvq, lvq, pq, rfl, oaq, obq⟩ := At_form hat
        have hS := Below.trans hHeld (hb.mono hHeld.size)
        have hsz := hHeld.size
        have hlp := (Array.getElem?_eq_some_iff.1 HPB.out).1
        have PA' := Lib.hid (Dt.At.keeps (Keeps.of_below hb) _ _ PA.out)
        have HPB' := Lib.hid (Below.row hb HPB.out)
        clear PA; have PA := PA'; clear PA'
        clear HPB; have HPB := HPB'; clear HPB'
        have QA : Hid (Dt.At (fun x => W5.heap.size ≤ x ∧ x ≠ pbk) v3 daa.plain #[.int .i64 kq, .string tq, mvq, lvq, .int .i64 pq]) := Dt.At.mono (fun x (hx : v2.heap.size ≤ x) => ⟨by omega, by omega⟩) _ _ hat
        refine hK.out _ _ hS (fun hHeld => ?_)
        clear hK K hat hb hS hsz hlp
        try simp only [List.getElem_toArray, List.getElem_cons_succ, List.getElem_cons_zero, Act.put, List.setIfInBounds_toArray, List.set_cons_zero, List.set_cons_succ]
        refine wpAnyH_ready (rs := [5]) (by kernel_rfl) (by simp) ?_
        refine (AllReadyH.cons rfl (fun K hK => ?_) AllReadyH.nil)
        go_simp
        refine hK.out _ _ (hHeld.alloc hHeld.size _) (fun hHeld2 => ?_)
        clear hK K
        try simp only [List.getElem_toArray, List.getElem_cons_succ, List.getElem_cons_zero, Act.put, List.setIfInBounds_toArray, List.set_cons_zero, List.set_cons_succ]
        have hb := (Below.refl v3.heap.size v3).alloc (Nat.le_refl _) (.cells #[.int .i64 0, .string ⟨#[]⟩, .slice none 0 0, .slice none 0 0, .int .i64 0] 28)
        have hn := alloc_at v3 (.cells #[.int .i64 0, .string ⟨#[]⟩, .slice none 0 0, .slice none 0 0, .int .i64 0] 28)
        change Below W5.heap.size W5 (v3.alloc (.cells #[.int .i64 0, .string ⟨#[]⟩, .slice none 0 0, .slice none 0 0, .int .i64 0] 28)) at hHeld2
        have PAb := Dt.At.bound _ _ PA.out
        have QAb := Dt.At.bound _ _ QA.out
        have hne : v3.heap.size ≠ pbk := by have := (Array.getElem?_eq_some_iff.1 HPB.out).1; omega
        have hge := hHeld.size
        obtain ⟨qbk, hblk⟩ : ∃ x, x = v3.heap.size := ⟨_, rfl⟩
        have PA' : Hid (Dt.At (fun x => W5.heap.size ≤ x ∧ x ≠ pbk ∧ x ≠ qbk) (v3.alloc (.cells #[.int .i64 0, .string ⟨#[]⟩, .slice none 0 0, .slice none 0 0, .int .i64 0] 28)) daa.plain #[.int .i64 kp, .string tp, mvp, lvp, .int .i64 pp]) := Dt.At.mono (fun x hx => ⟨hx.1.1, hx.1.2, (by have := hx.2; omega)⟩) _ _ (Dt.At.keeps (Keeps.of_below hb) _ _ PAb)
        have QA' : Hid (Dt.At (fun x => W5.heap.size ≤ x ∧ x ≠ pbk ∧ x ≠ qbk) (v3.alloc (.cells #[.int .i64 0, .string ⟨#[]⟩, .slice none 0 0, .slice none 0 0, .int .i64 0] 28)) daa.plain #[.int .i64 kq, .string tq, mvq, lvq, .int .i64 pq]) := Dt.At.mono (fun x hx => ⟨hx.1.1, hx.1.2, (by have := hx.2; omega)⟩) _ _ (Dt.At.keeps (Keeps.of_below hb) _ _ QAb)
        have HPB' := Lib.hid (Below.row hb HPB.out)
        clear PA; have PA := PA'; clear PA'
        clear QA; have QA := QA'; clear QA'
        clear HPB; have HPB := HPB'; clear HPB'
        skip
        rw [← hblk] at hn ⊢
        rw [← hblk] at hne
        have hge2 : W5.heap.size ≤ qbk := by omega
        clear hb hge hblk PAb QAb
        generalize v3.alloc (.cells #[.int .i64 0, .string ⟨#[]⟩, .slice none 0 0, .slice none 0 0, .int .i64 0] 28) = v4 at hn hHeld2 PA QA HPB ⊢
        have HQB : Hid (v4.heap[qbk]? = some (.cells Z5 28 (0, 0))) := hn
        have GEqbk := Lib.hid hge2
        have NE := Lib.hid hne
        clear hne
        clear hn hge2 hHeld
        have hHeld := hHeld2
        clear hHeld2
        refine wpAnyH_ready (rs := [6]) (by kernel_rfl) (by simp) ?_
        refine (AllReadyH.cons rfl (fun K hK => ?_) AllReadyH.nil)
        rw [if_pos (by rfl)]
        have z1 : (#[.int .i64 kp, .string tp, mvp, lvp, .int .i64 pp] : Array Value).all (·.oneCell') = true := by simp [Value.oneCell'] at oap obp ⊢; exact ⟨oap, obp⟩
        refine wp_store_row 28 _ _ rfl pbk #[.int .i64 kp, .string tp, mvp, lvp, .int .i64 pp] rfl rfl 28 Z5 HPB.out info28 rfl z1 ?_
        have hS : Below W5.heap.size W5 (v4.setRow pbk #[.int .i64 kp, .string tp, mvp, lvp, .int .i64 pp]) := below_setRow hHeld _ _ GEpbk.out
        have HPB' := Lib.hid (setRow_heap v4 pbk _ #[.int .i64 kp, .string tp, mvp, lvp, .int .i64 pp] 28 _ HPB.out)
        have PA' := Lib.hid (Dt.At.keeps (w' := v4.setRow pbk #[.int .i64 kp, .string tp, mvp, lvp, .int .i64 pp]) (fun x c T fz hx hg _ => ⟨fz, by rw [setRow_other v4 _ x _ hx.2.1]; exact hg⟩) _ _ PA.out)
        have QA' := Lib.hid (Dt.At.keeps (w' := v4.setRow pbk #[.int .i64 kp, .string tp, mvp, lvp, .int .i64 pp]) (fun x c T fz hx hg _ => ⟨fz, by rw [setRow_other v4 _ x _ hx.2.1]; exact hg⟩) _ _ QA.out)
        have HQB' := Lib.hid (show (v4.setRow pbk #[.int .i64 kp, .string tp, mvp, lvp, .int .i64 pp]).heap[qbk]? = _ from (setRow_other v4 pbk qbk _ (fun e => NE.out (by omega))).trans HQB.out)
        refine hK.out _ _ hS (fun hHeld2 => ?_)
        clear hK K hS z1
        try simp only [List.getElem_toArray, List.getElem_cons_succ, List.getElem_cons_zero, Act.put, List.setIfInBounds_toArray, List.set_cons_zero, List.set_cons_succ]
        clear PA; have PA := PA'; clear PA'
        clear QA; have QA := QA'; clear QA'
        clear HPB; have HPB := HPB'; clear HPB'
        clear HQB; have HQB := HQB'; clear HQB'
        generalize v4.setRow pbk #[.int .i64 kp, .string tp, mvp, lvp, .int .i64 pp] = v5 at hHeld2 PA QA HPB HQB ⊢
        clear hHeld
        have hHeld := hHeld2
        clear hHeld2
        refine wpAnyH_ready (rs := [7]) (by kernel_rfl) (by simp) ?_
        refine (AllReadyH.cons rfl (fun K hK => ?_) AllReadyH.nil)
        rw [if_pos (by rfl)]
        have z1 : (#[.int .i64 kq, .string tq, mvq, lvq, .int .i64 pq] : Array Value).all (·.oneCell') = true := by simp [Value.oneCell'] at oaq obq ⊢; exact ⟨oaq, obq⟩
        refine wp_store_row 28 _ _ rfl qbk #[.int .i64 kq, .string tq, mvq, lvq, .int .i64 pq] rfl rfl 28 Z5 HQB.out info28 rfl z1 ?_
        have hS : Below W5.heap.size W5 (v5.setRow qbk #[.int .i64 kq, .string tq, mvq, lvq, .int .i64 pq]) := below_setRow hHeld _ _ GEqbk.out
        have HQB' := Lib.hid (setRow_heap v5 qbk _ #[.int .i64 kq, .string tq, mvq, lvq, .int .i64 pq] 28 _ HQB.out)
        have PA' := Lib.hid (Dt.At.keeps (w' := v5.setRow qbk #[.int .i64 kq, .string tq, mvq, lvq, .int .i64 pq]) (fun x c T fz hx hg _ => ⟨fz, by rw [setRow_other v5 _ x _ hx.2.2]; exact hg⟩) _ _ PA.out)
        have QA' := Lib.hid (Dt.At.keeps (w' := v5.setRow qbk #[.int .i64 kq, .string tq, mvq, lvq, .int .i64 pq]) (fun x c T fz hx hg _ => ⟨fz, by rw [setRow_other v5 _ x _ hx.2.2]; exact hg⟩) _ _ QA.out)
        have HPB' := Lib.hid (show (v5.setRow qbk #[.int .i64 kq, .string tq, mvq, lvq, .int .i64 pq]).heap[pbk]? = _ from (setRow_other v5 qbk pbk _ (fun e => NE.out (by omega))).trans HPB.out)
        refine hK.out _ _ hS (fun hHeld2 => ?_)
        clear hK K hS z1
        try simp only [List.getElem_toArray, List.getElem_cons_succ, List.getElem_cons_zero, Act.put, List.setIfInBounds_toArray, List.set_cons_zero, List.set_cons_succ]
        clear PA; have PA := PA'; clear PA'
        clear QA; have QA := QA'; clear QA'
        clear HPB; have HPB := HPB'; clear HPB'
        clear HQB; have HQB := HQB'; clear HQB'
        generalize v5.setRow qbk #[.int .i64 kq, .string tq, mvq, lvq, .int .i64 pq] = v6 at hHeld2 PA QA HPB HQB ⊢
        clear hHeld
        have hHeld := hHeld2
        clear hHeld2
        refine wpAnyH_done (by kernel_rfl) ?_ _
        refine NoPanic.normal ?_
        have hX := hHeld
        clear hHeld
        exact REST.out _ _ _ _ _ _ _ _ _ _ _ _ _ _ _ _ _ _ _ _ _ _ _ _ _ _ _ _ _ _ _ _ _ _ _ _ _ _ _ _ _ _ _ _ _ _ _ _ _ _ _ _ _ _ _ _ _ _ _ _ _ _ _ _ _ _ _ _ _ _ _ _ _ _ _ _ _ _ _ _ _ _ _ _ _ _ _ _ _ _ pbk qbk _ _ _ _ _ _ _ _ _ _ HPB.out HQB.out (Dt.At.mono (fun _ _ => trivial) _ _ PA.out) (Dt.At.mono (fun _ _ => trivial) _ _ QA.out) hX
      · skip
        go_simp
        refine hK.out _ _ (hHeld.alloc hHeld.size _) (fun hHeld2 => ?_)
        clear hK K
        try simp only [List.getElem_toArray, List.getElem_cons_succ, List.getElem_cons_zero, Act.put, List.setIfInBounds_toArray, List.set_cons_zero, List.set_cons_succ]
        have hb := (Below.refl v2.heap.size v2).alloc (Nat.le_refl _) (.cells #[.int .i64 0, .string ⟨#[]⟩, .slice none 0 0, .slice none 0 0, .int .i64 0] 28)
        have hn := alloc_at v2 (.cells #[.int .i64 0, .string ⟨#[]⟩, .slice none 0 0, .slice none 0 0, .int .i64 0] 28)
        change Below W5.heap.size W5 (v2.alloc (.cells #[.int .i64 0, .string ⟨#[]⟩, .slice none 0 0, .slice none 0 0, .int .i64 0] 28)) at hHeld2
        have PAb := Dt.At.bound _ _ PA.out
        have hne : v2.heap.size ≠ pbk := by have := (Array.getElem?_eq_some_iff.1 HPB.out).1; omega
        have hge := hHeld.size
        obtain ⟨qbk, hblk⟩ : ∃ x, x = v2.heap.size := ⟨_, rfl⟩
        have PA' : Hid (Dt.At (fun x => W5.heap.size ≤ x ∧ x ≠ pbk ∧ x ≠ qbk) (v2.alloc (.cells #[.int .i64 0, .string ⟨#[]⟩, .slice none 0 0, .slice none 0 0, .int .i64 0] 28)) daa.plain #[.int .i64 kp, .string tp, mvp, lvp, .int .i64 pp]) := Dt.At.mono (fun x hx => ⟨hx.1.1, hx.1.2, (by have := hx.2; omega)⟩) _ _ (Dt.At.keeps (Keeps.of_below hb) _ _ PAb)
        have HPB' := Lib.hid (Below.row hb HPB.out)
        clear PA; have PA := PA'; clear PA'
        clear HPB; have HPB := HPB'; clear HPB'
        skip
        rw [← hblk] at hn ⊢
        rw [← hblk] at hne
        have hge2 : W5.heap.size ≤ qbk := by omega
        clear hb hge hblk PAb
        generalize v2.alloc (.cells #[.int .i64 0, .string ⟨#[]⟩, .slice none 0 0, .slice none 0 0, .int .i64 0] 28) = v3 at hn hHeld2 PA HPB ⊢
        have HQB : Hid (v3.heap[qbk]? = some (.cells Z5 28 (0, 0))) := hn
        have GEqbk := Lib.hid hge2
        have NE := Lib.hid hne
        clear hne
        clear hn hge2 hHeld
        have hHeld := hHeld2
        clear hHeld2
        refine wpAnyH_ready (rs := [3]) (by kernel_rfl) (by simp) ?_
        refine (AllReadyH.cons rfl (fun K hK => ?_) AllReadyH.nil)
        go_simp
        refine (FQ.out _ hHeld).mono ?_
        rintro e v4 ⟨c, rfl, hat, hb⟩
        obtain ⟨kq, tq, mvq, lvq, pq, rfl, oaq, obq⟩ := At_form hat
        have hS := Below.trans hHeld (hb.mono hHeld.size)
        have hsz := hHeld.size
        have hlp := (Array.getElem?_eq_some_iff.1 HPB.out).1
        have hlq := (Array.getElem?_eq_some_iff.1 HQB.out).1
        have PA' := Lib.hid (Dt.At.keeps (Keeps.of_below hb) _ _ PA.out)
        have HPB' := Lib.hid (Below.row hb HPB.out)
        have HQB' := Lib.hid (Below.row hb HQB.out)
        clear PA; have PA := PA'; clear PA'
        clear HPB; have HPB := HPB'; clear HPB'
        clear HQB; have HQB := HQB'; clear HQB'
        have QA : Hid (Dt.At (fun x => W5.heap.size ≤ x ∧ x ≠ pbk ∧ x ≠ qbk) v4 daa.plain #[.int .i64 kq, .string tq, mvq, lvq, .int .i64 pq]) := Dt.At.mono (fun x (hx : v3.heap.size ≤ x) => ⟨by omega, by omega, by omega⟩) _ _ hat
        refine hK.out _ _ hS (fun hHeld => ?_)
        clear hK K hat hb hS hsz hlp hlq
        try simp only [List.getElem_toArray, List.getElem_cons_succ, List.getElem_cons_zero, Act.put, List.setIfInBounds_toArray, List.set_cons_zero, List.set_cons_succ]
        refine wpAnyH_ready (rs := [6]) (by kernel_rfl) (by simp) ?_
        refine (AllReadyH.cons rfl (fun K hK => ?_) AllReadyH.nil)
        rw [if_pos (by rfl)]
        have z1 : (#[.int .i64 kp, .string tp, mvp, lvp, .int .i64 pp] : Array Value).all (·.oneCell') = true := by simp [Value.oneCell'] at oap obp ⊢; exact ⟨oap, obp⟩
        refine wp_store_row 28 _ _ rfl pbk #[.int .i64 kp, .string tp, mvp, lvp, .int .i64 pp] rfl rfl 28 Z5 HPB.out info28 rfl z1 ?_
        have hS : Below W5.heap.size W5 (v4.setRow pbk #[.int .i64 kp, .string tp, mvp, lvp, .int .i64 pp]) := below_setRow hHeld _ _ GEpbk.out
        have HPB' := Lib.hid (setRow_heap v4 pbk _ #[.int .i64 kp, .string tp, mvp, lvp, .int .i64 pp] 28 _ HPB.out)
        have PA' := Lib.hid (Dt.At.keeps (w' := v4.setRow pbk #[.int .i64 kp, .string tp, mvp, lvp, .int .i64 pp]) (fun x c T fz hx hg _ => ⟨fz, by rw [setRow_other v4 _ x _ hx.2.1]; exact hg⟩) _ _ PA.out)
        have QA' := Lib.hid (Dt.At.keeps (w' := v4.setRow pbk #[.int .i64 kp, .string tp, mvp, lvp, .int .i64 pp]) (fun x c T fz hx hg _ => ⟨fz, by rw [setRow_other v4 _ x _ hx.2.1]; exact hg⟩) _ _ QA.out)
        have HQB' := Lib.hid (show (v4.setRow pbk #[.int .i64 kp, .string tp, mvp, lvp, .int .i64 pp]).heap[qbk]? = _ from (setRow_other v4 pbk qbk _ (fun e => NE.out (by omega))).trans HQB.out)
        refine hK.out _ _ hS (fun hHeld2 => ?_)
        clear hK K hS z1
        try simp only [List.getElem_toArray, List.getElem_cons_succ, List.getElem_cons_zero, Act.put, List.setIfInBounds_toArray, List.set_cons_zero, List.set_cons_succ]
        clear PA; have PA := PA'; clear PA'
        clear QA; have QA := QA'; clear QA'
        clear HPB; have HPB := HPB'; clear HPB'
        clear HQB; have HQB := HQB'; clear HQB'
        generalize v4.setRow pbk #[.int .i64 kp, .string tp, mvp, lvp, .int .i64 pp] = v5 at hHeld2 PA QA HPB HQB ⊢
        clear hHeld
        have hHeld := hHeld2
        clear hHeld2
        refine wpAnyH_ready (rs := [7]) (by kernel_rfl) (by simp) ?_
        refine (AllReadyH.cons rfl (fun K hK => ?_) AllReadyH.nil)
        rw [if_pos (by rfl)]
        have z1 : (#[.int .i64 kq, .string tq, mvq, lvq, .int .i64 pq] : Array Value).all (·.oneCell') = true := by simp [Value.oneCell'] at oaq obq ⊢; exact ⟨oaq, obq⟩
        refine wp_store_row 28 _ _ rfl qbk #[.int .i64 kq, .string tq, mvq, lvq, .int .i64 pq] rfl rfl 28 Z5 HQB.out info28 rfl z1 ?_
        have hS : Below W5.heap.size W5 (v5.setRow qbk #[.int .i64 kq, .string tq, mvq, lvq, .int .i64 pq]) := below_setRow hHeld _ _ GEqbk.out
        have HQB' := Lib.hid (setRow_heap v5 qbk _ #[.int .i64 kq, .string tq, mvq, lvq, .int .i64 pq] 28 _ HQB.out)
        have PA' := Lib.hid (Dt.At.keeps (w' := v5.setRow qbk #[.int .i64 kq, .string tq, mvq, lvq, .int .i64 pq]) (fun x c T fz hx hg _ => ⟨fz, by rw [setRow_other v5 _ x _ hx.2.2]; exact hg⟩) _ _ PA.out)
        have QA' := Lib.hid (Dt.At.keeps (w' := v5.setRow qbk #[.int .i64 kq, .string tq, mvq, lvq, .int .i64 pq]) (fun x c T fz hx hg _ => ⟨fz, by rw [setRow_other v5 _ x _ hx.2.2]; exact hg⟩) _ _ QA.out)
        have HPB' := Lib.hid (show (v5.setRow qbk #[.int .i64 kq, .string tq, mvq, lvq, .int .i64 pq]).heap[pbk]? = _ from (setRow_other v5 qbk pbk _ (fun e => NE.out (by omega))).trans HPB.out)
        refine hK.out _ _ hS (fun hHeld2 => ?_)
        clear hK K hS z1
        try simp only [List.getElem_toArray, List.getElem_cons_succ, List.getElem_cons_zero, Act.put, List.setIfInBounds_toArray, List.set_cons_zero, List.set_cons_succ]
        clear PA; have PA := PA'; clear PA'
        clear QA; have QA := QA'; clear QA'
        clear HPB; have HPB := HPB'; clear HPB'
        clear HQB; have HQB := HQB'; clear HQB'
        generalize v5.setRow qbk #[.int .i64 kq, .string tq, mvq, lvq, .int .i64 pq] = v6 at hHeld2 PA QA HPB HQB ⊢
        clear hHeld
        have hHeld := hHeld2
        clear hHeld2
        refine wpAnyH_done (by kernel_rfl) ?_ _
        refine NoPanic.normal ?_
        have hX := hHeld
        clear hHeld
        exact REST.out _ _ _ _ _ _ _ _ _ _ _ _ _ _ _ _ _ _ _ _ _ _ _ _ _ _ _ _ _ _ _ _ _ _ _ _ _ _ _ _ _ _ _ _ _ _ _ _ _ _ _ _ _ _ _ _ _ _ _ _ _ _ _ _ _ _ _ _ _ _ _ _ _ _ _ _ _ _ _ _ _ _ _ _ _ _ _ _ _ _ pbk qbk _ _ _ _ _ _ _ _ _ _ HPB.out HQB.out (Dt.At.mono (fun _ _ => trivial) _ _ PA.out) (Dt.At.mono (fun _ _ => trivial) _ _ QA.out) hX
    · skip
      go_simp
      refine hK.out _ _ (hHeld.alloc hHeld.size _) (fun hHeld2 => ?_)
      clear hK K
      try simp only [List.getElem_toArray, List.getElem_cons_succ, List.getElem_cons_zero, Act.put, List.setIfInBounds_toArray, List.set_cons_zero, List.set_cons_succ]
      have hb := (Below.refl v1.heap.size v1).alloc (Nat.le_refl _) (.cells #[.int .i64 0, .string ⟨#[]⟩, .slice none 0 0, .slice none 0 0, .int .i64 0] 28)
      have hn := alloc_at v1 (.cells #[.int .i64 0, .string ⟨#[]⟩, .slice none 0 0, .slice none 0 0, .int .i64 0] 28)
      change Below W5.heap.size W5 (v1.alloc (.cells #[.int .i64 0, .string ⟨#[]⟩, .slice none 0 0, .slice none 0 0, .int .i64 0] 28)) at hHeld2
      have PAb := Dt.At.bound _ _ PA.out
      have hge := hHeld.size
      obtain ⟨qbk, hblk⟩ : ∃ x, x = v1.heap.size := ⟨_, rfl⟩
      have PA' : Hid (Dt.At (fun x => W5.heap.size ≤ x ∧ x ≠ qbk) (v1.alloc (.cells #[.int .i64 0, .string ⟨#[]⟩, .slice none 0 0, .slice none 0 0, .int .i64 0] 28)) daa.plain #[.int .i64 kp, .string tp, mvp, lvp, .int .i64 pp]) := Dt.At.mono (fun x hx => ⟨hx.1, (by have := hx.2; omega)⟩) _ _ (Dt.At.keeps (Keeps.of_below hb) _ _ PAb)
      clear PA; have PA := PA'; clear PA'
      skip
      rw [← hblk] at hn ⊢
      have hge2 : W5.heap.size ≤ qbk := by omega
      clear hb hge hblk PAb
      generalize v1.alloc (.cells #[.int .i64 0, .string ⟨#[]⟩, .slice none 0 0, .slice none 0 0, .int .i64 0] 28) = v2 at hn hHeld2 PA ⊢
      have HQB : Hid (v2.heap[qbk]? = some (.cells Z5 28 (0, 0))) := hn
      have GEqbk := Lib.hid hge2
      clear hn hge2 hHeld
      have hHeld := hHeld2
      clear hHeld2
      refine wpAnyH_ready (rs := [3, 4]) (by kernel_rfl) (by simp) ?_
      refine (AllReadyH.cons rfl (fun K hK => ?_) (AllReadyH.cons rfl (fun K hK => ?_) AllReadyH.nil))
      · skip
        go_simp
        refine (FQ.out _ hHeld).mono ?_
        rintro e v3 ⟨c, rfl, hat, hb⟩
        obtain ⟨kq, tq, mvq, lvq, pq, rfl, oaq, obq⟩ := At_form hat
        have hS := Below.trans hHeld (hb.mono hHeld.size)
        have hsz := hHeld.size
        have hlq := (Array.getElem?_eq_some_iff.1 HQB.out).1
        have PA' := Lib.hid (Dt.At.keeps (Keeps.of_below hb) _ _ PA.out)
        have HQB' := Lib.hid (Below.row hb HQB.out)
        clear PA; have PA := PA'; clear PA'
        clear HQB; have HQB := HQB'; clear HQB'
        have QA : Hid (Dt.At (fun x => W5.heap.size ≤ x ∧ x ≠ qbk) v3 daa.plain #[.int .i64 kq, .string tq, mvq, lvq, .int .i64 pq]) := Dt.At.mono (fun x (hx : v2.heap.size ≤ x) => ⟨by omega, by omega⟩) _ _ hat
        refine hK.out _ _ hS (fun hHeld => ?_)
        clear hK K hat hb hS hsz hlq
        try simp only [List.getElem_toArray, List.getElem_cons_succ, List.getElem_cons_zero, Act.put, List.setIfInBounds_toArray, List.set_cons_zero, List.set_cons_succ]
        refine wpAnyH_ready (rs := [4]) (by kernel_rfl) (by simp) ?_
        refine (AllReadyH.cons rfl (fun K hK => ?_) AllReadyH.nil)
        go_simp
        refine hK.out _ _ (hHeld.alloc hHeld.size _) (fun hHeld2 => ?_)
        clear hK K
        try simp only [List.getElem_toArray, List.getElem_cons_succ, List.getElem_cons_zero, Act.put, List.setIfInBounds_toArray, List.set_cons_zero, List.set_cons_succ]
        have hb := (Below.refl v3.heap.size v3).alloc (Nat.le_refl _) (.cells #[.int .i64 0, .string ⟨#[]⟩, .slice none 0 0, .slice none 0 0, .int .i64 0] 28)
        have hn := alloc_at v3 (.cells #[.int .i64 0, .string ⟨#[]⟩, .slice none 0 0, .slice none 0 0, .int .i64 0] 28)
        change Below W5.heap.size W5 (v3.alloc (.cells #[.int .i64 0, .string ⟨#[]⟩, .slice none 0 0, .slice none 0 0, .int .i64 0] 28)) at hHeld2
        have PAb := Dt.At.bound _ _ PA.out
        have QAb := Dt.At.bound _ _ QA.out
        have hne : v3.heap.size ≠ qbk := by have := (Array.getElem?_eq_some_iff.1 HQB.out).1; omega
        have hge := hHeld.size
        obtain ⟨pbk, hblk⟩ : ∃ x, x = v3.heap.size := ⟨_, rfl⟩
        have PA' : Hid (Dt.At (fun x => W5.heap.size ≤ x ∧ x ≠ pbk ∧ x ≠ qbk) (v3.alloc (.cells #[.int .i64 0, .string ⟨#[]⟩, .slice none 0 0, .slice none 0 0, .int .i64 0] 28)) daa.plain #[.int .i64 kp, .string tp, mvp, lvp, .int .i64 pp]) := Dt.At.mono (fun x hx => ⟨hx.1.1, (by have := hx.2; omega), hx.1.2⟩) _ _ (Dt.At.keeps (Keeps.of_below hb) _ _ PAb)
        have QA' : Hid (Dt.At (fun x => W5.heap.size ≤ x ∧ x ≠ pbk ∧ x ≠ qbk) (v3.alloc (.cells #[.int .i64 0, .string ⟨#[]⟩, .slice none 0 0, .slice none 0 0, .int .i64 0] 28)) daa.plain #[.int .i64 kq, .string tq, mvq, lvq, .int .i64 pq]) := Dt.At.mono (fun x hx => ⟨hx.1.1, (by have := hx.2; omega), hx.1.2⟩) _ _ (Dt.At.keeps (Keeps.of_below hb) _ _ QAb)
        have HQB' := Lib.hid (Below.row hb HQB.out)
        clear PA; have PA := PA'; clear PA'
        clear QA; have QA := QA'; clear QA'
        clear HQB; have HQB := HQB'; clear HQB'
        skip
        rw [← hblk] at hn ⊢
        rw [← hblk] at hne
        have hge2 : W5.heap.size ≤ pbk := by omega
        clear hb hge hblk PAb QAb
        generalize v3.alloc (.cells #[.int .i64 0, .string ⟨#[]⟩, .slice none 0 0, .slice none 0 0, .int .i64 0] 28) = v4 at hn hHeld2 PA QA HQB ⊢
        have HPB : Hid (v4.heap[pbk]? = some (.cells Z5 28 (0, 0))) := hn
        have GEpbk := Lib.hid hge2
        have NE := Lib.hid hne
        clear hne
        clear hn hge2 hHeld
        have hHeld := hHeld2
        clear hHeld2
        refine wpAnyH_ready (rs := [6]) (by kernel_rfl) (by simp) ?_
        refine (AllReadyH.cons rfl (fun K hK => ?_) AllReadyH.nil)
        rw [if_pos (by rfl)]
        have z1 : (#[.int .i64 kp, .string tp, mvp, lvp, .int .i64 pp] : Array Value).all (·.oneCell') = true := by simp [Value.oneCell'] at oap obp ⊢; exact ⟨oap, obp⟩
        refine wp_store_row 28 _ _ rfl pbk #[.int .i64 kp, .string tp, mvp, lvp, .int .i64 pp] rfl rfl 28 Z5 HPB.out info28 rfl z1 ?_
        have hS : Below W5.heap.size W5 (v4.setRow pbk #[.int .i64 kp, .string tp, mvp, lvp, .int .i64 pp]) := below_setRow hHeld _ _ GEpbk.out
        have HPB' := Lib.hid (setRow_heap v4 pbk _ #[.int .i64 kp, .string tp, mvp, lvp, .int .i64 pp] 28 _ HPB.out)
        have PA' := Lib.hid (Dt.At.keeps (w' := v4.setRow pbk #[.int .i64 kp, .string tp, mvp, lvp, .int .i64 pp]) (fun x c T fz hx hg _ => ⟨fz, by rw [setRow_other v4 _ x _ hx.2.1]; exact hg⟩) _ _ PA.out)
        have QA' := Lib.hid (Dt.At.keeps (w' := v4.setRow pbk #[.int .i64 kp, .string tp, mvp, lvp, .int .i64 pp]) (fun x c T fz hx hg _ => ⟨fz, by rw [setRow_other v4 _ x _ hx.2.1]; exact hg⟩) _ _ QA.out)
        have HQB' := Lib.hid (show (v4.setRow pbk #[.int .i64 kp, .string tp, mvp, lvp, .int .i64 pp]).heap[qbk]? = _ from (setRow_other v4 pbk qbk _ (fun e => NE.out (by omega))).trans HQB.out)
        refine hK.out _ _ hS (fun hHeld2 => ?_)
        clear hK K hS z1
        try simp only [List.getElem_toArray, List.getElem_cons_succ, List.getElem_cons_zero, Act.put, List.setIfInBounds_toArray, List.set_cons_zero, List.set_cons_succ]
        clear PA; have PA := PA'; clear PA'
        clear QA; have QA := QA'; clear QA'
        clear HPB; have HPB := HPB'; clear HPB'
        clear HQB; have HQB := HQB'; clear HQB'
        generalize v4.setRow pbk #[.int .i64 kp, .string tp, mvp, lvp, .int .i64 pp] = v5 at hHeld2 PA QA HPB HQB ⊢
        clear hHeld
        have hHeld := hHeld2
        clear hHeld2
        refine wpAnyH_ready (rs := [7]) (by kernel_rfl) (by simp) ?_
        refine (AllReadyH.cons rfl (fun K hK => ?_) AllReadyH.nil)
        rw [if_pos (by rfl)]
        have z1 : (#[.int .i64 kq, .string tq, mvq, lvq, .int .i64 pq] : Array Value).all (·.oneCell') = true := by simp [Value.oneCell'] at oaq obq ⊢; exact ⟨oaq, obq⟩
        refine wp_store_row 28 _ _ rfl qbk #[.int .i64 kq, .string tq, mvq, lvq, .int .i64 pq] rfl rfl 28 Z5 HQB.out info28 rfl z1 ?_
        have hS : Below W5.heap.size W5 (v5.setRow qbk #[.int .i64 kq, .string tq, mvq, lvq, .int .i64 pq]) := below_setRow hHeld _ _ GEqbk.out
        have HQB' := Lib.hid (setRow_heap v5 qbk _ #[.int .i64 kq, .string tq, mvq, lvq, .int .i64 pq] 28 _ HQB.out)
        have PA' := Lib.hid (Dt.At.keeps (w' := v5.setRow qbk #[.int .i64 kq, .string tq, mvq, lvq, .int .i64 pq]) (fun x c T fz hx hg _ => ⟨fz, by rw [setRow_other v5 _ x _ hx.2.2]; exact hg⟩) _ _ PA.out)
        have QA' := Lib.hid (Dt.At.keeps (w' := v5.setRow qbk #[.int .i64 kq, .string tq, mvq, lvq, .int .i64 pq]) (fun x c T fz hx hg _ => ⟨fz, by rw [setRow_other v5 _ x _ hx.2.2]; exact hg⟩) _ _ QA.out)
        have HPB' := Lib.hid (show (v5.setRow qbk #[.int .i64 kq, .string tq, mvq, lvq, .int .i64 pq]).heap[pbk]? = _ from (setRow_other v5 qbk pbk _ (fun e => NE.out (by omega))).trans HPB.out)
        refine hK.out _ _ hS (fun hHeld2 => ?_)
        clear hK K hS z1
        try simp only [List.getElem_toArray, List.getElem_cons_succ, List.getElem_cons_zero, Act.put, List.setIfInBounds_toArray, List.set_cons_zero, List.set_cons_succ]
        clear PA; have PA := PA'; clear PA'
        clear QA; have QA := QA'; clear QA'
        clear HPB; have HPB := HPB'; clear HPB'
        clear HQB; have HQB := HQB'; clear HQB'
        generalize v5.setRow qbk #[.int .i64 kq, .string tq, mvq, lvq, .int .i64 pq] = v6 at hHeld2 PA QA HPB HQB ⊢
        clear hHeld
        have hHeld := hHeld2
        clear hHeld2
        refine wpAnyH_done (by kernel_rfl) ?_ _
        refine NoPanic.normal ?_
        have hX := hHeld
        clear hHeld
        exact REST.out _ _ _ _ _ _ _ _ _ _ _ _ _ _ _ _ _ _ _ _ _ _ _ _ _ _ _ _ _ _ _ _ _ _ _ _ _ _ _ _ _ _ _ _ _ _ _ _ _ _ _ _ _ _ _ _ _ _ _ _ _ _ _ _ _ _ _ _ _ _ _ _ _ _ _ _ _ _ _ _ _ _ _ _ _ _ _ _ _ _ pbk qbk _ _ _ _ _ _ _ _ _ _ HPB.out HQB.out (Dt.At.mono (fun _ _ => trivial) _ _ PA.out) (Dt.At.mono (fun _ _ => trivial) _ _ QA.out) hX
      · skip
        go_simp
        refine hK.out _ _ (hHeld.alloc hHeld.size _) (fun hHeld2 => ?_)
        clear hK K
        try simp only [List.getElem_toArray, List.getElem_cons_succ, List.getElem_cons_zero, Act.put, List.setIfInBounds_toArray, List.set_cons_zero, List.set_cons_succ]
        have hb := (Below.refl v2.heap.size v2).alloc (Nat.le_refl _) (.cells #[.int .i64 0, .string ⟨#[]⟩, .slice none 0 0, .slice none 0 0, .int .i64 0] 28)
        have hn := alloc_at v2 (.cells #[.int .i64 0, .string ⟨#[]⟩, .slice none 0 0, .slice none 0 0, .int .i64 0] 28)
        change Below W5.heap.size W5 (v2.alloc (.cells #[.int .i64 0, .string ⟨#[]⟩, .slice none 0 0, .slice none 0 0, .int .i64 0] 28)) at hHeld2
        have PAb := Dt.At.bound _ _ PA.out
        have hne : v2.heap.size ≠ qbk := by have := (Array.getElem?_eq_some_iff.1 HQB.out).1; omega
        have hge := hHeld.size
        obtain ⟨pbk, hblk⟩ : ∃ x, x = v2.heap.size := ⟨_, rfl⟩
        have PA' : Hid (Dt.At (fun x => W5.heap.size ≤ x ∧ x ≠ pbk ∧ x ≠ qbk) (v2.alloc (.cells #[.int .i64 0, .string ⟨#[]⟩, .slice none 0 0, .slice none 0 0, .int .i64 0] 28)) daa.plain #[.int .i64 kp, .string tp, mvp, lvp, .int .i64 pp]) := Dt.At.mono (fun x hx => ⟨hx.1.1, (by have := hx.2; omega), hx.1.2⟩) _ _ (Dt.At.keeps (Keeps.of_below hb) _ _ PAb)
        have HQB' := Lib.hid (Below.row hb HQB.out)
        clear PA; have PA := PA'; clear PA'
        clear HQB; have HQB := HQB'; clear HQB'
        skip
        rw [← hblk] at hn ⊢
        rw [← hblk] at hne
        have hge2 : W5.heap.size ≤ pbk := by omega
        clear hb hge hblk PAb
        generalize v2.alloc (.cells #[.int .i64 0, .string ⟨#[]⟩, .slice none 0 0, .slice none 0 0, .int .i64 0] 28) = v3 at hn hHeld2 PA HQB ⊢
        have HPB : Hid (v3.heap[pbk]? = some (.cells Z5 28 (0, 0))) := hn
        have GEpbk := Lib.hid hge2
        have NE := Lib.hid hne
        clear hne
        clear hn hge2 hHeld
        have hHeld := hHeld2
        clear hHeld2
        refine wpAnyH_ready (rs := [3]) (by kernel_rfl) (by simp) ?_
        refine (AllReadyH.cons rfl (fun K hK => ?_) AllReadyH.nil)
        go_simp
        refine (FQ.out _ hHeld).mono ?_
        rintro e v4 ⟨c, rfl, hat, hb⟩
        obtain ⟨kq, tq, mvq, lvq, pq, rfl, oaq, obq⟩ := At_form hat
        have hS := Below.trans hHeld (hb.mono hHeld.size)
        have hsz := hHeld.size
        have hlp := (Array.getElem?_eq_some_iff.1 HPB.out).1
        have hlq := (Array.getElem?_eq_some_iff.1 HQB.out).1
        have PA' := Lib.hid (Dt.At.keeps (Keeps.of_below hb) _ _ PA.out)
        have HPB' := Lib.hid (Below.row hb HPB.out)
        have HQB' := Lib.hid (Below.row hb HQB.out)
        clear PA; have PA := PA'; clear PA'
        clear HPB; have HPB := HPB'; clear HPB'
        clear HQB; have HQB := HQB'; clear HQB'
        have QA : Hid (Dt.At (fun x => W5.heap.size ≤ x ∧ x ≠ pbk ∧ x ≠ qbk) v4 daa.plain #[.int .i64 kq, .string tq, mvq, lvq, .int .i64 pq]) := Dt.At.mono (fun x (hx : v3.heap.size ≤ x) => ⟨by omega, by omega, by omega⟩) _ _ hat
        refine hK.out _ _ hS (fun hHeld => ?_)
        clear hK K hat hb hS hsz hlp hlq
        try simp only [List.getElem_toArray, List.getElem_cons_succ, List.getElem_cons_zero, Act.put, List.setIfInBounds_toArray, List.set_cons_zero, List.set_cons_succ]
        refine wpAnyH_ready (rs := [6]) (by kernel_rfl) (by simp) ?_
        refine (AllReadyH.cons rfl (fun K hK => ?_) AllReadyH.nil)
        rw [if_pos (by rfl)]
        have z1 : (#[.int .i64 kp, .string tp, mvp, lvp, .int .i64 pp] : Array Value).all (·.oneCell') = true := by simp [Value.oneCell'] at oap obp ⊢; exact ⟨oap, obp⟩
        refine wp_store_row 28 _ _ rfl pbk #[.int .i64 kp, .string tp, mvp, lvp, .int .i64 pp] rfl rfl 28 Z5 HPB.out info28 rfl z1 ?_
        have hS : Below W5.heap.size W5 (v4.setRow pbk #[.int .i64 kp, .string tp, mvp, lvp, .int .i64 pp]) := below_setRow hHeld _ _ GEpbk.out
        have HPB' := Lib.hid (setRow_heap v4 pbk _ #[.int .i64 kp, .string tp, mvp, lvp, .int .i64 pp] 28 _ HPB.out)
        have PA' := Lib.hid (Dt.At.keeps (w' := v4.setRow pbk #[.int .i64 kp, .string tp, mvp, lvp, .int .i64 pp]) (fun x c T fz hx hg _ => ⟨fz, by rw [setRow_other v4 _ x _ hx.2.1]; exact hg⟩) _ _ PA.out)
        have QA' := Lib.hid (Dt.At.keeps (w' := v4.setRow pbk #[.int .i64 kp, .string tp, mvp, lvp, .int .i64 pp]) (fun x c T fz hx hg _ => ⟨fz, by rw [setRow_other v4 _ x _ hx.2.1]; exact hg⟩) _ _ QA.out)
        have HQB' := Lib.hid (show (v4.setRow pbk #[.int .i64 kp, .string tp, mvp, lvp, .int .i64 pp]).heap[qbk]? = _ from (setRow_other v4 pbk qbk _ (fun e => NE.out (by omega))).trans HQB.out)
        refine hK.out _ _ hS (fun hHeld2 => ?_)
        clear hK K hS z1
        try simp only [List.getElem_toArray, List.getElem_cons_succ, List.getElem_cons_zero, Act.put, List.setIfInBounds_toArray, List.set_cons_zero, List.set_cons_succ]
        clear PA; have PA := PA'; clear PA'
        clear QA; have QA := QA'; clear QA'
        clear HPB; have HPB := HPB'; clear HPB'
        clear HQB; have HQB := HQB'; clear HQB'
        generalize v4.setRow pbk #[.int .i64 kp, .string tp, mvp, lvp, .int .i64 pp] = v5 at hHeld2 PA QA HPB HQB ⊢
        clear hHeld
        have hHeld := hHeld2
        clear hHeld2
        refine wpAnyH_ready (rs := [7]) (by kernel_rfl) (by simp) ?_
        refine (AllReadyH.cons rfl (fun K hK => ?_) AllReadyH.nil)
        rw [if_pos (by rfl)]
        have z1 : (#[.int .i64 kq, .string tq, mvq, lvq, .int .i64 pq] : Array Value).all (·.oneCell') = true := by simp [Value.oneCell'] at oaq obq ⊢; exact ⟨oaq, obq⟩
        refine wp_store_row 28 _ _ rfl qbk #[.int .i64 kq, .string tq, mvq, lvq, .int .i64 pq] rfl rfl 28 Z5 HQB.out info28 rfl z1 ?_
        have hS : Below W5.heap.size W5 (v5.setRow qbk #[.int .i64 kq, .string tq, mvq, lvq, .int .i64 pq]) := below_setRow hHeld _ _ GEqbk.out
        have HQB' := Lib.hid (setRow_heap v5 qbk _ #[.int .i64 kq, .string tq, mvq, lvq, .int .i64 pq] 28 _ HQB.out)
        have PA' := Lib.hid (Dt.At.keeps (w' := v5.setRow qbk #[.int .i64 kq, .string tq, mvq, lvq, .int .i64 pq]) (fun x c T fz hx hg _ => ⟨fz, by rw [setRow_other v5 _ x _ hx.2.2]; exact hg⟩) _ _ PA.out)
        have QA' := Lib.hid (Dt.At.keeps (w' := v5.setRow qbk #[.int .i64 kq, .string tq, mvq, lvq, .int .i64 pq]) (fun x c T fz hx hg _ => ⟨fz, by rw [setRow_other v5 _ x _ hx.2.2]; exact hg⟩) _ _ QA.out)
        have HPB' := Lib.hid (show (v5.setRow qbk #[.int .i64 kq, .string tq, mvq, lvq, .int .i64 pq]).heap[pbk]? = _ from (setRow_other v5 qbk pbk _ (fun e => NE.out (by omega))).trans HPB.out)
        refine hK.out _ _ hS (fun hHeld2 => ?_)
        clear hK K hS z1
        try simp only [List.getElem_toArray, List.getElem_cons_succ, List.getElem_cons_zero, Act.put, List.setIfInBounds_toArray, List.set_cons_zero, List.set_cons_succ]
        clear PA; have PA := PA'; clear PA'
        clear QA; have QA := QA'; clear QA'
        clear HPB; have HPB := HPB'; clear HPB'
        clear HQB; have HQB := HQB'; clear HQB'
        generalize v5.setRow qbk #[.int .i64 kq, .string tq, mvq, lvq, .int .i64 pq] = v6 at hHeld2 PA QA HPB HQB ⊢
        clear hHeld
        have hHeld := hHeld2
        clear hHeld2
        refine wpAnyH_done (by kernel_rfl) ?_ _
        refine NoPanic.normal ?_
        have hX := hHeld
        clear hHeld
        exact REST.out _ _ _ _ _ _ _ _ _ _ _ _ _ _ _ _ _ _ _ _ _ _ _ _ _ _ _ _ _ _ _ _ _ _ _ _ _ _ _ _ _ _ _ _ _ _ _ _ _ _ _ _ _ _ _ _ _ _ _ _ _ _ _ _ _ _ _ _ _ _ _ _ _ _ _ _ _ _ _ _ _ _ _ _ _ _ _ _ _ _ pbk qbk _ _ _ _ _ _ _ _ _ _ HPB.out HQB.out (Dt.At.mono (fun _ _ => trivial) _ _ PA.out) (Dt.At.mono (fun _ _ => trivial) _ _ QA.out) hX
  · skip
    go_simp
    refine hK.out _ _ (hHeld.alloc hHeld.size _) (fun hHeld2 => ?_)
    clear hK K
    try simp only [List.getElem_toArray, List.getElem_cons_succ, List.getElem_cons_zero, Act.put, List.setIfInBounds_toArray, List.set_cons_zero, List.set_cons_succ]
    have hb := (Below.refl v0.heap.size v0).alloc (Nat.le_refl _) (.cells #[.int .i64 0, .string ⟨#[]⟩, .slice none 0 0, .slice none 0 0, .int .i64 0] 28)
    have hn := alloc_at v0 (.cells #[.int .i64 0, .string ⟨#[]⟩, .slice none 0 0, .slice none 0 0, .int .i64 0] 28)
    change Below W5.heap.size W5 (v0.alloc (.cells #[.int .i64 0, .string ⟨#[]⟩, .slice none 0 0, .slice none 0 0, .int .i64 0] 28)) at hHeld2
    have hge := hHeld.size
    obtain ⟨pbk, hblk⟩ : ∃ x, x = v0.heap.size := ⟨_, rfl⟩
    skip
    rw [← hblk] at hn ⊢
    have hge2 : W5.heap.size ≤ pbk := by omega
    clear hb hge hblk
    generalize v0.alloc (.cells #[.int .i64 0, .string ⟨#[]⟩, .slice none 0 0, .slice none 0 0, .int .i64 0] 28) = v1 at hn hHeld2 ⊢
    have HPB : Hid (v1.heap[pbk]? = some (.cells Z5 28 (0, 0))) := hn
    have GEpbk := Lib.hid hge2
    clear hn hge2 hHeld
    have hHeld := hHeld2
    clear hHeld2
    refine wpAnyH_ready (rs := [1, 5]) (by kernel_rfl) (by simp) ?_
    refine (AllReadyH.cons rfl (fun K hK => ?_) (AllReadyH.cons rfl (fun K hK => ?_) AllReadyH.nil))
    · skip
      go_simp
      refine (FP.out _ hHeld).mono ?_
      rintro e v2 ⟨c, rfl, hat, hb⟩
      obtain ⟨kp, tp, mvp, lvp, pp, rfl, oap, obp⟩ := At_form hat
      have hS := Below.trans hHeld (hb.mono hHeld.size)
      have hsz := hHeld.size
      have hlp := (Array.getElem?_eq_some_iff.1 HPB.out).1
      have HPB' := Lib.hid (Below.row hb HPB.out)
      clear HPB; have HPB := HPB'; clear HPB'
      have PA : Hid (Dt.At (fun x => W5.heap.size ≤ x ∧ x ≠ pbk) v2 daa.plain #[.int .i64 kp, .string tp, mvp, lvp, .int .i64 pp]) := Dt.At.mono (fun x (hx : v1.heap.size ≤ x) => ⟨by omega, by omega⟩) _ _ hat
      refine hK.out _ _ hS (fun hHeld => ?_)
      clear hK K hat hb hS hsz hlp
      try simp only [List.getElem_toArray, List.getElem_cons_succ, List.getElem_cons_zero, Act.put, List.setIfInBounds_toArray, List.set_cons_zero, List.set_cons_succ]
      refine wpAnyH_ready (rs := [3, 5]) (by kernel_rfl) (by simp) ?_
      refine (AllReadyH.cons rfl (fun K hK => ?_) (AllReadyH.cons rfl (fun K hK => ?_) AllReadyH.nil))
      · skip
        go_simp
        refine (FQ.out _ hHeld).mono ?_
        rintro e v3 ⟨c, rfl, hat, hb⟩
        obtain ⟨kq, tq, mvq, lvq, pq, rfl, oaq, obq⟩ := At_form hat
        have hS := Below.trans hHeld (hb.mono hHeld.size)
        have hsz := hHeld.size
        have hlp := (Array.getElem?_eq_some_iff.1 HPB.out).1
        have PA' := Lib.hid (Dt.At.keeps (Keeps.of_below hb) _ _ PA.out)
        have HPB' := Lib.hid (Below.row hb HPB.out)
        clear PA; have PA := PA'; clear PA'
        clear HPB; have HPB := HPB'; clear HPB'
        have QA : Hid (Dt.At (fun x => W5.heap.size ≤ x ∧ x ≠ pbk) v3 daa.plain #[.int .i64 kq, .string tq, mvq, lvq, .int .i64 pq]) := Dt.At.mono (fun x (hx : v2.heap.size ≤ x) => ⟨by omega, by omega⟩) _ _ hat
        refine hK.out _ _ hS (fun hHeld => ?_)
        clear hK K hat hb hS hsz hlp
        try simp only [List.getElem_toArray, List.getElem_cons_succ, List.getElem_cons_zero, Act.put, List.setIfInBounds_toArray, List.set_cons_zero, List.set_cons_succ]
        refine wpAnyH_ready (rs := [5]) (by kernel_rfl) (by simp) ?_
        refine (AllReadyH.cons rfl (fun K hK => ?_) AllReadyH.nil)
        go_simp
        refine hK.out _ _ (hHeld.alloc hHeld.size _) (fun hHeld2 => ?_)
        clear hK K
        try simp only [List.getElem_toArray, List.getElem_cons_succ, List.getElem_cons_zero, Act.put, List.setIfInBounds_toArray, List.set_cons_zero, List.set_cons_succ]
        have hb := (Below.refl v3.heap.size v3).alloc (Nat.le_refl _) (.cells #[.int .i64 0, .string ⟨#[]⟩, .slice none 0 0, .slice none 0 0, .int .i64 0] 28)
        have hn := alloc_at v3 (.cells #[.int .i64 0, .string ⟨#[]⟩, .slice none 0 0, .slice none 0 0, .int .i64 0] 28)
        change Below W5.heap.size W5 (v3.alloc (.cells #[.int .i64 0, .string ⟨#[]⟩, .slice none 0 0, .slice none 0 0, .int .i64 0] 28)) at hHeld2
        have PAb := Dt.At.bound _ _ PA.out
        have QAb := Dt.At.bound _ _ QA.out
        have hne : v3.heap.size ≠ pbk := by have := (Array.getElem?_eq_some_iff.1 HPB.out).1; omega
        have hge := hHeld.size
        obtain ⟨qbk, hblk⟩ : ∃ x, x = v3.heap.size := ⟨_, rfl⟩
        have PA' : Hid (Dt.At (fun x => W5.heap.size ≤ x ∧ x ≠ pbk ∧ x ≠ qbk) (v3.alloc (.cells #[.int .i64 0, .string ⟨#[]⟩, .slice none 0 0, .slice none 0 0, .int .i64 0] 28)) daa.plain #[.int .i64 kp, .string tp, mvp, lvp, .int .i64 pp]) := Dt.At.mono (fun x hx => ⟨hx.1.1, hx.1.2, (by have := hx.2; omega)⟩) _ _ (Dt.At.keeps (Keeps.of_below hb) _ _ PAb)
        have QA' : Hid (Dt.At (fun x => W5.heap.size ≤ x ∧ x ≠ pbk ∧ x ≠ qbk) (v3.alloc (.cells #[.int .i64 0, .string ⟨#[]⟩, .slice none 0 0, .slice none 0 0, .int .i64 0] 28)) daa.plain #[.int .i64 kq, .string tq, mvq, lvq, .int .i64 pq]) := Dt.At.mono (fun x hx => ⟨hx.1.1, hx.1.2, (by have := hx.2; omega)⟩) _ _ (Dt.At.keeps (Keeps.of_below hb) _ _ QAb)
        have HPB' := Lib.hid (Below.row hb HPB.out)
        clear PA; have PA := PA'; clear PA'
        clear QA; have QA := QA'; clear QA'
        clear HPB; have HPB := HPB'; clear HPB'
        skip
        rw [← hblk] at hn ⊢
        rw [← hblk] at hne
        have hge2 : W5.heap.size ≤ qbk := by omega
        clear hb hge hblk PAb QAb
        generalize v3.alloc (.cells #[.int .i64 0, .string ⟨#[]⟩, .slice none 0 0, .slice none 0 0, .int .i64 0] 28) = v4 at hn hHeld2 PA QA HPB ⊢
        have HQB : Hid (v4.heap[qbk]? = some (.cells Z5 28 (0, 0))) := hn
        have GEqbk := Lib.hid hge2
        have NE := Lib.hid hne
        clear hne
        clear hn hge2 hHeld
        have hHeld := hHeld2
        clear hHeld2
        refine wpAnyH_ready (rs := [6]) (by kernel_rfl) (by simp) ?_
        refine (AllReadyH.cons rfl (fun K hK => ?_) AllReadyH.nil)
        rw [if_pos (by rfl)]
        have z1 : (#[.int .i64 kp, .string tp, mvp, lvp, .int .i64 pp] : Array Value).all (·.oneCell') = true := by simp [Value.oneCell'] at oap obp ⊢; exact ⟨oap, obp⟩
        refine wp_store_row 28 _ _ rfl pbk #[.int .i64 kp, .string tp, mvp, lvp, .int .i64 pp] rfl rfl 28 Z5 HPB.out info28 rfl z1 ?_
        have hS : Below W5.heap.size W5 (v4.setRow pbk #[.int .i64 kp, .string tp, mvp, lvp, .int .i64 pp]) := below_setRow hHeld _ _ GEpbk.out
        have HPB' := Lib.hid (setRow_heap v4 pbk _ #[.int .i64 kp, .string tp, mvp, lvp, .int .i64 pp] 28 _ HPB.out)
        have PA' := Lib.hid (Dt.At.keeps (w' := v4.setRow pbk #[.int .i64 kp, .string tp, mvp, lvp, .int .i64 pp]) (fun x c T fz hx hg _ => ⟨fz, by rw [setRow_other v4 _ x _ hx.2.1]; exact hg⟩) _ _ PA.out)
        have QA' := Lib.hid (Dt.At.keeps (w' := v4.setRow pbk #[.int .i64 kp, .string tp, mvp, lvp, .int .i64 pp]) (fun x c T fz hx hg _ => ⟨fz, by rw [setRow_other v4 _ x _ hx.2.1]; exact hg⟩) _ _ QA.out)
        have HQB' := Lib.hid (show (v4.setRow pbk #[.int .i64 kp, .string tp, mvp, lvp, .int .i64 pp]).heap[qbk]? = _ from (setRow_other v4 pbk qbk _ (fun e => NE.out (by omega))).trans HQB.out)
        refine hK.out _ _ hS (fun hHeld2 => ?_)
        clear hK K hS z1
        try simp only [List.getElem_toArray, List.getElem_cons_succ, List.getElem_cons_zero, Act.put, List.setIfInBounds_toArray, List.set_cons_zero, List.set_cons_succ]
        clear PA; have PA := PA'; clear PA'
        clear QA; have QA := QA'; clear QA'
        clear HPB; have HPB := HPB'; clear HPB'
        clear HQB; have HQB := HQB'; clear HQB'
        generalize v4.setRow pbk #[.int .i64 kp, .string tp, mvp, lvp, .int .i64 pp] = v5 at hHeld2 PA QA HPB HQB ⊢
        clear hHeld
        have hHeld := hHeld2
        clear hHeld2
        refine wpAnyH_ready (rs := [7]) (by kernel_rfl) (by simp) ?_
        refine (AllReadyH.cons rfl (fun K hK => ?_) AllReadyH.nil)
        rw [if_pos (by rfl)]
        have z1 : (#[.int .i64 kq, .string tq, mvq, lvq, .int .i64 pq] : Array Value).all (·.oneCell') = true := by simp [Value.oneCell'] at oaq obq ⊢; exact ⟨oaq, obq⟩
        refine wp_store_row 28 _ _ rfl qbk #[.int .i64 kq, .string tq, mvq, lvq, .int .i64 pq] rfl rfl 28 Z5 HQB.out info28 rfl z1 ?_
        have hS : Below W5.heap.size W5 (v5.setRow qbk #[.int .i64 kq, .string tq, mvq, lvq, .int .i64 pq]) := below_setRow hHeld _ _ GEqbk.out
        have HQB' := Lib.hid (setRow_heap v5 qbk _ #[.int .i64 kq, .string tq, mvq, lvq, .int .i64 pq] 28 _ HQB.out)
        have PA' := Lib.hid (Dt.At.keeps (w' := v5.setRow qbk #[.int .i64 kq, .string tq, mvq, lvq, .int .i64 pq]) (fun x c T fz hx hg _ => ⟨fz, by rw [setRow_other v5 _ x _ hx.2.2]; exact hg⟩) _ _ PA.out)
        have QA' := Lib.hid (Dt.At.keeps (w' := v5.setRow qbk #[.int .i64 kq, .string tq, mvq, lvq, .int .i64 pq]) (fun x c T fz hx hg _ => ⟨fz, by rw [setRow_other v5 _ x _ hx.2.2]; exact hg⟩) _ _ QA.out)
        have HPB' := Lib.hid (show (v5.setRow qbk #[.int .i64 kq, .string tq, mvq, lvq, .int .i64 pq]).heap[pbk]? = _ from (setRow_other v5 qbk pbk _ (fun e => NE.out (by omega))).trans HPB.out)
        refine hK.out _ _ hS (fun hHeld2 => ?_)
        clear hK K hS z1
        try simp only [List.getElem_toArray, List.getElem_cons_succ, List.getElem_cons_zero, Act.put, List.setIfInBounds_toArray, List.set_cons_zero, List.set_cons_succ]
        clear PA; have PA := PA'; clear PA'
        clear QA; have QA := QA'; clear QA'
        clear HPB; have HPB := HPB'; clear HPB'
        clear HQB; have HQB := HQB'; clear HQB'
        generalize v5.setRow qbk #[.int .i64 kq, .string tq, mvq, lvq, .int .i64 pq] = v6 at hHeld2 PA QA HPB HQB ⊢
        clear hHeld
        have hHeld := hHeld2
        clear hHeld2
        refine wpAnyH_done (by kernel_rfl) ?_ _
        refine NoPanic.normal ?_
        have hX := hHeld
        clear hHeld
        exact REST.out _ _ _ _ _ _ _ _ _ _ _ _ _ _ _ _ _ _ _ _ _ _ _ _ _ _ _ _ _ _ _ _ _ _ _ _ _ _ _ _ _ _ _ _ _ _ _ _ _ _ _ _ _ _ _ _ _ _ _ _ _ _ _ _ _ _ _ _ _ _ _ _ _ _ _ _ _ _ _ _ _ _ _ _ _ _ _ _ _ _ pbk qbk _ _ _ _ _ _ _ _ _ _ HPB.out HQB.out (Dt.At.mono (fun _ _ => trivial) _ _ PA.out) (Dt.At.mono (fun _ _ => trivial) _ _ QA.out) hX
      · skip
        go_simp
        refine hK.out _ _ (hHeld.alloc hHeld.size _) (fun hHeld2 => ?_)
        clear hK K
        try simp only [List.getElem_toArray, List.getElem_cons_succ, List.getElem_cons_zero, Act.put, List.setIfInBounds_toArray, List.set_cons_zero, List.set_cons_succ]
        have hb := (Below.refl v2.heap.size v2).alloc (Nat.le_refl _) (.cells #[.int .i64 0, .string ⟨#[]⟩, .slice none 0 0, .slice none 0 0, .int .i64 0] 28)
        have hn := alloc_at v2 (.cells #[.int .i64 0, .string ⟨#[]⟩, .slice none 0 0, .slice none 0 0, .int .i64 0] 28)
        change Below W5.heap.size W5 (v2.alloc (.cells #[.int .i64 0, .string ⟨#[]⟩, .slice none 0 0, .slice none 0 0, .int .i64 0] 28)) at hHeld2
        have PAb := Dt.At.bound _ _ PA.out
        have hne : v2.heap.size ≠ pbk := by have := (Array.getElem?_eq_some_iff.1 HPB.out).1; omega
        have hge := hHeld.size
        obtain ⟨qbk, hblk⟩ : ∃ x, x = v2.heap.size := ⟨_, rfl⟩
        have PA' : Hid (Dt.At (fun x => W5.heap.size ≤ x ∧ x ≠ pbk ∧ x ≠ qbk) (v2.alloc (.cells #[.int .i64 0, .string ⟨#[]⟩, .slice none 0 0, .slice none 0 0, .int .i64 0] 28)) daa.plain #[.int .i64 kp, .string tp, mvp, lvp, .int .i64 pp]) := Dt.At.mono (fun x hx => ⟨hx.1.1, hx.1.2, (by have := hx.2; omega)⟩) _ _ (Dt.At.keeps (Keeps.of_below hb) _ _ PAb)
        have HPB' := Lib.hid (Below.row hb HPB.out)
        clear PA; have PA := PA'; clear PA'
        clear HPB; have HPB := HPB'; clear HPB'
        skip
        rw [← hblk] at hn ⊢
        rw [← hblk] at hne
        have hge2 : W5.heap.size ≤ qbk := by omega
        clear hb hge hblk PAb
        generalize v2.alloc (.cells #[.int .i64 0, .string ⟨#[]⟩, .slice none 0 0, .slice none 0 0, .int .i64 0] 28) = v3 at hn hHeld2 PA HPB ⊢
        have HQB : Hid (v3.heap[qbk]? = some (.cells Z5 28 (0, 0))) := hn
        have GEqbk := Lib.hid hge2
        have NE := Lib.hid hne
        clear hne
        clear hn hge2 hHeld
        have hHeld := hHeld2
        clear hHeld2
        refine wpAnyH_ready (rs := [3]) (by kernel_rfl) (by simp) ?_
        refine (AllReadyH.cons rfl (fun K hK => ?_) AllReadyH.nil)
        go_simp
        refine (FQ.out _ hHeld).mono ?_
        rintro e v4 ⟨c, rfl, hat, hb⟩
        obtain ⟨kq, tq, mvq, lvq, pq, rfl, oaq, obq⟩ := At_form hat
        have hS := Below.trans hHeld (hb.mono hHeld.size)
        have hsz := hHeld.size
        have hlp := (Array.getElem?_eq_some_iff.1 HPB.out).1
        have hlq := (Array.getElem?_eq_some_iff.1 HQB.out).1
        have PA' := Lib.hid (Dt.At.keeps (Keeps.of_below hb) _ _ PA.out)
        have HPB' := Lib.hid (Below.row hb HPB.out)
        have HQB' := Lib.hid (Below.row hb HQB.out)
        clear PA; have PA := PA'; clear PA'
        clear HPB; have HPB := HPB'; clear HPB'
        clear HQB; have HQB := HQB'; clear HQB'
        have QA : Hid (Dt.At (fun x => W5.heap.size ≤ x ∧ x ≠ pbk ∧ x ≠ qbk) v4 daa.plain #[.int .i64 kq, .string tq, mvq, lvq, .int .i64 pq]) := Dt.At.mono (fun x (hx : v3.heap.size ≤ x) => ⟨by omega, by omega, by omega⟩) _ _ hat
        refine hK.out _ _ hS (fun hHeld => ?_)
        clear hK K hat hb hS hsz hlp hlq
        try simp only [List.getElem_toArray, List.getElem_cons_succ, List.getElem_cons_zero, Act.put, List.setIfInBounds_toArray, List.set_cons_zero, List.set_cons_succ]
        refine wpAnyH_ready (rs := [6]) (by kernel_rfl) (by simp) ?_
        refine (AllReadyH.cons rfl (fun K hK => ?_) AllReadyH.nil)
        rw [if_pos (by rfl)]
        have z1 : (#[.int .i64 kp, .string tp, mvp, lvp, .int .i64 pp] : Array Value).all (·.oneCell') = true := by simp [Value.oneCell'] at oap obp ⊢; exact ⟨oap, obp⟩
        refine wp_store_row 28 _ _ rfl pbk #[.int .i64 kp, .string tp, mvp, lvp, .int .i64 pp] rfl rfl 28 Z5 HPB.out info28 rfl z1 ?_
        have hS : Below W5.heap.size W5 (v4.setRow pbk #[.int .i64 kp, .string tp, mvp, lvp, .int .i64 pp]) := below_setRow hHeld _ _ GEpbk.out
        have HPB' := Lib.hid (setRow_heap v4 pbk _ #[.int .i64 kp, .string tp, mvp, lvp, .int .i64 pp] 28 _ HPB.out)
        have PA' := Lib.hid (Dt.At.keeps (w' := v4.setRow pbk #[.int .i64 kp, .string tp, mvp, lvp, .int .i64 pp]) (fun x c T fz hx hg _ => ⟨fz, by rw [setRow_other v4 _ x _ hx.2.1]; exact hg⟩) _ _ PA.out)
        have QA' := Lib.hid (Dt.At.keeps (w' := v4.setRow pbk #[.int .i64 kp, .string tp, mvp, lvp, .int .i64 pp]) (fun x c T fz hx hg _ => ⟨fz, by rw [setRow_other v4 _ x _ hx.2.1]; exact hg⟩) _ _ QA.out)
        have HQB' := Lib.hid (show (v4.setRow pbk #[.int .i64 kp, .string tp, mvp, lvp, .int .i64 pp]).heap[qbk]? = _ from (setRow_other v4 pbk qbk _ (fun e => NE.out (by omega))).trans HQB.out)
        refine hK.out _ _ hS (fun hHeld2 => ?_)
        clear hK K hS z1
        try simp only [List.getElem_toArray, List.getElem_cons_succ, List.getElem_cons_zero, Act.put, List.setIfInBounds_toArray, List.set_cons_zero, List.set_cons_succ]
        clear PA; have PA := PA'; clear PA'
        clear QA; have QA := QA'; clear QA'
        clear HPB; have HPB := HPB'; clear HPB'
        clear HQB; have HQB := HQB'; clear HQB'
        generalize v4.setRow pbk #[.int .i64 kp, .string tp, mvp, lvp, .int .i64 pp] = v5 at hHeld2 PA QA HPB HQB ⊢
        clear hHeld
        have hHeld := hHeld2
        clear hHeld2
        refine wpAnyH_ready (rs := [7]) (by kernel_rfl) (by simp) ?_
        refine (AllReadyH.cons rfl (fun K hK => ?_) AllReadyH.nil)
        rw [if_pos (by rfl)]
        have z1 : (#[.int .i64 kq, .string tq, mvq, lvq, .int .i64 pq] : Array Value).all (·.oneCell') = true := by simp [Value.oneCell'] at oaq obq ⊢; exact ⟨oaq, obq⟩
        refine wp_store_row 28 _ _ rfl qbk #[.int .i64 kq, .string tq, mvq, lvq, .int .i64 pq] rfl rfl 28 Z5 HQB.out info28 rfl z1 ?_
        have hS : Below W5.heap.size W5 (v5.setRow qbk #[.int .i64 kq, .string tq, mvq, lvq, .int .i64 pq]) := below_setRow hHeld _ _ GEqbk.out
        have HQB' := Lib.hid (setRow_heap v5 qbk _ #[.int .i64 kq, .string tq, mvq, lvq, .int .i64 pq] 28 _ HQB.out)
        have PA' := Lib.hid (Dt.At.keeps (w' := v5.setRow qbk #[.int .i64 kq, .string tq, mvq, lvq, .int .i64 pq]) (fun x c T fz hx hg _ => ⟨fz, by rw [setRow_other v5 _ x _ hx.2.2]; exact hg⟩) _ _ PA.out)
        have QA' := Lib.hid (Dt.At.keeps (w' := v5.setRow qbk #[.int .i64 kq, .string tq, mvq, lvq, .int .i64 pq]) (fun x c T fz hx hg _ => ⟨fz, by rw [setRow_other v5 _ x _ hx.2.2]; exact hg⟩) _ _ QA.out)
        have HPB' := Lib.hid (show (v5.setRow qbk #[.int .i64 kq, .string tq, mvq, lvq, .int .i64 pq]).heap[pbk]? = _ from (setRow_other v5 qbk pbk _ (fun e => NE.out (by omega))).trans HPB.out)
        refine hK.out _ _ hS (fun hHeld2 => ?_)
        clear hK K hS z1
        try simp only [List.getElem_toArray, List.getElem_cons_succ, List.getElem_cons_zero, Act.put, List.setIfInBounds_toArray, List.set_cons_zero, List.set_cons_succ]
        clear PA; have PA := PA'; clear PA'
        clear QA; have QA := QA'; clear QA'
        clear HPB; have HPB := HPB'; clear HPB'
        clear HQB; have HQB := HQB'; clear HQB'
        generalize v5.setRow qbk #[.int .i64 kq, .string tq, mvq, lvq, .int .i64 pq] = v6 at hHeld2 PA QA HPB HQB ⊢
        clear hHeld
        have hHeld := hHeld2
        clear hHeld2
        refine wpAnyH_done (by kernel_rfl) ?_ _
        refine NoPanic.normal ?_
        have hX := hHeld
        clear hHeld
        exact REST.out _ _ _ _ _ _ _ _ _ _ _ _ _ _ _ _ _ _ _ _ _ _ _ _ _ _ _ _ _ _ _ _ _ _ _ _ _ _ _ _ _ _ _ _ _ _ _ _ _ _ _ _ _ _ _ _ _ _ _ _ _ _ _ _ _ _ _ _ _ _ _ _ _ _ _ _ _ _ _ _ _ _ _ _ _ _ _ _ _ _ pbk qbk _ _ _ _ _ _ _ _ _ _ HPB.out HQB.out (Dt.At.mono (fun _ _ => trivial) _ _ PA.out) (Dt.At.mono (fun _ _ => trivial) _ _ QA.out) hX
    · skip
      go_simp
      refine hK.out _ _ (hHeld.alloc hHeld.size _) (fun hHeld2 => ?_)
      clear hK K
      try simp only [List.getElem_toArray, List.getElem_cons_succ, List.getElem_cons_zero, Act.put, List.setIfInBounds_toArray, List.set_cons_zero, List.set_cons_succ]
      have hb := (Below.refl v1.heap.size v1).alloc (Nat.le_refl _) (.cells #[.int .i64 0, .string ⟨#[]⟩, .slice none 0 0, .slice none 0 0, .int .i64 0] 28)
      have hn := alloc_at v1 (.cells #[.int .i64 0, .string ⟨#[]⟩, .slice none 0 0, .slice none 0 0, .int .i64 0] 28)
      change Below W5.heap.size W5 (v1.alloc (.cells #[.int .i64 0, .string ⟨#[]⟩, .slice none 0 0, .slice none 0 0, .int .i64 0] 28)) at hHeld2
      have hne : v1.heap.size ≠ pbk := by have := (Array.getElem?_eq_some_iff.1 HPB.out).1; omega
      have hge := hHeld.size
      obtain ⟨qbk, hblk⟩ : ∃ x, x = v1.heap.size := ⟨_, rfl⟩
      have HPB' := Lib.hid (Below.row hb HPB.out)
      clear HPB; have HPB := HPB'; clear HPB'
      skip
      rw [← hblk] at hn ⊢
      rw [← hblk] at hne
      have hge2 : W5.heap.size ≤ qbk := by omega
      clear hb hge hblk
      generalize v1.alloc (.cells #[.int .i64 0, .string ⟨#[]⟩, .slice none 0 0, .slice none 0 0, .int .i64 0] 28) = v2 at hn hHeld2 HPB ⊢
      have HQB : Hid (v2.heap[qbk]? = some (.cells Z5 28 (0, 0))) := hn
      have GEqbk := Lib.hid hge2
      have NE := Lib.hid hne
      clear hne
      clear hn hge2 hHeld
      have hHeld := hHeld2
      clear hHeld2
      refine wpAnyH_ready (rs := [1]) (by kernel_rfl) (by simp) ?_
      refine (AllReadyH.cons rfl (fun K hK => ?_) AllReadyH.nil)
      go_simp
      refine (FP.out _ hHeld).mono ?_
      rintro e v3 ⟨c, rfl, hat, hb⟩
      obtain ⟨kp, tp, mvp, lvp, pp, rfl, oap, obp⟩ := At_form hat
      have hS := Below.trans hHeld (hb.mono hHeld.size)
      have hsz := hHeld.size
      have hlp := (Array.getElem?_eq_some_iff.1 HPB.out).1
      have hlq := (Array.getElem?_eq_some_iff.1 HQB.out).1
      have HPB' := Lib.hid (Below.row hb HPB.out)
      have HQB' := Lib.hid (Below.row hb HQB.out)
      clear HPB; have HPB := HPB'; clear HPB'
      clear HQB; have HQB := HQB'; clear HQB'
      have PA : Hid (Dt.At (fun x => W5.heap.size ≤ x ∧ x ≠ pbk ∧ x ≠ qbk) v3 daa.plain #[.int .i64 kp, .string tp, mvp, lvp, .int .i64 pp]) := Dt.At.mono (fun x (hx : v2.heap.size ≤ x) => ⟨by omega, by omega, by omega⟩) _ _ hat
      refine hK.out _ _ hS (fun hHeld => ?_)
      clear hK K hat hb hS hsz hlp hlq
      try simp only [List.getElem_toArray, List.getElem_cons_succ, List.getElem_cons_zero, Act.put, List.setIfInBounds_toArray, List.set_cons_zero, List.set_cons_succ]
      refine wpAnyH_ready (rs := [3]) (by kernel_rfl) (by simp) ?_
      refine (AllReadyH.cons rfl (fun K hK => ?_) AllReadyH.nil)
      go_simp
      refine (FQ.out _ hHeld).mono ?_
      rintro e v4 ⟨c, rfl, hat, hb⟩
      obtain ⟨kq, tq, mvq, lvq, pq, rfl, oaq, obq⟩ := At_form hat
      have hS := Below.trans hHeld (hb.mono hHeld.size)
      have hsz := hHeld.size
      have hlp := (Array.getElem?_eq_some_iff.1 HPB.out).1
      have hlq := (Array.getElem?_eq_some_iff.1 HQB.out).1
      have PA' := Lib.hid (Dt.At.keeps (Keeps.of_below hb) _ _ PA.out)
      have HPB' := Lib.hid (Below.row hb HPB.out)
      have HQB' := Lib.hid (Below.row hb HQB.out)
      clear PA; have PA := PA'; clear PA'
      clear HPB; have HPB := HPB'; clear HPB'
      clear HQB; have HQB := HQB'; clear HQB'
      have QA : Hid (Dt.At (fun x => W5.heap.size ≤ x ∧ x ≠ pbk ∧ x ≠ qbk) v4 daa.plain #[.int .i64 kq, .string tq, mvq, lvq, .int .i64 pq]) := Dt.At.mono (fun x (hx : v3.heap.size ≤ x) => ⟨by omega, by omega, by omega⟩) _ _ hat
      refine hK.out _ _ hS (fun hHeld => ?_)
      clear hK K hat hb hS hsz hlp hlq
      try simp only [List.getElem_toArray, List.getElem_cons_succ, List.getElem_cons_zero, Act.put, List.setIfInBounds_toArray, List.set_cons_zero, List.set_cons_succ]
      refine wpAnyH_ready (rs := [6]) (by kernel_rfl) (by simp) ?_
      refine (AllReadyH.cons rfl (fun K hK => ?_) AllReadyH.nil)
      rw [if_pos (by rfl)]
      have z1 : (#[.int .i64 kp, .string tp, mvp, lvp, .int .i64 pp] : Array Value).all (·.oneCell') = true := by simp [Value.oneCell'] at oap obp ⊢; exact ⟨oap, obp⟩
      refine wp_store_row 28 _ _ rfl pbk #[.int .i64 kp, .string tp, mvp, lvp, .int .i64 pp] rfl rfl 28 Z5 HPB.out info28 rfl z1 ?_
      have hS : Below W5.heap.size W5 (v4.setRow pbk #[.int .i64 kp, .string tp, mvp, lvp, .int .i64 pp]) := below_setRow hHeld _ _ GEpbk.out
      have HPB' := Lib.hid (setRow_heap v4 pbk _ #[.int .i64 kp, .string tp, mvp, lvp, .int .i64 pp] 28 _ HPB.out)
      have PA' := Lib.hid (Dt.At.keeps (w' := v4.setRow pbk #[.int .i64 kp, .string tp, mvp, lvp, .int .i64 pp]) (fun x c T fz hx hg _ => ⟨fz, by rw [setRow_other v4 _ x _ hx.2.1]; exact hg⟩) _ _ PA.out)
      have QA' := Lib.hid (Dt.At.keeps (w' := v4.setRow pbk #[.int .i64 kp, .string tp, mvp, lvp, .int .i64 pp]) (fun x c T fz hx hg _ => ⟨fz, by rw [setRow_other v4 _ x _ hx.2.1]; exact hg⟩) _ _ QA.out)
      have HQB' := Lib.hid (show (v4.setRow pbk #[.int .i64 kp, .string tp, mvp, lvp, .int .i64 pp]).heap[qbk]? = _ from (setRow_other v4 pbk qbk _ (fun e => NE.out (by omega))).trans HQB.out)
      refine hK.out _ _ hS (fun hHeld2 => ?_)
      clear hK K hS z1
      try simp only [List.getElem_toArray, List.getElem_cons_succ, List.getElem_cons_zero, Act.put, List.setIfInBounds_toArray, List.set_cons_zero, List.set_cons_succ]
      clear PA; have PA := PA'; clear PA'
      clear QA; have QA := QA'; clear QA'
      clear HPB; have HPB := HPB'; clear HPB'
      clear HQB; have HQB := HQB'; clear HQB'
      generalize v4.setRow pbk #[.int .i64 kp, .string tp, mvp, lvp, .int .i64 pp] = v5 at hHeld2 PA QA HPB HQB ⊢
      clear hHeld
      have hHeld := hHeld2
      clear hHeld2
      refine wpAnyH_ready (rs := [7]) (by kernel_rfl) (by simp) ?_
      refine (AllReadyH.cons rfl (fun K hK => ?_) AllReadyH.nil)
      rw [if_pos (by rfl)]
      have z1 : (#[.int .i64 kq, .string tq, mvq, lvq, .int .i64 pq] : Array Value).all (·.oneCell') = true := by simp [Value.oneCell'] at oaq obq ⊢; exact ⟨oaq, obq⟩
      refine wp_store_row 28 _ _ rfl qbk #[.int .i64 kq, .string tq, mvq, lvq, .int .i64 pq] rfl rfl 28 Z5 HQB.out info28 rfl z1 ?_
      have hS : Below W5.heap.size W5 (v5.setRow qbk #[.int .i64 kq, .string tq, mvq, lvq, .int .i64 pq]) := below_setRow hHeld _ _ GEqbk.out
      have HQB' := Lib.hid (setRow_heap v5 qbk _ #[.int .i64 kq, .string tq, mvq, lvq, .int .i64 pq] 28 _ HQB.out)
      have PA' := Lib.hid (Dt.At.keeps (w' := v5.setRow qbk #[.int .i64 kq, .string tq, mvq, lvq, .int .i64 pq]) (fun x c T fz hx hg _ => ⟨fz, by rw [setRow_other v5 _ x _ hx.2.2]; exact hg⟩) _ _ PA.out)
      have QA' := Lib.hid (Dt.At.keeps (w' := v5.setRow qbk #[.int .i64 kq, .string tq, mvq, lvq, .int .i64 pq]) (fun x c T fz hx hg _ => ⟨fz, by rw [setRow_other v5 _ x _ hx.2.2]; exact hg⟩) _ _ QA.out)
      have HPB' := Lib.hid (show (v5.setRow qbk #[.int .i64 kq, .string tq, mvq, lvq, .int .i64 pq]).heap[pbk]? = _ from (setRow_other v5 qbk pbk _ (fun e => NE.out (by omega))).trans HPB.out)
      refine hK.out _ _ hS (fun hHeld2 => ?_)
      clear hK K hS z1
      try simp only [List.getElem_toArray, List.getElem_cons_succ, List.getElem_cons_zero, Act.put, List.setIfInBounds_toArray, List.set_cons_zero, List.set_cons_succ]
      clear PA; have PA := PA'; clear PA'
      clear QA; have QA := QA'; clear QA'
      clear HPB; have HPB := HPB'; clear HPB'
      clear HQB; have HQB := HQB'; clear HQB'
      generalize v5.setRow qbk #[.int .i64 kq, .string tq, mvq, lvq, .int .i64 pq] = v6 at hHeld2 PA QA HPB HQB ⊢
      clear hHeld
      have hHeld := hHeld2
      clear hHeld2
      refine wpAnyH_done (by kernel_rfl) ?_ _
      refine NoPanic.normal ?_
      have hX := hHeld
      clear hHeld
      exact REST.out _ _ _ _ _ _ _ _ _ _ _ _ _ _ _ _ _ _ _ _ _ _ _ _ _ _ _ _ _ _ _ _ _ _ _ _ _ _ _ _ _ _ _ _ _ _ _ _ _ _ _ _ _ _ _ _ _ _ _ _ _ _ _ _ _ _ _ _ _ _ _ _ _ _ _ _ _ _ _ _ _ _ _ _ _ _ _ _ _ _ pbk qbk _ _ _ _ _ _ _ _ _ _ HPB.out HQB.out (Dt.At.mono (fun _ _ => trivial) _ _ PA.out) (Dt.At.mono (fun _ _ => trivial) _ _ QA.out) hX
  · skip
    go_simp
    refine hK.out _ _ (hHeld.alloc hHeld.size _) (fun hHeld2 => ?_)
    clear hK K
    try simp only [List.getElem_toArray, List.getElem_cons_succ, List.getElem_cons_zero, Act.put, List.setIfInBounds_toArray, List.set_cons_zero, List.set_cons_succ]
    have hb := (Below.refl v0.heap.size v0).alloc (Nat.le_refl _) (.cells #[.int .i64 0, .string ⟨#[]⟩, .slice none 0 0, .slice none 0 0, .int .i64 0] 28)
    have hn := alloc_at v0 (.cells #[.int .i64 0, .string ⟨#[]⟩, .slice none 0 0, .slice none 0 0, .int .i64 0] 28)
    change Below W5.heap.size W5 (v0.alloc (.cells #[.int .i64 0, .string ⟨#[]⟩, .slice none 0 0, .slice none 0 0, .int .i64 0] 28)) at hHeld2
    have hge := hHeld.size
    obtain ⟨qbk, hblk⟩ : ∃ x, x = v0.heap.size := ⟨_, rfl⟩
    skip
    rw [← hblk] at hn ⊢
    have hge2 : W5.heap.size ≤ qbk := by omega
    clear hb hge hblk
    generalize v0.alloc (.cells #[.int .i64 0, .string ⟨#[]⟩, .slice none 0 0, .slice none 0 0, .int .i64 0] 28) = v1 at hn hHeld2 ⊢
    have HQB : Hid (v1.heap[qbk]? = some (.cells Z5 28 (0, 0))) := hn
    have GEqbk := Lib.hid hge2
    clear hn hge2 hHeld
    have hHeld := hHeld2
    clear hHeld2
    refine wpAnyH_ready (rs := [1, 4]) (by kernel_rfl) (by simp) ?_
    refine (AllReadyH.cons rfl (fun K hK => ?_) (AllReadyH.cons rfl (fun K hK => ?_) AllReadyH.nil))
    · skip
      go_simp
      refine (FP.out _ hHeld).mono ?_
      rintro e v2 ⟨c, rfl, hat, hb⟩
      obtain ⟨kp, tp, mvp, lvp, pp, rfl, oap, obp⟩ := At_form hat
      have hS := Below.trans hHeld (hb.mono hHeld.size)
      have hsz := hHeld.size
      have hlq := (Array.getElem?_eq_some_iff.1 HQB.out).1
      have HQB' := Lib.hid (Below.row hb HQB.out)
      clear HQB; have HQB := HQB'; clear HQB'
      have PA : Hid (Dt.At (fun x => W5.heap.size ≤ x ∧ x ≠ qbk) v2 daa.plain #[.int .i64 kp, .string tp, mvp, lvp, .int .i64 pp]) := Dt.At.mono (fun x (hx : v1.heap.size ≤ x) => ⟨by omega, by omega⟩) _ _ hat
      refine hK.out _ _ hS (fun hHeld => ?_)
      clear hK K hat hb hS hsz hlq
      try simp only [List.getElem_toArray, List.getElem_cons_succ, List.getElem_cons_zero, Act.put, List.setIfInBounds_toArray, List.set_cons_zero, List.set_cons_succ]
      refine wpAnyH_ready (rs := [3, 4]) (by kernel_rfl) (by simp) ?_
      refine (AllReadyH.cons rfl (fun K hK => ?_) (AllReadyH.cons rfl (fun K hK => ?_) AllReadyH.nil))
      · skip
        go_simp
        refine (FQ.out _ hHeld).mono ?_
        rintro e v3 ⟨c, rfl, hat, hb⟩
        obtain ⟨kq, tq, mvq, lvq, pq, rfl, oaq, obq⟩ := At_form hat
        have hS := Below.trans hHeld (hb.mono hHeld.size)
        have hsz := hHeld.size
        have hlq := (Array.getElem?_eq_some_iff.1 HQB.out).1
        have PA' := Lib.hid (Dt.At.keeps (Keeps.of_below hb) _ _ PA.out)
        have HQB' := Lib.hid (Below.row hb HQB.out)
        clear PA; have PA := PA'; clear PA'
        clear HQB; have HQB := HQB'; clear HQB'
        have QA : Hid (Dt.At (fun x => W5.heap.size ≤ x ∧ x ≠ qbk) v3 daa.plain #[.int .i64 kq, .string tq, mvq, lvq, .int .i64 pq]) := Dt.At.mono (fun x (hx : v2.heap.size ≤ x) => ⟨by omega, by omega⟩) _ _ hat
        refine hK.out _ _ hS (fun hHeld => ?_)
        clear hK K hat hb hS hsz hlq
        try simp only [List.getElem_toArray, List.getElem_cons_succ, List.getElem_cons_zero, Act.put, List.setIfInBounds_toArray, List.set_cons_zero, List.set_cons_succ]
        refine wpAnyH_ready (rs := [4]) (by kernel_rfl) (by simp) ?_
        refine (AllReadyH.cons rfl (fun K hK => ?_) AllReadyH.nil)
        go_simp
        refine hK.out _ _ (hHeld.alloc hHeld.size _) (fun hHeld2 => ?_)
        clear hK K
        try simp only [List.getElem_toArray, List.getElem_cons_succ, List.getElem_cons_zero, Act.put, List.setIfInBounds_toArray, List.set_cons_zero, List.set_cons_succ]
        have hb := (Below.refl v3.heap.size v3).alloc (Nat.le_refl _) (.cells #[.int .i64 0, .string ⟨#[]⟩, .slice none 0 0, .slice none 0 0, .int .i64 0] 28)
        have hn := alloc_at v3 (.cells #[.int .i64 0, .string ⟨#[]⟩, .slice none 0 0, .slice none 0 0, .int .i64 0] 28)
        change Below W5.heap.size W5 (v3.alloc (.cells #[.int .i64 0, .string ⟨#[]⟩, .slice none 0 0, .slice none 0 0, .int .i64 0] 28)) at hHeld2
        have PAb := Dt.At.bound _ _ PA.out
        have QAb := Dt.At.bound _ _ QA.out
        have hne : v3.heap.size ≠ qbk := by have := (Array.getElem?_eq_some_iff.1 HQB.out).1; omega
        have hge := hHeld.size
        obtain ⟨pbk, hblk⟩ : ∃ x, x = v3.heap.size := ⟨_, rfl⟩
        have PA' : Hid (Dt.At (fun x => W5.heap.size ≤ x ∧ x ≠ pbk ∧ x ≠ qbk) (v3.alloc (.cells #[.int .i64 0, .string ⟨#[]⟩, .slice none 0 0, .slice none 0 0, .int .i64 0] 28)) daa.plain #[.int .i64 kp, .string tp, mvp, lvp, .int .i64 pp]) := Dt.At.mono (fun x hx => ⟨hx.1.1, (by have := hx.2; omega), hx.1.2⟩) _ _ (Dt.At.keeps (Keeps.of_below hb) _ _ PAb)
        have QA' : Hid (Dt.At (fun x => W5.heap.size ≤ x ∧ x ≠ pbk ∧ x ≠ qbk) (v3.alloc (.cells #[.int .i64 0, .string ⟨#[]⟩, .slice none 0 0, .slice none 0 0, .int .i64 0] 28)) daa.plain #[.int .i64 kq, .string tq, mvq, lvq, .int .i64 pq]) := Dt.At.mono (fun x hx => ⟨hx.1.1, (by have := hx.2; omega), hx.1.2⟩) _ _ (Dt.At.keeps (Keeps.of_below hb) _ _ QAb)
        have HQB' := Lib.hid (Below.row hb HQB.out)
        clear PA; have PA := PA'; clear PA'
        clear QA; have QA := QA'; clear QA'
        clear HQB; have HQB := HQB'; clear HQB'
        skip
        rw [← hblk] at hn ⊢
        rw [← hblk] at hne
        have hge2 : W5.heap.size ≤ pbk := by omega
        clear hb hge hblk PAb QAb
        generalize v3.alloc (.cells #[.int .i64 0, .string ⟨#[]⟩, .slice none 0 0, .slice none 0 0, .int .i64 0] 28) = v4 at hn hHeld2 PA QA HQB ⊢
        have HPB : Hid (v4.heap[pbk]? = some (.cells Z5 28 (0, 0))) := hn
        have GEpbk := Lib.hid hge2
        have NE := Lib.hid hne
        clear hne
        clear hn hge2 hHeld
        have hHeld := hHeld2
        clear hHeld2
        refine wpAnyH_ready (rs := [6]) (by kernel_rfl) (by simp) ?_
        refine (AllReadyH.cons rfl (fun K hK => ?_) AllReadyH.nil)
        rw [if_pos (by rfl)]
        have z1 : (#[.int .i64 kp, .string tp, mvp, lvp, .int .i64 pp] : Array Value).all (·.oneCell') = true := by simp [Value.oneCell'] at oap obp ⊢; exact ⟨oap, obp⟩
        refine wp_store_row 28 _ _ rfl pbk #[.int .i64 kp, .string tp, mvp, lvp, .int .i64 pp] rfl rfl 28 Z5 HPB.out info28 rfl z1 ?_
        have hS : Below W5.heap.size W5 (v4.setRow pbk #[.int .i64 kp, .string tp, mvp, lvp, .int .i64 pp]) := below_setRow hHeld _ _ GEpbk.out
        have HPB' := Lib.hid (setRow_heap v4 pbk _ #[.int .i64 kp, .string tp, mvp, lvp, .int .i64 pp] 28 _ HPB.out)
        have PA' := Lib.hid (Dt.At.keeps (w' := v4.setRow pbk #[.int .i64 kp, .string tp, mvp, lvp, .int .i64 pp]) (fun x c T fz hx hg _ => ⟨fz, by rw [setRow_other v4 _ x _ hx.2.1]; exact hg⟩) _ _ PA.out)
        have QA' := Lib.hid (Dt.At.keeps (w' := v4.setRow pbk #[.int .i64 kp, .string tp, mvp, lvp, .int .i64 pp]) (fun x c T fz hx hg _ => ⟨fz, by rw [setRow_other v4 _ x _ hx.2.1]; exact hg⟩) _ _ QA.out)
        have HQB' := Lib.hid (show (v4.setRow pbk #[.int .i64 kp, .string tp, mvp, lvp, .int .i64 pp]).heap[qbk]? = _ from (setRow_other v4 pbk qbk _ (fun e => NE.out (by omega))).trans HQB.out)
        refine hK.out _ _ hS (fun hHeld2 => ?_)
        clear hK K hS z1
        try simp only [List.getElem_toArray, List.getElem_cons_succ, List.getElem_cons_zero, Act.put, List.setIfInBounds_toArray, List.set_cons_zero, List.set_cons_succ]
        clear PA; have PA := PA'; clear PA'
        clear QA; have QA := QA'; clear QA'
        clear HPB; have HPB := HPB'; clear HPB'
        clear HQB; have HQB := HQB'; clear HQB'
        generalize v4.setRow pbk #[.int .i64 kp, .string tp, mvp, lvp, .int .i64 pp] = v5 at hHeld2 PA QA HPB HQB ⊢
        clear hHeld
        have hHeld := hHeld2
        clear hHeld2
        refine wpAnyH_ready (rs := [7]) (by kernel_rfl) (by simp) ?_
        refine (AllReadyH.cons rfl (fun K hK => ?_) AllReadyH.nil)
        rw [if_pos (by rfl)]
        have z1 : (#[.int .i64 kq, .string tq, mvq, lvq, .int .i64 pq] : Array Value).all (·.oneCell') = true := by simp [Value.oneCell'] at oaq obq ⊢; exact ⟨oaq, obq⟩
        refine wp_store_row 28 _ _ rfl qbk #[.int .i64 kq, .string tq, mvq, lvq, .int .i64 pq] rfl rfl 28 Z5 HQB.out info28 rfl z1 ?_
        have hS : Below W5.heap.size W5 (v5.setRow qbk #[.int .i64 kq, .string tq, mvq, lvq, .int .i64 pq]) := below_setRow hHeld _ _ GEqbk.out
        have HQB' := Lib.hid (setRow_heap v5 qbk _ #[.int .i64 kq, .string tq, mvq, lvq, .int .i64 pq] 28 _ HQB.out)
        have PA' := Lib.hid (Dt.At.keeps (w' := v5.setRow qbk #[.int .i64 kq, .string tq, mvq, lvq, .int .i64 pq]) (fun x c T fz hx hg _ => ⟨fz, by rw [setRow_other v5 _ x _ hx.2.2]; exact hg⟩) _ _ PA.out)
        have QA' := Lib.hid (Dt.At.keeps (w' := v5.setRow qbk #[.int .i64 kq, .string tq, mvq, lvq, .int .i64 pq]) (fun x c T fz hx hg _ => ⟨fz, by rw [setRow_other v5 _ x _ hx.2.2]; exact hg⟩) _ _ QA.out)
        have HPB' := Lib.hid (show (v5.setRow qbk #[.int .i64 kq, .string tq, mvq, lvq, .int .i64 pq]).heap[pbk]? = _ from (setRow_other v5 qbk pbk _ (fun e => NE.out (by omega))).trans HPB.out)
        refine hK.out _ _ hS (fun hHeld2 => ?_)
        clear hK K hS z1
        try simp only [List.getElem_toArray, List.getElem_cons_succ, List.getElem_cons_zero, Act.put, List.setIfInBounds_toArray, List.set_cons_zero, List.set_cons_succ]
        clear PA; have PA := PA'; clear PA'
        clear QA; have QA := QA'; clear QA'
        clear HPB; have HPB := HPB'; clear HPB'
        clear HQB; have HQB := HQB'; clear HQB'
        generalize v5.setRow qbk #[.int .i64 kq, .string tq, mvq, lvq, .int .i64 pq] = v6 at hHeld2 PA QA HPB HQB ⊢
        clear hHeld
        have hHeld := hHeld2
        clear hHeld2
        refine wpAnyH_done (by kernel_rfl) ?_ _
        refine NoPanic.normal ?_
        have hX := hHeld
        clear hHeld
        exact REST.out _ _ _ _ _ _ _ _ _ _ _ _ _ _ _ _ _ _ _ _ _ _ _ _ _ _ _ _ _ _ _ _ _ _ _ _ _ _ _ _ _ _ _ _ _ _ _ _ _ _ _ _ _ _ _ _ _ _ _ _ _ _ _ _ _ _ _ _ _ _ _ _ _ _ _ _ _ _ _ _ _ _ _ _ _ _ _ _ _ _ pbk qbk _ _ _ _ _ _ _ _ _ _ HPB.out HQB.out (Dt.At.mono (fun _ _ => trivial) _ _ PA.out) (Dt.At.mono (fun _ _ => trivial) _ _ QA.out) hX
      · skip
        go_simp
        refine hK.out _ _ (hHeld.alloc hHeld.size _) (fun hHeld2 => ?_)
        clear hK K
        try simp only [List.getElem_toArray, List.getElem_cons_succ, List.getElem_cons_zero, Act.put, List.setIfInBounds_toArray, List.set_cons_zero, List.set_cons_succ]
        have hb := (Below.refl v2.heap.size v2).alloc (Nat.le_refl _) (.cells #[.int .i64 0, .string ⟨#[]⟩, .slice none 0 0, .slice none 0 0, .int .i64 0] 28)
        have hn := alloc_at v2 (.cells #[.int .i64 0, .string ⟨#[]⟩, .slice none 0 0, .slice none 0 0, .int .i64 0] 28)
        change Below W5.heap.size W5 (v2.alloc (.cells #[.int .i64 0, .string ⟨#[]⟩, .slice none 0 0, .slice none 0 0, .int .i64 0] 28)) at hHeld2
        have PAb := Dt.At.bound _ _ PA.out
        have hne : v2.heap.size ≠ qbk := by have := (Array.getElem?_eq_some_iff.1 HQB.out).1; omega
        have hge := hHeld.size
        obtain ⟨pbk, hblk⟩ : ∃ x, x = v2.heap.size := ⟨_, rfl⟩
        have PA' : Hid (Dt.At (fun x => W5.heap.size ≤ x ∧ x ≠ pbk ∧ x ≠ qbk) (v2.alloc (.cells #[.int .i64 0, .string ⟨#[]⟩, .slice none 0 0, .slice none 0 0, .int .i64 0] 28)) daa.plain #[.int .i64 kp, .string tp, mvp, lvp, .int .i64 pp]) := Dt.At.mono (fun x hx => ⟨hx.1.1, (by have := hx.2; omega), hx.1.2⟩) _ _ (Dt.At.keeps (Keeps.of_below hb) _ _ PAb)
        have HQB' := Lib.hid (Below.row hb HQB.out)
        clear PA; have PA := PA'; clear PA'
        clear HQB; have HQB := HQB'; clear HQB'
        skip
        rw [← hblk] at hn ⊢
        rw [← hblk] at hne
        have hge2 : W5.heap.size ≤ pbk := by omega
        clear hb hge hblk PAb
        generalize v2.alloc (.cells #[.int .i64 0, .string ⟨#[]⟩, .slice none 0 0, .slice none 0 0, .int .i64 0] 28) = v3 at hn hHeld2 PA HQB ⊢
        have HPB : Hid (v3.heap[pbk]? = some (.cells Z5 28 (0, 0))) := hn
        have GEpbk := Lib.hid hge2
        have NE := Lib.hid hne
        clear hne
        clear hn hge2 hHeld
        have hHeld := hHeld2
        clear hHeld2
        refine wpAnyH_ready (rs := [3]) (by kernel_rfl) (by simp) ?_
        refine (AllReadyH.cons rfl (fun K hK => ?_) AllReadyH.nil)
        go_simp
        refine (FQ.out _ hHeld).mono ?_
        rintro e v4 ⟨c, rfl, hat, hb⟩
        obtain ⟨kq, tq, mvq, lvq, pq, rfl, oaq, obq⟩ := At_form hat
        have hS := Below.trans hHeld (hb.mono hHeld.size)
        have hsz := hHeld.size
        have hlp := (Array.getElem?_eq_some_iff.1 HPB.out).1
        have hlq := (Array.getElem?_eq_some_iff.1 HQB.out).1
        have PA' := Lib.hid (Dt.At.keeps (Keeps.of_below hb) _ _ PA.out)
        have HPB' := Lib.hid (Below.row hb HPB.out)
        have HQB' := Lib.hid (Below.row hb HQB.out)
        clear PA; have PA := PA'; clear PA'
        clear HPB; have HPB := HPB'; clear HPB'
        clear HQB; have HQB := HQB'; clear HQB'
        have QA : Hid (Dt.At (fun x => W5.heap.size ≤ x ∧ x ≠ pbk ∧ x ≠ qbk) v4 daa.plain #[.int .i64 kq, .string tq, mvq, lvq, .int .i64 pq]) := Dt.At.mono (fun x (hx : v3.heap.size ≤ x) => ⟨by omega, by omega, by omega⟩) _ _ hat
        refine hK.out _ _ hS (fun hHeld => ?_)
        clear hK K hat hb hS hsz hlp hlq
        try simp only [List.getElem_toArray, List.getElem_cons_succ, List.getElem_cons_zero, Act.put, List.setIfInBounds_toArray, List.set_cons_zero, List.set_cons_succ]
        refine wpAnyH_ready (rs := [6]) (by kernel_rfl) (by simp) ?_
        refine (AllReadyH.cons rfl (fun K hK => ?_) AllReadyH.nil)
        rw [if_pos (by rfl)]
        have z1 : (#[.int .i64 kp, .string tp, mvp, lvp, .int .i64 pp] : Array Value).all (·.oneCell') = true := by simp [Value.oneCell'] at oap obp ⊢; exact ⟨oap, obp⟩
        refine wp_store_row 28 _ _ rfl pbk #[.int .i64 kp, .string tp, mvp, lvp, .int .i64 pp] rfl rfl 28 Z5 HPB.out info28 rfl z1 ?_
        have hS : Below W5.heap.size W5 (v4.setRow pbk #[.int .i64 kp, .string tp, mvp, lvp, .int .i64 pp]) := below_setRow hHeld _ _ GEpbk.out
        have HPB' := Lib.hid (setRow_heap v4 pbk _ #[.int .i64 kp, .string tp, mvp, lvp, .int .i64 pp] 28 _ HPB.out)
        have PA' := Lib.hid (Dt.At.keeps (w' := v4.setRow pbk #[.int .i64 kp, .string tp, mvp, lvp, .int .i64 pp]) (fun x c T fz hx hg _ => ⟨fz, by rw [setRow_other v4 _ x _ hx.2.1]; exact hg⟩) _ _ PA.out)
        have QA' := Lib.hid (Dt.At.keeps (w' := v4.setRow pbk #[.int .i64 kp, .string tp, mvp, lvp, .int .i64 pp]) (fun x c T fz hx hg _ => ⟨fz, by rw [setRow_other v4 _ x _ hx.2.1]; exact hg⟩) _ _ QA.out)
        have HQB' := Lib.hid (show (v4.setRow pbk #[.int .i64 kp, .string tp, mvp, lvp, .int .i64 pp]).heap[qbk]? = _ from (setRow_other v4 pbk qbk _ (fun e => NE.out (by omega))).trans HQB.out)
        refine hK.out _ _ hS (fun hHeld2 => ?_)
        clear hK K hS z1
        try simp only [List.getElem_toArray, List.getElem_cons_succ, List.getElem_cons_zero, Act.put, List.setIfInBounds_toArray, List.set_cons_zero, List.set_cons_succ]
        clear PA; have PA := PA'; clear PA'
        clear QA; have QA := QA'; clear QA'
        clear HPB; have HPB := HPB'; clear HPB'
        clear HQB; have HQB := HQB'; clear HQB'
        generalize v4.setRow pbk #[.int .i64 kp, .string tp, mvp, lvp, .int .i64 pp] = v5 at hHeld2 PA QA HPB HQB ⊢
        clear hHeld
        have hHeld := hHeld2
        clear hHeld2
        refine wpAnyH_ready (rs := [7]) (by kernel_rfl) (by simp) ?_
        refine (AllReadyH.cons rfl (fun K hK => ?_) AllReadyH.nil)
        rw [if_pos (by rfl)]
        have z1 : (#[.int .i64 kq, .string tq, mvq, lvq, .int .i64 pq] : Array Value).all (·.oneCell') = true := by simp [Value.oneCell'] at oaq obq ⊢; exact ⟨oaq, obq⟩
        refine wp_store_row 28 _ _ rfl qbk #[.int .i64 kq, .string tq, mvq, lvq, .int .i64 pq] rfl rfl 28 Z5 HQB.out info28 rfl z1 ?_
        have hS : Below W5.heap.size W5 (v5.setRow qbk #[.int .i64 kq, .string tq, mvq, lvq, .int .i64 pq]) := below_setRow hHeld _ _ GEqbk.out
        have HQB' := Lib.hid (setRow_heap v5 qbk _ #[.int .i64 kq, .string tq, mvq, lvq, .int .i64 pq] 28 _ HQB.out)
        have PA' := Lib.hid (Dt.At.keeps (w' := v5.setRow qbk #[.int .i64 kq, .string tq, mvq, lvq, .int .i64 pq]) (fun x c T fz hx hg _ => ⟨fz, by rw [setRow_other v5 _ x _ hx.2.2]; exact hg⟩) _ _ PA.out)
        have QA' := Lib.hid (Dt.At.keeps (w' := v5.setRow qbk #[.int .i64 kq, .string tq, mvq, lvq, .int .i64 pq]) (fun x c T fz hx hg _ => ⟨fz, by rw [setRow_other v5 _ x _ hx.2.2]; exact hg⟩) _ _ QA.out)
        have HPB' := Lib.hid (show (v5.setRow qbk #[.int .i64 kq, .string tq, mvq, lvq, .int .i64 pq]).heap[pbk]? = _ from (setRow_other v5 qbk pbk _ (fun e => NE.out (by omega))).trans HPB.out)
        refine hK.out _ _ hS (fun hHeld2 => ?_)
        clear hK K hS z1
        try simp only [List.getElem_toArray, List.getElem_cons_succ, List.getElem_cons_zero, Act.put, List.setIfInBounds_toArray, List.set_cons_zero, List.set_cons_succ]
        clear PA; have PA := PA'; clear PA'
        clear QA; have QA := QA'; clear QA'
        clear HPB; have HPB := HPB'; clear HPB'
        clear HQB; have HQB := HQB'; clear HQB'
        generalize v5.setRow qbk #[.int .i64 kq, .string tq, mvq, lvq, .int .i64 pq] = v6 at hHeld2 PA QA HPB HQB ⊢
        clear hHeld
        have hHeld := hHeld2
        clear hHeld2
        refine wpAnyH_done (by kernel_rfl) ?_ _
        refine NoPanic.normal ?_
        have hX := hHeld
        clear hHeld
        exact REST.out _ _ _ _ _ _ _ _ _ _ _ _ _ _ _ _ _ _ _ _ _ _ _ _ _ _ _ _ _ _ _ _ _ _ _ _ _ _ _ _ _ _ _ _ _ _ _ _ _ _ _ _ _ _ _ _ _ _ _ _ _ _ _ _ _ _ _ _ _ _ _ _ _ _ _ _ _ _ _ _ _ _ _ _ _ _ _ _ _ _ pbk qbk _ _ _ _ _ _ _ _ _ _ HPB.out HQB.out (Dt.At.mono (fun _ _ => trivial) _ _ PA.out) (Dt.At.mono (fun _ _ => trivial) _ _ QA.out) hX
    · skip
      go_simp
      refine hK.out _ _ (hHeld.alloc hHeld.size _) (fun hHeld2 => ?_)
      clear hK K
      try simp only [List.getElem_toArray, List.getElem_cons_succ, List.getElem_cons_zero, Act.put, List.setIfInBounds_toArray, List.set_cons_zero, List.set_cons_succ]
      have hb := (Below.refl v1.heap.size v1).alloc (Nat.le_refl _) (.cells #[.int .i64 0, .string ⟨#[]⟩, .slice none 0 0, .slice none 0 0, .int .i64 0] 28)
      have hn := alloc_at v1 (.cells #[.int .i64 0, .string ⟨#[]⟩, .slice none 0 0, .slice none 0 0, .int .i64 0] 28)
      change Below W5.heap.size W5 (v1.alloc (.cells #[.int .i64 0, .string ⟨#[]⟩, .slice none 0 0, .slice none 0 0, .int .i64 0] 28)) at hHeld2
      have hne : v1.heap.size ≠ qbk := by have := (Array.getElem?_eq_some_iff.1 HQB.out).1; omega
      have hge := hHeld.size
      obtain ⟨pbk, hblk⟩ : ∃ x, x = v1.heap.size := ⟨_, rfl⟩
      have HQB' := Lib.hid (Below.row hb HQB.out)
      clear HQB; have HQB := HQB'; clear HQB'
      skip
      rw [← hblk] at hn ⊢
      rw [← hblk] at hne
      have hge2 : W5.heap.size ≤ pbk := by omega
      clear hb hge hblk
      generalize v1.alloc (.cells #[.int .i64 0, .string ⟨#[]⟩, .slice none 0 0, .slice none 0 0, .int .i64 0] 28) = v2 at hn hHeld2 HQB ⊢
      have HPB : Hid (v2.heap[pbk]? = some (.cells Z5 28 (0, 0))) := hn
      have GEpbk := Lib.hid hge2
      have NE := Lib.hid hne
      clear hne
      clear hn hge2 hHeld
      have hHeld := hHeld2
      clear hHeld2
      refine wpAnyH_ready (rs := [1]) (by kernel_rfl) (by simp) ?_
      refine (AllReadyH.cons rfl (fun K hK => ?_) AllReadyH.nil)
      go_simp
      refine (FP.out _ hHeld).mono ?_
      rintro e v3 ⟨c, rfl, hat, hb⟩
      obtain ⟨kp, tp, mvp, lvp, pp, rfl, oap, obp⟩ := At_form hat
      have hS := Below.trans hHeld (hb.mono hHeld.size)
      have hsz := hHeld.size
      have hlp := (Array.getElem?_eq_some_iff.1 HPB.out).1
      have hlq := (Array.getElem?_eq_some_iff.1 HQB.out).1
      have HPB' := Lib.hid (Below.row hb HPB.out)
      have HQB' := Lib.hid (Below.row hb HQB.out)
      clear HPB; have HPB := HPB'; clear HPB'
      clear HQB; have HQB := HQB'; clear HQB'
      have PA : Hid (Dt.At (fun x => W5.heap.size ≤ x ∧ x ≠ pbk ∧ x ≠ qbk) v3 daa.plain #[.int .i64 kp, .string tp, mvp, lvp, .int .i64 pp]) := Dt.At.mono (fun x (hx : v2.heap.size ≤ x) => ⟨by omega, by omega, by omega⟩) _ _ hat
      refine hK.out _ _ hS (fun hHeld => ?_)
      clear hK K hat hb hS hsz hlp hlq
      try simp only [List.getElem_toArray, List.getElem_cons_succ, List.getElem_cons_zero, Act.put, List.setIfInBounds_toArray, List.set_cons_zero, List.set_cons_succ]
      refine wpAnyH_ready (rs := [3]) (by kernel_rfl) (by simp) ?_
      refine (AllReadyH.cons rfl (fun K hK => ?_) AllReadyH.nil)
      go_simp
      refine (FQ.out _ hHeld).mono ?_
      rintro e v4 ⟨c, rfl, hat, hb⟩
      obtain ⟨kq, tq, mvq, lvq, pq, rfl, oaq, obq⟩ := At_form hat
      have hS := Below.trans hHeld (hb.mono hHeld.size)
      have hsz := hHeld.size
      have hlp := (Array.getElem?_eq_some_iff.1 HPB.out).1
      have hlq := (Array.getElem?_eq_some_iff.1 HQB.out).1
      have PA' := Lib.hid (Dt.At.keeps (Keeps.of_below hb) _ _ PA.out)
      have HPB' := Lib.hid (Below.row hb HPB.out)
      have HQB' := Lib.hid (Below.row hb HQB.out)
      clear PA; have PA := PA'; clear PA'
      clear HPB; have HPB := HPB'; clear HPB'
      clear HQB; have HQB := HQB'; clear HQB'
      have QA : Hid (Dt.At (fun x => W5.heap.size ≤ x ∧ x ≠ pbk ∧ x ≠ qbk) v4 daa.plain #[.int .i64 kq, .string tq, mvq, lvq, .int .i64 pq]) := Dt.At.mono (fun x (hx : v3.heap.size ≤ x) => ⟨by omega, by omega, by omega⟩) _ _ hat
      refine hK.out _ _ hS (fun hHeld => ?_)
      clear hK K hat hb hS hsz hlp hlq
      try simp only [List.getElem_toArray, List.getElem_cons_succ, List.getElem_cons_zero, Act.put, List.setIfInBounds_toArray, List.set_cons_zero, List.set_cons_succ]
      refine wpAnyH_ready (rs := [6]) (by kernel_rfl) (by simp) ?_
      refine (AllReadyH.cons rfl (fun K hK => ?_) AllReadyH.nil)
      rw [if_pos (by rfl)]
      have z1 : (#[.int .i64 kp, .string tp, mvp, lvp, .int .i64 pp] : Array Value).all (·.oneCell') = true := by simp [Value.oneCell'] at oap obp ⊢; exact ⟨oap, obp⟩
      refine wp_store_row 28 _ _ rfl pbk #[.int .i64 kp, .string tp, mvp, lvp, .int .i64 pp] rfl rfl 28 Z5 HPB.out info28 rfl z1 ?_
      have hS : Below W5.heap.size W5 (v4.setRow pbk #[.int .i64 kp, .string tp, mvp, lvp, .int .i64 pp]) := below_setRow hHeld _ _ GEpbk.out
      have HPB' := Lib.hid (setRow_heap v4 pbk _ #[.int .i64 kp, .string tp, mvp, lvp, .int .i64 pp] 28 _ HPB.out)
      have PA' := Lib.hid (Dt.At.keeps (w' := v4.setRow pbk #[.int .i64 kp, .string tp, mvp, lvp, .int .i64 pp]) (fun x c T fz hx hg _ => ⟨fz, by rw [setRow_other v4 _ x _ hx.2.1]; exact hg⟩) _ _ PA.out)
      have QA' := Lib.hid (Dt.At.keeps (w' := v4.setRow pbk #[.int .i64 kp, .string tp, mvp, lvp, .int .i64 pp]) (fun x c T fz hx hg _ => ⟨fz, by rw [setRow_other v4 _ x _ hx.2.1]; exact hg⟩) _ _ QA.out)
      have HQB' := Lib.hid (show (v4.setRow pbk #[.int .i64 kp, .string tp, mvp, lvp, .int .i64 pp]).heap[qbk]? = _ from (setRow_other v4 pbk qbk _ (fun e => NE.out (by omega))).trans HQB.out)
      refine hK.out _ _ hS (fun hHeld2 => ?_)
      clear hK K hS z1
      try simp only [List.getElem_toArray, List.getElem_cons_succ, List.getElem_cons_zero, Act.put, List.setIfInBounds_toArray, List.set_cons_zero, List.set_cons_succ]
      clear PA; have PA := PA'; clear PA'
      clear QA; have QA := QA'; clear QA'
      clear HPB; have HPB := HPB'; clear HPB'
      clear HQB; have HQB := HQB'; clear HQB'
      generalize v4.setRow pbk #[.int .i64 kp, .string tp, mvp, lvp, .int .i64 pp] = v5 at hHeld2 PA QA HPB HQB ⊢
      clear hHeld
      have hHeld := hHeld2
      clear hHeld2
      refine wpAnyH_ready (rs := [7]) (by kernel_rfl) (by simp) ?_
      refine (AllReadyH.cons rfl (fun K hK => ?_) AllReadyH.nil)
      rw [if_pos (by rfl)]
      have z1 : (#[.int .i64 kq, .string tq, mvq, lvq, .int .i64 pq] : Array Value).all (·.oneCell') = true := by simp [Value.oneCell'] at oaq obq ⊢; exact ⟨oaq, obq⟩
      refine wp_store_row 28 _ _ rfl qbk #[.int .i64 kq, .string tq, mvq, lvq, .int .i64 pq] rfl rfl 28 Z5 HQB.out info28 rfl z1 ?_
      have hS : Below W5.heap.size W5 (v5.setRow qbk #[.int .i64 kq, .string tq, mvq, lvq, .int .i64 pq]) := below_setRow hHeld _ _ GEqbk.out
      have HQB' := Lib.hid (setRow_heap v5 qbk _ #[.int .i64 kq, .string tq, mvq, lvq, .int .i64 pq] 28 _ HQB.out)
      have PA' := Lib.hid (Dt.At.keeps (w' := v5.setRow qbk #[.int .i64 kq, .string tq, mvq, lvq, .int .i64 pq]) (fun x c T fz hx hg _ => ⟨fz, by rw [setRow_other v5 _ x _ hx.2.2]; exact hg⟩) _ _ PA.out)
      have QA' := Lib.hid (Dt.At.keeps (w' := v5.setRow qbk #[.int .i64 kq, .string tq, mvq, lvq, .int .i64 pq]) (fun x c T fz hx hg _ => ⟨fz, by rw [setRow_other v5 _ x _ hx.2.2]; exact hg⟩) _ _ QA.out)
      have HPB' := Lib.hid (show (v5.setRow qbk #[.int .i64 kq, .string tq, mvq, lvq, .int .i64 pq]).heap[pbk]? = _ from (setRow_other v5 qbk pbk _ (fun e => NE.out (by omega))).trans HPB.out)
      refine hK.out _ _ hS (fun hHeld2 => ?_)
      clear hK K hS z1
      try simp only [List.getElem_toArray, List.getElem_cons_succ, List.getElem_cons_zero, Act.put, List.setIfInBounds_toArray, List.set_cons_zero, List.set_cons_succ]
      clear PA; have PA := PA'; clear PA'
      clear QA; have QA := QA'; clear QA'
      clear HPB; have HPB := HPB'; clear HPB'
      clear HQB; have HQB := HQB'; clear HQB'
      generalize v5.setRow qbk #[.int .i64 kq, .string tq, mvq, lvq, .int .i64 pq] = v6 at hHeld2 PA QA HPB HQB ⊢
      clear hHeld
      have hHeld := hHeld2
      clear hHeld2
      refine wpAnyH_done (by kernel_rfl) ?_ _
      refine NoPanic.normal ?_
      have hX := hHeld
      clear hHeld
      exact REST.out _ _ _ _ _ _ _ _ _ _ _ _ _ _ _ _ _ _ _ _ _ _ _ _ _ _ _ _ _ _ _ _ _ _ _ _ _ _ _ _ _ _ _ _ _ _ _ _ _ _ _ _ _ _ _ _ _ _ _ _ _ _ _ _ _ _ _ _ _ _ _ _ _ _ _ _ _ _ _ _ _ _ _ _ _ _ _ _ _ _ pbk qbk _ _ _ _ _ _ _ _ _ _ HPB.out HQB.out (Dt.At.mono (fun _ _ => trivial) _ _ PA.out) (Dt.At.mono (fun _ _ => trivial) _ _ QA.out) hX
end Go.Proofs.Ytlkpddokmibkiaa
