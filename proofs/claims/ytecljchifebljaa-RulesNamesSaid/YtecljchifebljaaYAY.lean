/- Rules: the program's each, of patterns without dots. -/
import Derived.Test.YtecljchifebljaaYAA
import Derived.Test.YtecljchifebljaaYAX
import Derived.Test.YtecljchifebljaaYAB
import Derived.Deep.Slices
import Derived.Deep.Fields
import Derived.ChangeSame
import Derived.Below
set_option linter.unusedVariables false
set_option linter.unusedSimpArgs false
namespace Go.Proofs.Ytecljchifebljaa
open Go Go.RowKit
attribute [local go_sem] Oper.semAt_some
def EachC (n : Nat) : Prop := ∀ (ps ds : List Dt), Dt.sizes ps ≤ n → nods ps = true → wfs ps → ∀ (B bw : Nat) (ls : List ByteArray) (v pv dv : Value) (bs : List Bd) (w : World), B ≤ w.heap.size → LAt (fun g => g < B) w pv ps → LAt (fun g => g < B) w dv ds → WordsAt w bw ls → bw < B → OwnPI (fun g => g < B) B w v bs → bs.length + Dt.sizes ps ≤ 3000000 → (∀ d ∈ ds, d.size ≤ 1000000) → ds.length ≤ 1000000 →
 Calls Try.prog 90 #[.agg #[.map (some bw)], v, pv, dv] w (RetM B w v bs (Dt.sizes ps) (mBs ls ps ds))
theorem mBs_len (ls : List ByteArray) : ∀ (ps ds : List Dt), ps.length ≠ ds.length → mBs ls ps ds = none
 | [], [], h => absurd rfl h
 | p :: ps, d :: ds, h => by
  rw [mBs, mBs_len ls ps ds (fun e => h (by simp [e]))]
  cases p.mB ls d <;> rfl
 | [], d :: ds, _ => by unfold mBs; rfl
 | p :: ps, [], _ => by unfold mBs; rfl
theorem mBs_cons (ls : List ByteArray) (p d : Dt) (ps ds : List Dt) : mBs ls (p :: ps) (d :: ds) = match p.mB ls d with
  | none => none
  | some r => match mBs ls ps ds with
   | none => none
   | some r2 => some (r ++ r2) := by first | (rw [mBs]; done) | (rw [mBs]; rfl)
def EaInv (B bw : Nat) (ls : List ByteArray) (ps ds : List Dt) (bs : List Bd) (w : World) (v : Value) (v' isv iv : Value) (W : World) : Prop :=
 ∃ (i : Nat) (b : Bool) (bs' : List Bd), isv = .bool b ∧ iv = .int .i64 (i : Int) ∧ i ≤ ps.length ∧ OwnPI (fun g => g < B) B W v' bs' ∧ Grw w W v v' ∧ (∃ fz, W.heap[w.heap.size]? = some (Obj.cells #[.map (some bw)] 96 fz)) ∧ bs'.length + Dt.sizes (ps.drop i) ≤ bs.length + Dt.sizes ps ∧
  (b = true → ps.length = ds.length ∧ ∃ r0, bs' = bs ++ r0 ∧ mBs ls ps ds = (mBs ls (ps.drop i) (ds.drop i)).map (r0 ++ ·)) ∧ (b = false → mBs ls ps ds = none)
set_option maxHeartbeats 16000000 in
set_option maxRecDepth 100000 in
theorem each_of (n : Nat) (hn : n ≤ 1000000) (hM : MatchC n) : EachC n := by
 intro ps ds hsz hnod hwf B bw ls v pv dv bs w hBw hp hd hwds hbw hown hlen hds hdl
 have HM := Lib.hid hM
 have HP := Lib.hid hp
 have HD := Lib.hid hd
 have HW := Lib.hid hwds
 have HOWN := Lib.hid hown
 have HNOD := Lib.hid hnod
 have HWF := Lib.hid hwf
 have HDS := Lib.hid hds
 obtain ⟨po, pc, rfl⟩ := hp.form
 obtain ⟨dq, dc, rfl⟩ := hd.form
 have hpl := length_sizes ps
 obtain ⟨vo, vc, hvf⟩ := hown.form
 have HLOW := Lib.hid (fun x hx => (hown.low x hx).1)
 have hb0 : Below w.heap.size w (w.alloc (.cells #[.map (some bw)] 96)) := (Below.refl _ _).alloc (Nat.le_refl _) _
 have hx0 := alloc_at w (.cells #[.map (some bw)] 96)
 have hs0 : (w.alloc (.cells #[.map (some bw)] 96)).heap.size = w.heap.size + 1 := by simp
 have HI : Hid (∀ b : Bool, (b = true → ps.length = ds.length) → (b = false → ps.length ≠ ds.length) → EaInv B bw ls ps ds bs w v v (.bool b) (.int .i64 0) (w.alloc (.cells #[.map (some bw)] 96))) := by
  intro b h1 h2
  refine ⟨0, b, bs, rfl, rfl, Nat.zero_le _, hown.below hb0, Grw.of_below hb0 v, ⟨_, hx0⟩, by simp, fun h => ⟨h1 h, [], by simp, ?_⟩, fun h => mBs_len ls ps ds (h2 h)⟩
  simp only [List.drop_zero, List.nil_append]
  cases mBs ls ps ds <;> rfl
 subst hvf
 obtain ⟨nb0, hnb0⟩ : ∃ n, n = bs.length := ⟨_, rfl⟩
 rw [← hnb0] at HI HOWN HLOW ⊢
 have HNB0 := Lib.hid hnb0
 clear hnb0
 clear hM hp hd hwds hown hnod hwf hds hb0 hx0 hs0
 go_enter Try.func90, Try.ntmps90
 go_wp2_with fail
 obtain ⟨b0, qe⟩ : ∃ b : Bool, ((ps.length : Int) == (ds.length : Int)) = b := ⟨_, rfl⟩
 have H0 := Lib.hid (HI.out b0 (fun h => by rw [h, beq_iff_eq] at qe; omega) (fun h => by rw [h, beq_eq_false_iff_ne] at qe; omega))
 go_wp2_with fail
 go_loopw [1, 10, 11] (fun v' isv iv wr => EaInv B bw ls ps ds bs w (.slice vo nb0 vc) v' isv iv wr) (fun _ _ iv _ => ps.length - (intOf iv).toNat)
 case atStart => first | exact H0.out | (rw [qe]; exact H0.out)
 case round =>
  clear H0 qe
  obtain ⟨j, b, bs', rfl, rfl, hj, ho, hg, ⟨fz9, hx⟩, hlb, ht, hf⟩ := hrel
  have HO := Lib.hid ho
  have HG := Lib.hid hg
  have HX := Lib.hid hx
  have HT := Lib.hid ht
  have HF := Lib.hid hf
  obtain ⟨vo', vc', hvf⟩ := ho.form
  obtain ⟨nb', hnb'⟩ : ∃ n, n = bs'.length := ⟨_, rfl⟩
  rw [← hnb'] at hvf
  subst hvf
  have HNB' := Lib.hid hnb'
  have hlowv := Lib.hid (fun x hx => (ho.low x hx).1)
  have hsr := hg.1.size
  clear hnb' ho hg hx ht hf
  cases b with
  | false =>
   have HN := Lib.hid (HF.out rfl)
   go_wp2_with fail
   refine bodyPost_ret (results_tmp2 rfl _ _ _) rfl ?_
   exact ⟨_, bs', by rw [HN.out]; rfl, HO.out, HG.out, fun r h => (by rw [HN.out] at h; cases h), by omega⟩
  | true =>
   obtain ⟨hleq, r0, hr0, hrest⟩ := HT.out rfl
   by_cases hlt : j < ps.length
   ·have q1 : decide ((j : Int) < (ps.length : Int)) = true := decide_eq_true (by omega)
    have hBW : Below B w wr := HG.out.below hBw (fun x hx => HLOW.out x hx)
    have hlt2 : j < ds.length := by omega
    have HLEQ := Lib.hid hleq
    clear hleq
    obtain ⟨g, o, k, t, mv, lv, p, he, hS, _, hat, e0, e1, e2, e3, e4, o5, o6⟩ := (HP.out.keeps (keeps_low hBW)).get j hlt
    obtain ⟨g2, o2, k2, t2, mv2, lv2, p2, he2, hS2, _, hat2, e20, e21, e22, e23, e24, o25, o26⟩ := (HD.out.keeps (keeps_low hBW)).get j hlt2
    first | subst he | (simp only [Option.some.injEq, Addr.mk.injEq, and_true] at he; obtain ⟨rfl, rfl⟩ := he)
    first | subst he2 | (simp only [Option.some.injEq, Addr.mk.injEq, and_true] at he2; obtain ⟨rfl, rfl⟩ := he2)
    have hsj := size_get ps j hlt
    have hwj := wfs_get HWF.out j hlt
    have hnj := (nods_index ps HNOD.out j hlt).2
    have hdz := HDS.out ds[j] (List.getElem_mem hlt2)
    have hdr : Dt.sizes (ps.drop j) = (ps[j]).size + Dt.sizes (ps.drop (j + 1)) := by rw [List.drop_eq_getElem_cons hlt]; simp only [Dt.sizes]
    have hmc := mBs_cons ls ps[j] ds[j] (ps.drop (j + 1)) (ds.drop (j + 1))
    rw [← List.drop_eq_getElem_cons hlt, ← List.drop_eq_getElem_cons hlt2] at hmc
    rw [hmc] at hrest
    obtain ⟨pj, hpj⟩ : ∃ d, d = ps[j] := ⟨_, rfl⟩
    obtain ⟨dj, hdj⟩ : ∃ d, d = ds[j] := ⟨_, rfl⟩
    rw [← hpj, ← hdj] at hrest
    rw [← hpj] at hat hsj hwj hnj hdr
    rw [← hdj] at hat2 hdz
    have HREST := Lib.hid hrest
    have HR0 := Lib.hid hr0
    have HC : Hid (∀ w', KeepsB (fun g => g < B ∨ g = w.heap.size) wr w' → w'.cell? ⟨w.heap.size, 0, none⟩ = some (.map (some bw)) ∧ (w'.cell? ⟨g, o + j * 5, none⟩ = some (.int .i64 k) ∧ w'.cell? ⟨g, o + j * 5 + 1, none⟩ = some (.string t) ∧ w'.cell? ⟨g, o + j * 5 + 2, none⟩ = some mv ∧ w'.cell? ⟨g, o + j * 5 + 3, none⟩ = some lv ∧ w'.cell? ⟨g, o + j * 5 + 4, none⟩ = some (.int .i64 p)) ∧
      (w'.cell? ⟨g2, o2 + j * 5, none⟩ = some (.int .i64 k2) ∧ w'.cell? ⟨g2, o2 + j * 5 + 1, none⟩ = some (.string t2) ∧ w'.cell? ⟨g2, o2 + j * 5 + 2, none⟩ = some mv2 ∧ w'.cell? ⟨g2, o2 + j * 5 + 3, none⟩ = some lv2 ∧ w'.cell? ⟨g2, o2 + j * 5 + 4, none⟩ = some (.int .i64 p2))) := by
     intro w' h
     have c := h.cell (.inr rfl) (show wr.cell? ⟨w.heap.size, 0, none⟩ = some (.map (some bw)) by rw [Lib.cell_of_heap HX.out]; rfl)
     exact ⟨c, ⟨h.cell (.inl hS) e0, h.cell (.inl hS) e1, h.cell (.inl hS) e2, h.cell (.inl hS) e3, h.cell (.inl hS) e4⟩, h.cell (.inl hS2) e20, h.cell (.inl hS2) e21, h.cell (.inl hS2) e22, h.cell (.inl hS2) e23, h.cell (.inl hS2) e24⟩
    have HAT := Lib.hid hat
    have HAT2 := Lib.hid hat2
    have HWJ := Lib.hid hwj
    have HBW := Lib.hid hBW
    clear e0 e1 e2 e3 e4 e20 e21 e22 e23 e24 hS hS2 hat hat2 hpj hdj hmc hrest hr0 hwj hBW
    go_upto_region 5 with fail
    refine wp_region_noPanic ?_
    refine wp_region_held_drew (S := KeepsB (fun g => g < B ∨ g = w.heap.size) wr) (by kernel_rfl) (KeepsB.of_below ((Below.refl _ _).drew)) (fun hHeld => ?_)
    have hbd : Below wr.heap.size wr wr.drew := (Below.refl _ _).drew
    generalize wr.drew = V at hHeld hbd ⊢
    have HBD := Lib.hid hbd
    have hsd := hbd.size
    clear hbd
    refine qts [0, 1, 2, 3, 4, 5, 6, 7, 8, 9] hHeld ?_
    iterate 10 (refine qtc (v := ?_) rfl rfl (fun w' hw' => ?_) ?_; rotate_left; (focus ((obtain ⟨c0, ⟨e0, e1, e2, e3, e4⟩, e20, e21, e22, e23, e24⟩ := HC.out w' hw'; go_simp); try with_reducible rfl)); simp only [zt,zs,zz,Act.put,zi,zy,zx])
    refine qtn ?_
    simp only [zt,zs,zz,Act.put,zi,zy,zx,qzl,qzn,qza,Nat.reduceAdd,Nat.reduceSub]
    refine wpAnyH_ready (rs := [10]) (by kernel_rfl) (by simp) ?_
    refine (AllReadyH.cons rfl (fun K hK => ?_) AllReadyH.nil)
    go_simp
    refine (HM.out pj dj (by omega) hnj HWJ.out B bw ls _ _ _ bs' V (by omega) (Dt.At.keeps (Keeps.of_below HBD.out) _ _ HAT.out) (Dt.At.keeps (Keeps.of_below HBD.out) _ _ HAT2.out) ((HW.out.below HBW.out hbw).below HBD.out (by omega)) hbw (HO.out.below HBD.out) (by have := HNB'.out; omega) hdz).mono ?_
    rintro e w6 ⟨v6, bs6, rfl, ho6, hg6, hr6, hl6⟩
    have hS6 : KeepsB (fun g => g < B ∨ g = w.heap.size) wr w6 := KeepsB.trans hHeld (KeepsB.of_grown hg6.1 (fun g hs e => by have hlo := hlowv.out g e.symm; rcases hs with h | h; (· have : g < B := h; omega); subst h; exact (HO.out.ne_block HX.out (by decide)).elim (fun h => by rw [h] at e; cases e) (fun h => h e.symm)))
    have HO6 := Lib.hid ho6
    have HG6 := Lib.hid hg6
    have HR6 := Lib.hid hr6
    obtain ⟨vo6, vc6, hv6⟩ := ho6.form
    subst hv6
    have hX6 := hS6 _ _ _ _ (.inr rfl) HX.out
    clear ho6 hg6 hr6
    refine hK.out _ _ hS6 (fun hHeld => ?_)
    clear hK K
    try simp only [zt,zs,zz,Act.put,zi,zy,zx]
    refine qts [11, 12, 13, 14, 15] hHeld ?_
    iterate 5 (refine qtc (v := ?_) rfl rfl (fun w' hw' => ?_) ?_; rotate_left; (focus (go_simp; try with_reducible rfl)); simp only [zt,zs,zz,Act.put,zi,zy,zx])
    refine qtn ?_
    simp only [zt,zs,zz,Act.put,zi,zy,zx,qzl,qzn,qza,Nat.reduceAdd,Nat.reduceSub]
    refine wpAnyH_done (by kernel_rfl) ?_ _
    refine NoPanic.normal ?_
    clear hHeld
    obtain ⟨b6, hb6⟩ : ∃ b, b = (pj.mB ls dj).isSome := ⟨_, rfl⟩
    rw [← hb6]
    have HB6 := Lib.hid hb6
    obtain ⟨n6, hn6⟩ : ∃ n, n = bs6.length := ⟨_, rfl⟩
    rw [← hn6]
    rw [← hn6] at HO6 HG6
    have HN6 := Lib.hid hn6
    clear hb6 hn6
    go_wp2_with fail
    go_roundw
    case rel =>
     have hgw : Grw w w6 (.slice vo nb0 vc) (.slice vo6 n6 vc6) := (HG.out.trans (Grw.of_below HBD.out _)).trans HG6.out
     have hinv : EaInv B bw ls ps ds bs w (.slice vo nb0 vc) (.slice vo6 n6 vc6) (.bool b6) (.int .i64 ((j + 1 : Nat) : Int)) w6 := by
      refine ⟨j + 1, b6, bs6, rfl, rfl, by omega, HO6.out, hgw, hX6, by have := HN6.out; omega, fun h => ⟨HLEQ.out, ?_⟩, fun h => ?_⟩
      ·rw [HB6.out] at h
       obtain ⟨r, hr⟩ := Option.isSome_iff_exists.1 h
       refine ⟨r0 ++ r, by rw [HR6.out r hr, HR0.out, List.append_assoc], ?_⟩
       rw [HREST.out, hr]
       cases mBs ls (ps.drop (j + 1)) (ds.drop (j + 1)) <;> simp
      ·rw [HB6.out] at h
       rw [HREST.out, Option.isSome_eq_false_iff.1 h |> Option.isNone_iff_eq_none.1]
       rfl
     first | exact hinv | exact ⟨_, _, _, hinv, rfl, rfl, by go_num⟩ | exact ⟨_, _, _, hinv, rfl, rfl, rfl⟩
    case measure => simp [intOf]; omega
   ·obtain rfl : j = ps.length := by omega
    have q1 : decide ((ps.length : Int) < (ps.length : Int)) = false := decide_eq_false (by omega)
    have HR : Hid (mBs ls ps ds = some r0) := by
     show _ = _
     rw [hrest, List.drop_length, show ds.drop ps.length = [] from List.drop_eq_nil_of_le (by omega), show mBs ls [] [] = some [] by rw [mBs]]
     simp
    have HR0 := Lib.hid hr0
    clear hrest hr0
    go_wp2_with fail
    refine bodyPost_ret (results_tmp2 rfl _ _ _) rfl ?_
    exact ⟨_, bs', by rw [HR.out]; rfl, HO.out, HG.out, fun r h => (by rw [HR.out] at h; injection h with h; rw [← h]; exact HR0.out), by omega⟩
end Go.Proofs.Ytecljchifebljaa
namespace Go.Proofs.Ytecljchifebljaa
open Go Go.RowKit
set_option maxHeartbeats 8000000 in
set_option maxRecDepth 100000 in
theorem list_of (n : Nat) (hn : n ≤ 1000000) (hE : EachC n) : ListC n := by
 intro ps ds hsz hnod hwf B bw ls v pv dv bs w hBw hp hd hwds hbw hown hlen hds hdl
 have hpl := length_sizes ps
 have hb0 : Below w.heap.size w (w.alloc (.cells #[.map (some bw)] 96)) := (Below.refl _ _).alloc (Nat.le_refl _) _
 have hx0 := alloc_at w (.cells #[.map (some bw)] 96)
 have hs0 : (w.alloc (.cells #[.map (some bw)] 96)).heap.size = w.heap.size + 1 := by simp
 have FI := Lib.hid (index_any ps pv (w.alloc (.cells #[.map (some bw)] 96)) (hp.keeps (Keeps.of_below hb0)) (by omega))
 rw [ixD_nods ps hnod] at FI
 have FE := Lib.hid (fun (W : World) (hW : Below w.heap.size w W) => hE ps ds hsz hnod hwf B bw ls v pv dv bs W (by have := hW.size; omega) (hp.keeps (Keeps.of_below hW)) (hd.keeps (Keeps.of_below hW)) (hwds.below hW hwds.lt) hbw (hown.below hW) hlen hds hdl)
 obtain ⟨po, pc, rfl⟩ := hp.form
 obtain ⟨dq, dc, rfl⟩ := hd.form
 obtain ⟨vo, vc, rfl⟩ := hown.form
 obtain ⟨nb0, hnb0⟩ : ∃ n, n = bs.length := ⟨_, rfl⟩
 rw [← hnb0] at FE ⊢
 obtain ⟨np, hnp⟩ : ∃ n, n = ps.length := ⟨_, rfl⟩
 rw [← hnp] at FE FI ⊢
 have HB0 := Lib.hid hb0
 have HX0 := Lib.hid hx0
 clear hb0 hx0 hp hd hwds hown hds hwf hnod hE hnb0 hnp hpl hsz hlen
 go_enter Try.func78, Try.ntmps78
 go_wp2_with fail
 refine FI.out.mono ?_
 rintro e w2 ⟨rfl, hb2⟩
 have hx2 := (hb2.block _ (by omega)).trans HX0.out
 have y0 : w2.cell? ⟨w.heap.size, 0, none⟩ = some (.map (some bw)) := by rw [Lib.cell_of_heap hx2]; rfl
 have HB2 := Lib.hid (HB0.out.trans (hb2.mono (by omega)))
 clear hb2 hx2 FI
 go_wp2_with fail
 refine (FE.out w2 HB2.out).mono ?_
 rintro e w3 ⟨v3, bs3, rfl, ho3, hg3, hr3, hl3⟩
 have HO := Lib.hid ho3
 have HG := Lib.hid hg3
 have HR := Lib.hid hr3
 clear ho3 hg3 hr3 y0
 go_wp2_with fail
 refine bodyPost_ret (results_tmp2 rfl _ _ _) rfl ?_
 exact ⟨v3, bs3, rfl, HO.out, (Grw.of_below HB2.out _).trans HG.out, HR.out, hl3⟩
theorem match_any : ∀ n, n ≤ 1000000 → MatchC n
 | 0, _ => fun p _ h => absurd h (by cases p; simp [Dt.size])
 | n + 1, h => match_of n (by omega) (list_of n (by omega) (each_of n (by omega) (match_any n (by omega))))
end Go.Proofs.Ytecljchifebljaa
namespace Go.Proofs.Ytecljchifebljaa
open Go Go.RowKit
attribute [local go_sem] Oper.semAt_some
mutual
theorem mB_flat (ls : List ByteArray) : ∀ (p d : Dt) (r : List Bd), p.mB ls d = some r → ∀ b ∈ r, b.rows = [] ∧ b.name.size ≤ p.size ∧ b.dat.size ≤ d.size
 | .mk k t ms l p, d, r, h, b, hb => by
  rw [mB_mk] at h
  split at h
  ·split at h <;> cases h; cases hb
  ·split at h
   ·cases h; cases hb
   ·split at h
    ·injection h with h; subst h
     rw [List.mem_singleton] at hb; subst hb
     exact ⟨rfl, Nat.le_refl _, Nat.le_refl _⟩
    ·split at h
     ·cases h
     ·split at h
      ·split at h <;> cases h; cases hb
      ·split at h
       ·obtain ⟨h1, h2, h3⟩ := mBs_flat ls l d.dl r h b hb
        refine ⟨h1, by simp only [Dt.size]; omega, ?_⟩
        obtain ⟨k2, t2, ms2, l2, p2⟩ := d
        simp only [Dt.dl] at h3
        simp only [Dt.size]; omega
       ·cases h
theorem mBs_flat (ls : List ByteArray) : ∀ (ps ds : List Dt) (r : List Bd), mBs ls ps ds = some r → ∀ b ∈ r, b.rows = [] ∧ b.name.size ≤ Dt.sizes ps ∧ b.dat.size ≤ Dt.sizes ds
 | [], [], r, h, b, hb => by rw [mBs] at h; cases h; cases hb
 | p :: ps, d :: ds, r, h, b, hb => by
  rw [mBs_cons] at h
  cases h1 : p.mB ls d with
  | none => rw [h1] at h; cases h
  | some r1 =>
   rw [h1] at h
   cases h2 : mBs ls ps ds with
   | none => rw [h2] at h; cases h
   | some r2 =>
    rw [h2] at h; injection h with h; subst h
    rcases List.mem_append.1 hb with hb | hb
    ·obtain ⟨a1, a2, a3⟩ := mB_flat ls p d r1 h1 b hb
     exact ⟨a1, by simp only [Dt.sizes]; omega, by simp only [Dt.sizes]; omega⟩
    ·obtain ⟨a1, a2, a3⟩ := mBs_flat ls ps ds r2 h2 b hb
     exact ⟨a1, by simp only [Dt.sizes]; omega, by simp only [Dt.sizes]; omega⟩
 | [], d :: ds, r, h, b, hb => by rw [mBs_len ls [] (d :: ds) (by simp)] at h; cases h
 | p :: ps, [], r, h, b, hb => by rw [mBs_len ls (p :: ps) [] (by simp)] at h; cases h
end
theorem OwnPI.halfO {B : Nat} {w : World} {g n cap : Nat} {bs : List Bd} (h : OwnPI (fun x => x < B) B w (.slice (some ⟨g, 0, none⟩) n cap) bs) (hf : ∀ b ∈ bs, b.rows = []) (hB : B ≤ w.heap.size) : HalfO w.heap.size g bs 0 w := by
 have hlow := (h.low g rfl).1
 obtain ⟨xs, hown, hd⟩ := h
 rcases hown.2 with ⟨e, _⟩ | ⟨g', cap', cur, e1, hbg, hg, hnc, hcm, hcs, htake⟩
 ·cases e
 ·injection e1 with e1 _ _
  injection e1 with e1; injection e1 with e1
  subst e1
  refine ⟨cur, hg, by rw [hcs]; exact Nat.mul_le_mul_right 12 hnc, fun i hi => ?_⟩
  obtain ⟨cs, c12, h1, h2⟩ := hd i hi
  have hcur : ∀ t, t < 12 → cur[12 * i + t]? = cs[t]? := fun t ht => by rw [← h1 t ht, ← htake, List.getElem?_take, if_pos (by omega)]; simp
  obtain ⟨m1, l1, m2, l2, lr, rfl, hna, hda, hlr, _⟩ := BdPAt_twelve h2
  refine ⟨#[.int .i64 bs[i].name.kind, .string bs[i].name.text, m1, l1, .int .i64 bs[i].name.place], #[.int .i64 bs[i].dat.kind, .string bs[i].dat.text, m2, l2, .int .i64 bs[i].dat.place], fun t ht => ?_, hcur 5 (by decide), fun t ht => ?_, ?_, fun h => absurd h (by omega), fun _ => ⟨hna.mono (fun x h => ⟨by have : x < B := h; omega, by have : x < B := h; omega⟩), hda.mono (fun x h => ⟨by have : x < B := h; omega, by have : x < B := h; omega⟩)⟩⟩
  ·rw [hcur t (by omega)]
   rcases (show t = 0 ∨ t = 1 ∨ t = 2 ∨ t = 3 ∨ t = 4 by omega) with rfl | rfl | rfl | rfl | rfl <;> rfl
  ·rw [show 12 * i + 6 + t = 12 * i + (6 + t) by omega, hcur (6 + t) (by omega)]
   rcases (show t = 0 ∨ t = 1 ∨ t = 2 ∨ t = 3 ∨ t = 4 by omega) with rfl | rfl | rfl | rfl | rfl <;> rfl
  ·rw [hf bs[i] (List.getElem_mem hi)] at hlr
   obtain ⟨ao, c, rfl⟩ := hlr.form
   exact ⟨ao, c, hcur 11 (by decide)⟩
/-- A row of bindings, read: each has its name and its datum in new memory. -/
def RowO (N : Nat) (w : World) (v : Value) (r : List Bd) : Prop :=
 ∃ ao cap, v = .slice ao r.length cap ∧ ∀ i (h : i < r.length), ∃ g, ao = some ⟨g, 0, none⟩ ∧ ∃ n5 d5 : Array Value, (∀ t, t < 5 → w.cell? ⟨g, i * 12 + t, none⟩ = n5[t]?) ∧ w.cell? ⟨g, i * 12 + 5, none⟩ = some (.int .i64 r[i].deep) ∧ (∀ t, t < 5 → w.cell? ⟨g, i * 12 + 6 + t, none⟩ = d5[t]?) ∧
  Dt.At (fun x => N ≤ x) w r[i].name n5 ∧ Dt.At (fun x => N ≤ x) w r[i].dat d5
theorem HalfO.read {N M g cap : Nat} {r : List Bd} {w : World} (h : HalfO N g r r.length w) (hM : M ≤ N) : RowO M w (.slice (some ⟨g, 0, none⟩) r.length cap) r := by
 obtain ⟨cur, h1, _, h3⟩ := h
 refine ⟨_, cap, rfl, fun i hi => ?_⟩
 obtain ⟨n5, d5, a1, a2, a3, _, a5, _⟩ := h3 i hi
 refine ⟨g, rfl, n5, d5, fun t ht => ?_, ?_, fun t ht => ?_, (a5 hi).1.mono (fun x h => by have : N ≤ x := h; show M ≤ x; omega), (a5 hi).2.mono (fun x h => by have : N ≤ x := h; show M ≤ x; omega)⟩
 ·rw [Lib.cell_of_heap h1, Nat.mul_comm i 12]; exact a1 t ht
 ·rw [Lib.cell_of_heap h1, Nat.mul_comm i 12]; exact a2
 ·rw [Lib.cell_of_heap h1, Nat.mul_comm i 12]; exact a3 t ht
def RetMt (res : Option (List Bd)) (w : World) (e : Ending) (w' : World) : Prop := ∃ v, e = .returned (.tuple #[v, .bool res.isSome]) ∧ (∀ r, res = some r → RowO w.heap.size w' v r) ∧ (res = none → v = .slice none 0 0) ∧ Below w.heap.size w w'
set_option maxHeartbeats 16000000 in
set_option maxRecDepth 100000 in
theorem matchP_any (ls : List ByteArray) (lv : Value) (pp dd : Dt) (pcs dcs : Array Value) (w : World) (hls : LitsAt w lv ls) (hll : ls.length ≤ 1000000) (hlz : ∀ s ∈ ls, s.size ≤ 1000000) (hp : Dt.At (fun g => g < w.heap.size) w pp pcs) (hd : Dt.At (fun g => g < w.heap.size) w dd dcs) (hwf : pp.wf) (hnod : pp.nod = true)
  (hps : pp.size ≤ 1000000) (hds : dd.size ≤ 1000000) : Calls Try.prog 24 #[lv, .agg pcs, .agg dcs] w (RetMt (pp.mB ls dd) w) := by
 have HLS := Lib.hid hls
 have HLZ := Lib.hid hlz
 have HP := Lib.hid hp
 have HD := Lib.hid hd
 have HWF := Lib.hid hwf
 have HNOD := Lib.hid hnod
 obtain ⟨ao, ac, rfl⟩ := hls.form
 obtain ⟨k, t, mo, mn, mc, lo, ln, lc, p, rfl⟩ := At_slices hp
 obtain ⟨k2, t2, mo2, mn2, mc2, lo2, ln2, lc2, p2, rfl⟩ := At_slices hd
 have hb0 : Below w.heap.size w ((w.alloc (.cells #[.int .i64 k, .string t, .slice mo mn mc, .slice lo ln lc, .int .i64 p] 29)).alloc (.cells #[.int .i64 k2, .string t2, .slice mo2 mn2 mc2, .slice lo2 ln2 lc2, .int .i64 p2] 29)) := ((Below.refl _ _).alloc (Nat.le_refl _) _).alloc (by simp) _
 have hx0 : ((w.alloc (.cells #[.int .i64 k, .string t, .slice mo mn mc, .slice lo ln lc, .int .i64 p] 29)).alloc (.cells #[.int .i64 k2, .string t2, .slice mo2 mn2 mc2, .slice lo2 ln2 lc2, .int .i64 p2] 29)).heap[w.heap.size]? = some (Obj.cells #[.int .i64 k, .string t, .slice mo mn mc, .slice lo ln lc, .int .i64 p] 29 (0, 0)) := (Lib.alloc_old _ _ _ (by simp)).trans (alloc_at _ _)
 have hx1 : ((w.alloc (.cells #[.int .i64 k, .string t, .slice mo mn mc, .slice lo ln lc, .int .i64 p] 29)).alloc (.cells #[.int .i64 k2, .string t2, .slice mo2 mn2 mc2, .slice lo2 ln2 lc2, .int .i64 p2] 29)).heap[w.heap.size + 1]? = some (Obj.cells #[.int .i64 k2, .string t2, .slice mo2 mn2 mc2, .slice lo2 ln2 lc2, .int .i64 p2] 29 (0, 0)) := second2 _ _ _
 have hs9 : ((w.alloc (.cells #[.int .i64 k, .string t, .slice mo mn mc, .slice lo ln lc, .int .i64 p] 29)).alloc (.cells #[.int .i64 k2, .string t2, .slice mo2 mn2 mc2, .slice lo2 ln2 lc2, .int .i64 p2] 29)).heap.size = w.heap.size + 1 + 1 := by simp
 clear hls hlz hp hd hwf hnod
 go_enter Try.func24, Try.ntmps24
 go_upto_region 1 with fail
 obtain ⟨X, hX⟩ : ∃ X, X = ((w.alloc (.cells #[.int .i64 k, .string t, .slice mo mn mc, .slice lo ln lc, .int .i64 p] 29)).alloc (.cells #[.int .i64 k2, .string t2, .slice mo2 mn2 mc2, .slice lo2 ln2 lc2, .int .i64 p2] 29)) := ⟨_, rfl⟩
 rw [← hX] at hb0 hx0 hx1 hs9
 rw [← hX]
 clear hX
 have HC : Hid (∀ w' : World, (fun W => W.heap[w.heap.size]? = some (Obj.cells #[.int .i64 k, .string t, .slice mo mn mc, .slice lo ln lc, .int .i64 p] 29 (0, 0)) ∧ W.heap[w.heap.size + 1]? = some (Obj.cells #[.int .i64 k2, .string t2, .slice mo2 mn2 mc2, .slice lo2 ln2 lc2, .int .i64 p2] 29 (0, 0))) w' → (w'.cell? ⟨w.heap.size, 0, none⟩ = some (.int .i64 k) ∧ w'.cell? ⟨w.heap.size, 1, none⟩ = some (.string t) ∧ w'.cell? ⟨w.heap.size, 2, none⟩ = some (.slice mo mn mc) ∧ w'.cell? ⟨w.heap.size, 3, none⟩ = some (.slice lo ln lc) ∧ w'.cell? ⟨w.heap.size, 4, none⟩ = some (.int .i64 p)) ∧
   (w'.cell? ⟨w.heap.size + 1, 0, none⟩ = some (.int .i64 k2) ∧ w'.cell? ⟨w.heap.size + 1, 1, none⟩ = some (.string t2) ∧ w'.cell? ⟨w.heap.size + 1, 2, none⟩ = some (.slice mo2 mn2 mc2) ∧ w'.cell? ⟨w.heap.size + 1, 3, none⟩ = some (.slice lo2 ln2 lc2) ∧ w'.cell? ⟨w.heap.size + 1, 4, none⟩ = some (.int .i64 p2))) := by
  rintro w' ⟨h, h'⟩
  exact ⟨⟨by rw [Lib.cell_of_heap h]; rfl, by rw [Lib.cell_of_heap h]; rfl, by rw [Lib.cell_of_heap h]; rfl, by rw [Lib.cell_of_heap h]; rfl, by rw [Lib.cell_of_heap h]; rfl⟩, by rw [Lib.cell_of_heap h']; rfl, by rw [Lib.cell_of_heap h']; rfl, by rw [Lib.cell_of_heap h']; rfl, by rw [Lib.cell_of_heap h']; rfl, by rw [Lib.cell_of_heap h']; rfl⟩
 have hS0 : (fun W => W.heap[w.heap.size]? = some (Obj.cells #[.int .i64 k, .string t, .slice mo mn mc, .slice lo ln lc, .int .i64 p] 29 (0, 0)) ∧ W.heap[w.heap.size + 1]? = some (Obj.cells #[.int .i64 k2, .string t2, .slice mo2 mn2 mc2, .slice lo2 ln2 lc2, .int .i64 p2] 29 (0, 0))) X.drew := ⟨hx0, hx1⟩
 refine wp_region_noPanic ?_
 refine wp_region_held_drew (S := (fun W => W.heap[w.heap.size]? = some (Obj.cells #[.int .i64 k, .string t, .slice mo mn mc, .slice lo ln lc, .int .i64 p] 29 (0, 0)) ∧ W.heap[w.heap.size + 1]? = some (Obj.cells #[.int .i64 k2, .string t2, .slice mo2 mn2 mc2, .slice lo2 ln2 lc2, .int .i64 p2] 29 (0, 0)))) (by kernel_rfl) hS0 (fun hHeld => ?_)
 have hb : Below w.heap.size w X.drew := hb0.drew
 generalize X.drew = V at hHeld hb ⊢
 clear hb0 hx0 hx1 hs9 hS0
 have HB := Lib.hid hb
 have hsv := hb.size
 have hsx := (Array.getElem?_eq_some_iff.1 hHeld.2).1
 clear hb
 refine qts [0, 3, 4] hHeld ?_
 iterate 3 (refine qtc (v := ?_) rfl rfl (fun w' hw' => ?_) ?_; rotate_left; (focus ((obtain ⟨⟨e0, e1, e2, e3, e4⟩, e20, e21, e22, e23, e24⟩ := HC.out w' hw'; go_simp); try with_reducible rfl)); simp only [zt,zs,zz,Act.put,zi,zy,zx])
 refine qtn ?_
 simp only [zt,zs,zz,Act.put,zi,zy,zx,qzl,qzn,qza,Nat.reduceAdd,Nat.reduceSub]
 refine wpAnyH_ready (rs := [1]) (by kernel_rfl) (by simp) ?_
 refine (AllReadyH.cons rfl (fun K hK => ?_) AllReadyH.nil)
 go_simp
 refine (wordsOf_any ls _ V (HLS.out.below HB.out) hll HLZ.out).mono ?_
 rintro e w3 ⟨bw, rfl, _, hWd, hb3⟩
 have hs3 := hb3.size
 have hHeld := (⟨(hb3.block _ (by omega)).trans hHeld.1, (hb3.block _ hsx).trans hHeld.2⟩ : (fun W => W.heap[w.heap.size]? = some (Obj.cells #[.int .i64 k, .string t, .slice mo mn mc, .slice lo ln lc, .int .i64 p] 29 (0, 0)) ∧ W.heap[w.heap.size + 1]? = some (Obj.cells #[.int .i64 k2, .string t2, .slice mo2 mn2 mc2, .slice lo2 ln2 lc2, .int .i64 p2] 29 (0, 0))) w3)
 have HB3 := Lib.hid (HB.out.trans (hb3.mono hsv))
 have HWD := Lib.hid hWd
 clear hWd hb3
 refine hK.out _ _ hHeld (fun hHeld => ?_)
 clear hK K
 try simp only [zt,zs,zz,Act.put,zi,zy,zx]
 refine qtk (i := 2) (v := ?v3) rfl rfl (fun w' hw' => ?h3) hHeld ?r3
 case h3 => go_simp; try with_reducible rfl
 simp only [zt,zs,zz,Act.put,zi,zy,zx]
 refine wpAnyH_ready (rs := [5]) (by kernel_rfl) (by simp) ?_
 refine (AllReadyH.cons rfl (fun K hK => ?_) AllReadyH.nil)
 go_simp
 refine (match_any 1000000 (Nat.le_refl _) pp dd hps HNOD.out HWF.out w3.heap.size bw ls (.slice none 0 0) _ _ [] w3 (Nat.le_refl _) ((Dt.At.keeps (Keeps.of_below HB3.out) _ _ HP.out).mono (fun g h => by have : g < w.heap.size := h; show g < w3.heap.size; omega)) ((Dt.At.keeps (Keeps.of_below HB3.out) _ _ HD.out).mono (fun g h => by have : g < w.heap.size := h; show g < w3.heap.size; omega)) HWD.out HWD.out.lt (OwnPI.nil _ _ _) (by simp; omega) hds).mono ?_
 rintro e w4 ⟨v4, bs4, rfl, ho4, hg4, hr4, hl4⟩
 have hb4 : Below w3.heap.size w3 w4 := Below.of_grown_none hg4.1
 have hs4 := hb4.size
 have hHeld := (⟨(hb4.block _ (by omega)).trans hHeld.1, (hb4.block _ (by omega)).trans hHeld.2⟩ : (fun W => W.heap[w.heap.size]? = some (Obj.cells #[.int .i64 k, .string t, .slice mo mn mc, .slice lo ln lc, .int .i64 p] 29 (0, 0)) ∧ W.heap[w.heap.size + 1]? = some (Obj.cells #[.int .i64 k2, .string t2, .slice mo2 mn2 mc2, .slice lo2 ln2 lc2, .int .i64 p2] 29 (0, 0))) w4)
 have HB4 := Lib.hid (HB3.out.trans (hb4.mono (by omega)))
 have HO4 := Lib.hid ho4
 have HR4 := Lib.hid hr4
 obtain ⟨vo, vc, hvf⟩ := ho4.form
 have HVF := Lib.hid hvf
 clear ho4 hg4 hr4 hb4 hvf
 refine hK.out _ _ hHeld (fun hHeld => ?_)
 clear hK K
 try simp only [zt,zs,zz,Act.put,zi,zy,zx]
 refine qts [6, 7, 8, 9, 10] hHeld ?_
 iterate 5 (refine qtc (v := ?_) rfl rfl (fun w' hw' => ?_) ?_; rotate_left; (focus (go_simp; try with_reducible rfl)); simp only [zt,zs,zz,Act.put,zi,zy,zx])
 refine qtn ?_
 simp only [zt,zs,zz,Act.put,zi,zy,zx,qzl,qzn,qza,Nat.reduceAdd,Nat.reduceSub]
 refine wpAnyH_done (by kernel_rfl) ?_ _
 refine NoPanic.normal ?_
 clear hHeld
 clear hHeld
 obtain ⟨res, hres⟩ : ∃ r, r = pp.mB ls dd := ⟨_, rfl⟩
 rw [← hres] at HR4 ⊢
 have HRES := Lib.hid hres
 clear hres
 cases res with
 | none =>
  rw [show (none : Option (List Bd)).isSome = false from rfl]
  go_wp2_with fail
  refine bodyPost_ret (results_tmp2 rfl _ _ _) rfl ?_
  rw [← HRES.out]
  exact ⟨.slice none 0 0, rfl, fun r h => (by cases h), fun _ => rfl, HB4.out⟩
 | some r =>
  rw [show (some r).isSome = true from rfl]
  have hbr : bs4 = r := by have := HR4.out r rfl; simpa using this
  subst hbr
  have hfl := Lib.hid (mB_flat ls pp dd bs4 HRES.out.symm)
  have hlen : bs4.length ≤ 1000000 := by simp at hl4; omega
  have HV := HVF.out
  subst HV
  have OWN : Hid (∃ Q : Ending → World → Prop, Calls Try.prog 54 #[.slice vo bs4.length vc] w4 Q ∧ ∀ e w', Q e w' → e = .returned (.tuple #[]) ∧ RowO w.heap.size w' (.slice vo bs4.length vc) bs4 ∧ Below w.heap.size w w') := by
   cases vo with
   | none =>
    have hz : bs4 = [] := by
     obtain ⟨xs, hown, _⟩ := HO4.out
     rcases hown.2 with ⟨_, h⟩ | ⟨g', _, _, e1, _⟩
     ·exact List.length_eq_zero_iff.1 h
     ·injection e1 with e1; cases e1
    subst hz
    refine ⟨_, own_zero none vc w4, ?_⟩
    rintro e w' ⟨he, rfl⟩
    exact ⟨he, ⟨none, vc, rfl, fun i h => absurd h (by simp)⟩, HB4.out⟩
   | some a =>
    have hg9 : ∃ g, a = ⟨g, 0, none⟩ := by
     obtain ⟨xs, hown, _⟩ := HO4.out
     rcases hown.2 with ⟨e, _⟩ | ⟨g', _, _, e1, _⟩
     ·cases e
     ·injection e1 with e1; injection e1 with e1; exact ⟨g', e1⟩
    obtain ⟨g, rfl⟩ := hg9
    have hlow := (HO4.out.low g rfl)
    refine ⟨_, own_flat bs4 g vc w4 (HO4.out.halfO (fun b hb => (hfl.out b hb).1) hs4) hlen (fun b hb => ⟨by have := (hfl.out b hb).2.1; omega, by have := (hfl.out b hb).2.2; omega⟩), ?_⟩
    rintro e w' ⟨he, hh, hgr⟩
    exact ⟨he, hh.read (by omega), HB4.out.grown hgr (by omega) (fun k e => by injection e with e; omega)⟩
  obtain ⟨Q, hq1, hq2⟩ := OWN.out
  have HQ1 := Lib.hid hq1
  have HQ2 := Lib.hid hq2
  clear hq1 hq2 OWN HO4 HVF
  go_wp2_with fail
  refine HQ1.out.mono ?_
  intro e w5 h5
  obtain ⟨rfl, hrow, hb5⟩ := HQ2.out e w5 h5
  have HROW := Lib.hid hrow
  have HB5 := Lib.hid hb5
  clear h5 hrow hb5 HQ1 HQ2
  go_wp2_with fail
  refine bodyPost_ret (results_tmp2 rfl _ _ _) rfl ?_
  rw [← HRES.out]
  exact ⟨.slice vo bs4.length vc, rfl, fun r h => (by injection h with h; subst h; exact HROW.out), fun h => (by cases h), HB5.out⟩
end Go.Proofs.Ytecljchifebljaa
namespace Go.Proofs.Ytecljchifebljaa
open Go.RowKit
theorem MAt.low {S : Nat → Prop} {w : World} {mv : Value} {ms : List Int} (h : MAt S w mv ms) : MAt (fun g => g < w.heap.size) w mv ms := by
 rcases h with h | ⟨g, o, cap, arr, fz, h1, h2, h3, h4⟩
 ·exact .inl h
 ·exact .inr ⟨g, o, cap, arr, fz, h1, (Array.getElem?_eq_some_iff.1 h3).1, h3, h4⟩
mutual
theorem Dt.At.low {S : Nat → Prop} {w : World} : ∀ (d : Dt) (cs : Array Value), Dt.At S w d cs → Dt.At (fun g => g < w.heap.size) w d cs
 | .mk _ _ ms l _, cs, h => by
  rw [At_mk] at h ⊢
  obtain ⟨mv, lv, e, hm, hl⟩ := h
  refine ⟨mv, lv, e, hm.low, ?_⟩
  rcases hl with h | ⟨g, o, cap, arr, fz, h1, h2, h3, h4⟩
  ·exact .inl h
  ·exact .inr ⟨g, o, cap, arr, fz, h1, (Array.getElem?_eq_some_iff.1 h3).1, h3, Dts.At.low l arr o h4.1, h4.2⟩
theorem Dts.At.low {S : Nat → Prop} {w : World} : ∀ (l : List Dt) (arr : Array Value) (o : Nat), Dts.At S w l arr o → Dts.At (fun g => g < w.heap.size) w l arr o
 | [], _, _, _ => by unfold Dts.At; trivial
 | d :: l, arr, o, h => by
  unfold Dts.At at h ⊢
  obtain ⟨⟨cs, hc, hd⟩, hr⟩ := h
  exact ⟨⟨cs, hc, Dt.At.low d cs hd⟩, Dts.At.low l arr (o + 5) hr⟩
end
theorem LAt.low {S : Nat → Prop} {w : World} {v : Value} {l : List Dt} (h : LAt S w v l) : LAt (fun g => g < w.heap.size) w v l := by
 rcases h with h | ⟨g, o, cap, arr, fz, h1, h2, h3, h4⟩
 ·exact .inl h
 ·exact .inr ⟨g, o, cap, arr, fz, h1, (Array.getElem?_eq_some_iff.1 h3).1, h3, Dts.At.low l arr o h4.1, h4.2⟩
end Go.Proofs.Ytecljchifebljaa
namespace Go.Proofs.Ytecljchifebljaa
open Go Go.RowKit
def kP : ByteArray := ⟨#[40, 95, 32, 120, 41]⟩
def kD : ByteArray := ⟨#[40, 102, 32, 49, 41]⟩
def kX : ByteArray := ⟨#[40, 120, 32, 120, 41]⟩
def kN : Dt := .mk 3 ⟨#[120]⟩ [] [] 3
def kV : Dt := .mk 1 ⟨#[49]⟩ [] [] 3
theorem kP_is : oneOf kP = .mk 4 ⟨#[]⟩ [] [.mk 3 ⟨#[95]⟩ [] [] 1, kN] 0 := by kernel_rfl
theorem kD_is : oneOf kD = .mk 4 ⟨#[]⟩ [] [.mk 3 ⟨#[102]⟩ [] [] 1, kV] 0 := by kernel_rfl
theorem kM_is : (oneOf kP).mB [] (oneOf kD) = some [.mk kN 0 kV []] := by kernel_rfl
theorem kC_is : chkD [] (oneOf kX) (oneOf ⟨#[120]⟩) = 9 := by kernel_rfl
theorem kX_is : oneOf kX = .mk 4 ⟨#[]⟩ [] [.mk 3 ⟨#[120]⟩ [] [] 1, kN] 0 := by kernel_rfl
theorem kx_is : oneOf ⟨#[120]⟩ = .mk 3 ⟨#[120]⟩ [] [] 0 := by kernel_rfl
theorem sym_wf (t : ByteArray) (h : t.size ≤ 1000000) (k p : Int) : (Dt.mk k t [] [] p).wf := (wf_mk ..).2 ⟨fun _ => rfl, h, trivial, fun m hm => by cases hm⟩
theorem kP_wf : (oneOf kP).wf := by
 rw [kP_is]; exact (wf_mk ..).2 ⟨fun h => absurd rfl h, by decide, ⟨sym_wf _ (by decide) _ _, sym_wf _ (by decide) _ _, trivial⟩, fun m hm => by cases hm⟩
theorem kX_wf : (oneOf kX).wf := by
 rw [kX_is]; exact (wf_mk ..).2 ⟨fun h => absurd rfl h, by decide, ⟨sym_wf _ (by decide) _ _, sym_wf _ (by decide) _ _, trivial⟩, fun m hm => by cases hm⟩
theorem kx_wf : (oneOf ⟨#[120]⟩).wf := by rw [kx_is]; exact sym_wf _ (by decide) _ _
theorem kP_nod : (oneOf kP).nod = true := by kernel_rfl
set_option maxHeartbeats 8000000 in
set_option maxRecDepth 100000 in
theorem known_any (w : World) : Calls Try.prog 14 #[] w (RetBool true w) := by
 have F1 := Lib.hid (fun W => one_any kP W (by decide))
 have F2 := Lib.hid (fun W => one_any kD W (by decide))
 have F3 := Lib.hid (fun W => one_any kX W (by decide))
 have F4 := Lib.hid (fun W => one_any ⟨#[120]⟩ W (by decide))
 go_enter Try.func14, Try.ntmps14
 go_wp2_with fail
 refine (F1.out _).mono ?_
 rintro e w1 ⟨c1, rfl, h1, hb1⟩
 go_wp2_with fail
 refine (F2.out _).mono ?_
 rintro e w2 ⟨c2, rfl, h2, hb2⟩
 have hs1 := hb1.size
 have hs2 := hb2.size
 have HB2 := Lib.hid (hb1.trans (hb2.mono hs1))
 have FM := Lib.hid (matchP_any [] (.slice none 0 0) (oneOf kP) (oneOf kD) c1 c2 w2 (.inl ⟨rfl, rfl⟩) (by simp) (fun s h => by cases h) (Dt.At.low _ _ (Dt.At.keeps (Keeps.of_below hb2) _ _ h1)) (Dt.At.low _ _ h2) kP_wf kP_nod (by have := oneOf_size kP; rw [kP_is]; decide) (by rw [kD_is]; decide))
 clear h1 h2 hb1 hb2
 go_wp2_with fail
 refine FM.out.mono ?_
 rintro e w3 ⟨v, rfl, hr, _, hb3⟩
 obtain ⟨ao, cap, rfl, hrow⟩ := hr _ kM_is
 obtain ⟨g, rfl, n5, d5, a1, _, a3, an, ad⟩ := hrow 0 (by simp)
 have hs3 := hb3.size
 have HB3 := Lib.hid (HB2.out.trans (hb3.mono (by omega)))
 obtain ⟨mv, lv, rfl, _, _⟩ := At_five an
 obtain ⟨mv2, lv2, rfl, _, _⟩ := At_five ad
 have e1 : w3.cell? ⟨g, 1, none⟩ = some (.string ⟨#[120]⟩) := a1 1 (by decide)
 have e7 : w3.cell? ⟨g, 7, none⟩ = some (.string ⟨#[49]⟩) := a3 1 (by decide)
 rw [show ((oneOf kP).mB [] (oneOf kD)).isSome = true by rw [kM_is]; rfl]
 clear hr hrow a1 a3 an ad hb3 FM
 go_wp2_with fail
 refine (F3.out _).mono ?_
 rintro e w4 ⟨c3, rfl, h3, hb4⟩
 clear e1 e7
 go_wp2_with fail
 refine (F4.out _).mono ?_
 rintro e w5 ⟨c4, rfl, h4, hb5⟩
 have hs4 := hb4.size
 have hs5 := hb5.size
 have HB5 := Lib.hid (HB3.out.trans ((hb4.trans (hb5.mono hs4)).mono (by omega)))
 have FC := Lib.hid (check_any [] (.slice none 0 0) (oneOf kX) (oneOf ⟨#[120]⟩) c3 c4 w5 (.inl ⟨rfl, rfl⟩) (by simp) (fun s h => by cases h) (Dt.At.low _ _ (Dt.At.keeps (Keeps.of_below hb5) _ _ h3)) (Dt.At.low _ _ h4) kX_wf kx_wf (by rw [kX_is]; decide) (by rw [kx_is]; decide))
 rw [kC_is] at FC
 clear h3 h4 hb4 hb5
 go_wp2_with fail
 refine FC.out.mono ?_
 rintro e w6 ⟨rfl, hb6⟩
 have HB6 := Lib.hid (HB5.out.trans (hb6.mono (by omega)))
 clear hb6 FC
 go_wp2_with fail
 go_ret
 exact ⟨rfl, HB6.out⟩
end Go.Proofs.Ytecljchifebljaa
namespace Go.Proofs.Ytecljchifebljaa
open Go Go.RowKit
mutual
def Dt.wfb : Dt → Bool
 | .mk k t ms l p => (k == 4 || l.isEmpty) && decide (t.size ≤ 1000000) && ms.isEmpty && wfsb l
def wfsb : List Dt → Bool
 | [] => true
 | d :: r => d.wfb && wfsb r
end
mutual
theorem wfb_is : ∀ (d : Dt), d.wfb = true → d.wf
 | .mk k t ms l p, h => by
  rw [Dt.wfb] at h
  simp only [Bool.and_eq_true, Bool.or_eq_true, beq_iff_eq, decide_eq_true_eq, List.isEmpty_iff] at h
  obtain ⟨⟨⟨h1, h2⟩, h3⟩, h4⟩ := h
  exact (wf_mk ..).2 ⟨fun hk => h1.elim (fun e => absurd e hk) id, h2, wfsb_is l h4, fun m hm => by rw [h3] at hm; cases hm⟩
theorem wfsb_is : ∀ (l : List Dt), wfsb l = true → wfs l
 | [], _ => trivial
 | d :: r, h => by
  rw [wfsb, Bool.and_eq_true] at h
  exact ⟨wfb_is d h.1, wfsb_is r h.2⟩
end
end Go.Proofs.Ytecljchifebljaa
namespace Go.Proofs.Ytecljchifebljaa
open Go.RowKit

def I64 (a : Int) : Prop := -9223372036854775808 ≤ a ∧ a ≤ 9223372036854775807
theorem wf_I64 (a : Int) (h : (Lit.int .i64 a).wf = true) : I64 a := by
 simpa [Lit.wf, IntKind.min, IntKind.max, IntKind.signed, IntKind.bits, I64] using h
end Go.Proofs.Ytecljchifebljaa
namespace Go.Proofs.Ytecljchifebljaa
open Go Go.RowKit
def lPat : List ByteArray := [⟨#[40, 120, 41]⟩, ⟨#[40, 120, 32, 121, 41]⟩, ⟨#[40, 120, 32, 46, 46, 46, 41]⟩, ⟨#[40, 120, 32, 121, 32, 46, 46, 46, 41]⟩, ⟨#[40, 120, 32, 46, 46, 46, 32, 121, 32, 122, 41]⟩, ⟨#[40, 40, 120, 32, 121, 41, 32, 46, 46, 46, 41]⟩, ⟨#[40, 40, 120, 32, 121, 32, 46, 46, 46, 41, 32, 46, 46, 46, 41]⟩, ⟨#[40, 95, 32, 120, 41]⟩, ⟨#[40, 108, 105, 116, 32, 120, 41]⟩, ⟨#[40, 120, 32, 49, 32, 35, 116, 41]⟩, ⟨#[40, 40, 120, 32, 46, 46, 46, 41, 32, 40, 121, 32, 46, 46, 46, 41, 41]⟩, ⟨#[40, 40, 40, 120, 32, 46, 46, 46, 41, 32, 46, 46, 46, 41, 32, 46, 46, 46, 41]⟩, ⟨#[40, 41]⟩, ⟨#[40, 120, 32, 40, 121, 32, 40, 122, 32, 46, 46, 46, 41, 32, 46, 46, 46, 41, 32, 46, 46, 46, 41]⟩, ⟨#[40, 40, 108, 105, 116, 32, 120, 41, 32, 46, 46, 46, 32, 121, 41]⟩]
def pT (k : Nat) : ByteArray := (lPat[k]?).getD ⟨#[]⟩
theorem pT_at (k : Nat) (hk : k < 15) : (#[.string ⟨#[40, 120, 41]⟩, .string ⟨#[40, 120, 32, 121, 41]⟩, .string ⟨#[40, 120, 32, 46, 46, 46, 41]⟩, .string ⟨#[40, 120, 32, 121, 32, 46, 46, 46, 41]⟩, .string ⟨#[40, 120, 32, 46, 46, 46, 32, 121, 32, 122, 41]⟩, .string ⟨#[40, 40, 120, 32, 121, 41, 32, 46, 46, 46, 41]⟩, .string ⟨#[40, 40, 120, 32, 121, 32, 46, 46, 46, 41, 32, 46, 46, 46, 41]⟩, .string ⟨#[40, 95, 32, 120, 41]⟩, .string ⟨#[40, 108, 105, 116, 32, 120, 41]⟩, .string ⟨#[40, 120, 32, 49, 32, 35, 116, 41]⟩, .string ⟨#[40, 40, 120, 32, 46, 46, 46, 41, 32, 40, 121, 32, 46, 46, 46, 41, 41]⟩, .string ⟨#[40, 40, 40, 120, 32, 46, 46, 46, 41, 32, 46, 46, 46, 41, 32, 46, 46, 46, 41]⟩, .string ⟨#[40, 41]⟩, .string ⟨#[40, 120, 32, 40, 121, 32, 40, 122, 32, 46, 46, 46, 41, 32, 46, 46, 46, 41, 32, 46, 46, 46, 41]⟩, .string ⟨#[40, 40, 108, 105, 116, 32, 120, 41, 32, 46, 46, 46, 32, 121, 41]⟩] : Array Value)[k]? = some (.string (pT k)) := by
 rcases (show k = 0 ∨ k = 1 ∨ k = 2 ∨ k = 3 ∨ k = 4 ∨ k = 5 ∨ k = 6 ∨ k = 7 ∨ k = 8 ∨ k = 9 ∨ k = 10 ∨ k = 11 ∨ k = 12 ∨ k = 13 ∨ k = 14 by omega) with rfl | rfl | rfl | rfl | rfl | rfl | rfl | rfl | rfl | rfl | rfl | rfl | rfl | rfl | rfl <;> rfl
theorem mod_nat (a : Int) (n : Nat) (hn : 0 < n) : ∃ k : Nat, (k : Int) = a % n ∧ k < n := by
 have h0 := Int.emod_nonneg a (show (n : Int) ≠ 0 by omega)
 have h1 := Int.emod_lt_of_pos a (show (0 : Int) < n by omega)
 exact ⟨(a % n).toNat, by omega, by omega⟩
def RetStr (s : ByteArray) (w : World) (e : Ending) (w' : World) : Prop := e = .returned (.string s) ∧ Below w.heap.size w w'
set_option maxHeartbeats 4000000 in
set_option maxRecDepth 100000 in
theorem pattern_any (a : Int) (k : Nat) (ha : I64 a) (hk : (k : Int) = a % (15 : Nat)) (hk2 : k < 15) (w : World) : Calls Try.prog 18 #[.int .i64 a] w (RetStr (pT k) w) := by
 have e0 : (w.alloc (.cells #[.string ⟨#[40, 120, 41]⟩, .string ⟨#[40, 120, 32, 121, 41]⟩, .string ⟨#[40, 120, 32, 46, 46, 46, 41]⟩, .string ⟨#[40, 120, 32, 121, 32, 46, 46, 46, 41]⟩, .string ⟨#[40, 120, 32, 46, 46, 46, 32, 121, 32, 122, 41]⟩, .string ⟨#[40, 40, 120, 32, 121, 41, 32, 46, 46, 46, 41]⟩, .string ⟨#[40, 40, 120, 32, 121, 32, 46, 46, 46, 41, 32, 46, 46, 46, 41]⟩, .string ⟨#[40, 95, 32, 120, 41]⟩, .string ⟨#[40, 108, 105, 116, 32, 120, 41]⟩, .string ⟨#[40, 120, 32, 49, 32, 35, 116, 41]⟩, .string ⟨#[40, 40, 120, 32, 46, 46, 46, 41, 32, 40, 121, 32, 46, 46, 46, 41, 41]⟩, .string ⟨#[40, 40, 40, 120, 32, 46, 46, 46, 41, 32, 46, 46, 46, 41, 32, 46, 46, 46, 41]⟩, .string ⟨#[40, 41]⟩, .string ⟨#[40, 120, 32, 40, 121, 32, 40, 122, 32, 46, 46, 46, 41, 32, 46, 46, 46, 41, 32, 46, 46, 46, 41]⟩, .string ⟨#[40, 40, 108, 105, 116, 32, 120, 41, 32, 46, 46, 46, 32, 121, 41]⟩] 9)).cell? ⟨w.heap.size, k, none⟩ = some (.string (pT k)) := by rw [Lib.cell_of_heap (alloc_at _ _)]; exact pT_at k hk2
 have hb := (Below.refl w.heap.size w).alloc (Nat.le_refl _) (.cells #[.string ⟨#[40, 120, 41]⟩, .string ⟨#[40, 120, 32, 121, 41]⟩, .string ⟨#[40, 120, 32, 46, 46, 46, 41]⟩, .string ⟨#[40, 120, 32, 121, 32, 46, 46, 46, 41]⟩, .string ⟨#[40, 120, 32, 46, 46, 46, 32, 121, 32, 122, 41]⟩, .string ⟨#[40, 40, 120, 32, 121, 41, 32, 46, 46, 46, 41]⟩, .string ⟨#[40, 40, 120, 32, 121, 32, 46, 46, 46, 41, 32, 46, 46, 46, 41]⟩, .string ⟨#[40, 95, 32, 120, 41]⟩, .string ⟨#[40, 108, 105, 116, 32, 120, 41]⟩, .string ⟨#[40, 120, 32, 49, 32, 35, 116, 41]⟩, .string ⟨#[40, 40, 120, 32, 46, 46, 46, 41, 32, 40, 121, 32, 46, 46, 46, 41, 41]⟩, .string ⟨#[40, 40, 40, 120, 32, 46, 46, 46, 41, 32, 46, 46, 46, 41, 32, 46, 46, 46, 41]⟩, .string ⟨#[40, 41]⟩, .string ⟨#[40, 120, 32, 40, 121, 32, 40, 122, 32, 46, 46, 46, 41, 32, 46, 46, 46, 41, 32, 46, 46, 46, 41]⟩, .string ⟨#[40, 40, 108, 105, 116, 32, 120, 41, 32, 46, 46, 46, 32, 121, 41]⟩] 9)
 go_enter Try.func18, Try.ntmps18
 go_wp2_with fail
 refine (within4_any a 15 _ ha.1 ha.2 (by decide) (by decide)).mono ?_
 rintro e w2 ⟨rfl, rfl⟩
 rw [show a % 15 = (k : Int) from hk.symm]
 clear hk
 have qk : (k : Int) < 15 := by omega
 go_wp2_with fail
 go_ret
 exact ⟨rfl, hb⟩
end Go.Proofs.Ytecljchifebljaa
namespace Go.Proofs.Ytecljchifebljaa
open Go.RowKit Go.ChangeShapes Go.WideShapes Go.Deep

/-- A raw datum: two numbers, and parts. -/
inductive Rw where
 | mk (k n : Int) (l : List Rw) : Rw
namespace Rw
def num : Rw → Int | mk k _ _ => k
mutual
/-- How many there are, with itself. -/
def cnt : Rw → Nat
 | mk _ _ l => 1 + cnts l
def cnts : List Rw → Nat
 | [] => 0
 | r :: l => r.cnt + cnts l
end
end Rw

mutual
/-- At this address lies this raw datum. -/
def Rw.At (w : World) : Rw → Addr → Prop
 | .mk k n l, a => w.cell? (a.add 0) = some (.int .i64 k) ∧ w.cell? (a.add 1) = some (.int .i64 n) ∧ I64 k ∧ I64 n ∧
   ∃ ao cap, w.cell? (a.add 2) = some (.slice ao l.length cap) ∧ l.length ≤ maxLen ∧ (l = [] ∨ ∃ b, ao = some b ∧ Rws.At w l b)
/-- From this address on lie these, one behind the other. -/
def Rws.At (w : World) : List Rw → Addr → Prop
 | [], _ => True
 | r :: l, b => Rw.At w r b ∧ Rws.At w l (b.add 3)
end
/-- A slice that reads as these. -/
def RsAt (w : World) (ao : Option Addr) (l : List Rw) : Prop := l.length ≤ maxLen ∧ (l = [] ∨ ∃ b, ao = some b ∧ Rws.At w l b)

theorem Rws.At.get {w : World} : ∀ (l : List Rw) (b : Addr), Rws.At w l b → ∀ j (h : j < l.length), Rw.At w l[j] (b.add (j * 3))
 | [], _, _, j, h => by simp at h
 | r :: l, b, H, 0, _ => by
  unfold Rws.At at H
  have e : b.add (0 * 3) = b := by simp [Addr.add]
  rw [e]; exact H.1
 | r :: l, b, H, j + 1, h => by
  unfold Rws.At at H
  have := Rws.At.get l (b.add 3) H.2 j (by simpa using h)
  rw [add_add] at this
  have e : 3 + j * 3 = (j + 1) * 3 := by omega
  rw [e] at this
  exact this
theorem Rws.At.of_get {w : World} : ∀ (l : List Rw) (b : Addr), (∀ j (h : j < l.length), Rw.At w l[j] (b.add (j * 3))) → Rws.At w l b
 | [], _, _ => by unfold Rws.At; trivial
 | r :: l, b, H => by
  unfold Rws.At
  refine ⟨?_, Rws.At.of_get l (b.add 3) fun j h => ?_⟩
  ·have := H 0 (by simp)
   have e : b.add (0 * 3) = b := by simp [Addr.add]
   rw [e] at this; exact this
  ·have := H (j + 1) (by simpa using h)
   rw [add_add]
   have e : 3 + j * 3 = (j + 1) * 3 := by omega
   rw [e]; exact this
theorem cell_below {w w' : World} (h : Below w.heap.size w w') {a : Addr} {v : Value} (hc : w.cell? a = some v) : w'.cell? a = some v := by
 rw [h.cell (World.block_lt_of_cell? w a hc)]; exact hc
mutual
theorem Rw.At.below {w w' : World} (h : Below w.heap.size w w') : ∀ (r : Rw) (a : Addr), Rw.At w r a → Rw.At w' r a
 | .mk k n l, a, H => by
  unfold Rw.At at H ⊢
  obtain ⟨h1, h2, h3, h4, ao, cap, h5, h6, h7⟩ := H
  refine ⟨cell_below h h1, cell_below h h2, h3, h4, ao, cap, cell_below h h5, h6, ?_⟩
  rcases h7 with h7 | ⟨b, h8, h9⟩
  ·exact .inl h7
  ·exact .inr ⟨b, h8, Rws.At.below h l b h9⟩
theorem Rws.At.below {w w' : World} (h : Below w.heap.size w w') : ∀ (l : List Rw) (b : Addr), Rws.At w l b → Rws.At w' l b
 | [], _, _ => by unfold Rws.At; trivial
 | r :: l, b, H => by
  unfold Rws.At at H ⊢
  exact ⟨Rw.At.below h r b H.1, Rws.At.below h l (b.add 3) H.2⟩
end
theorem RsAt.below {w w' : World} {ao : Option Addr} {l : List Rw} (H : RsAt w ao l) (h : Below w.heap.size w w') : RsAt w' ao l := by
 refine ⟨H.1, ?_⟩
 rcases H.2 with h7 | ⟨b, h8, h9⟩
 ·exact .inl h7
 ·exact .inr ⟨b, h8, Rws.At.below h l b h9⟩
/-- One part of a slice: its cells, and its own parts. -/
theorem RsAt.get {w : World} {ao : Option Addr} {l : List Rw} (H : RsAt w ao l) (j : Nat) (h : j < l.length) :
  ∃ b k n po pl pc, ao = some b ∧ l[j] = .mk k n pl ∧ w.cell? (b.add (j * 3)) = some (.int .i64 k) ∧ w.cell? ⟨(b.add (j * 3)).block, (b.add (j * 3)).off + 1, none⟩ = some (.int .i64 n) ∧ w.cell? ⟨(b.add (j * 3)).block, (b.add (j * 3)).off + 2, none⟩ = some (.slice po pl.length pc) ∧
   I64 k ∧ I64 n ∧ RsAt w po pl := by
 rcases H.2 with rfl | ⟨b, h8, h9⟩
 ·simp at h
 ·have := Rws.At.get l b h9 j h
  generalize hd : l[j] = d at this
  obtain ⟨k, n, pl⟩ := d
  unfold Rw.At at this
  obtain ⟨h1, h2, h3, h4, po, pc, h5, h6, h7⟩ := this
  have e : (b.add (j * 3)).add 0 = b.add (j * 3) := by simp [Addr.add]
  rw [e] at h1
  exact ⟨b, k, n, po, pl, pc, h8, rfl, h1, h2, h5, h3, h4, h6, h7⟩
theorem cnts_get : ∀ (l : List Rw) (j : Nat) (h : j < l.length), l[j].cnt ≤ Rw.cnts l
 | [], j, h => by simp at h
 | r :: l, 0, _ => by simp [Rw.cnts]
 | r :: l, j + 1, h => by
  have := cnts_get l j (by simpa using h)
  simp only [Rw.cnts, List.getElem_cons_succ]; omega
theorem length_cnts : ∀ (l : List Rw), l.length ≤ Rw.cnts l
 | [] => by simp
 | r :: l => by
  have h1 := length_cnts l
  have h2 : 1 ≤ r.cnt := by cases r; simp only [Rw.cnt]; omega
  simp only [List.length_cons, Rw.cnts]; omega
end Go.Proofs.Ytecljchifebljaa
