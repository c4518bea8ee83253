/- What is known of an old heap, in memory; end. -/
import Derived.Test.YtjecjlnkpbbanaaK2
import Derived.Test.YtjecjlnkpbbanaaK3
import Derived.Test.YtjecjlnkpbbanaaL4
namespace Go.Proofs.Ytjecjlnkpbbanaa
open Go Go.RowKit
set_option linter.unusedVariables false
set_option linter.unusedSimpArgs false
structure MemB (w : World) (C : Nat → Nat) (c b : Nat) (G : Option Nat) (os : List Ob) (m eb pb : Nat) (pk : List (Option Nat)) : Prop where
  hp : HpO w b G os m
  cb : C b = 6
  cg : ∀ k, G = some k → C k = 6
  cc : C c = 1
  ce : C eb = 2
  cp : C pb = 3
  cq : ∀ (i q : Nat), pk[i]? = some (some q) → C q = 4
  inj : ∀ (i j q : Nat), pk[i]? = some (some q) → pk[j]? = some (some q) → i = j
  len : pk.length = total os
  p : PRw w pb pk
  q : ∀ (i q : Nat), pk[i]? = some (some q) → ∃ l, IRw w q l ∧ l.length = 21 ∧ PI os i l
  k0 : w.cell? ⟨c, 0, none⟩ = some (.pointer (some ⟨b, 0, none⟩))
  k1 : w.cell? ⟨c, 1, none⟩ = some (.slice (some ⟨eb, 0, none⟩) (total os) (total os))
  k2 : w.cell? ⟨c, 2, none⟩ = some (.slice (some ⟨pb, 0, none⟩) (total os) (total os))
  fresh : ∀ k, w.heap.size ≤ k → C k = 0
theorem HpO.fr {F : Nat → Prop} {w w' : World} {b : Nat} {G : Option Nat} {os : List Ob} {m : Nat} (h : HpO w b G os m) (hf : Fr F w w') (h1 : ¬ F b) (h2 : ∀ k, G = some k → ¬ F k) : HpO w' b G os m :=
  ⟨h.1.keep (hf.block _ h.1.lt h1) (fun k hk => hf.block _ (h.1.glt k hk).1 (h2 k hk)), h.2⟩
theorem IRw.fr' {F : Nat → Prop} {w w' : World} {g : Nat} {l : List Int} (h : IRw w g l) (hf : Fr F w w') (h1 : ¬ F g) : IRw w' g l := (hf.block _ h.lt h1).trans h
theorem PRw.lt {w : World} {g : Nat} {l : List (Option Nat)} (h : PRw w g l) : g < w.heap.size := (Array.getElem?_eq_some_iff.1 h).1
theorem cell_fr {F : Nat → Prop} {w w' : World} {g j : Nat} {v : Value} (h : w.cell? ⟨g, j, none⟩ = some v) (hf : Fr F w w') (h1 : ¬ F g) : w'.cell? ⟨g, j, none⟩ = some v := by
  rw [← h]; exact World.cell?_of_block (w := w) (hf.block g (World.block_lt_of_cell? w _ h) h1)
theorem MemB.fr {F : Nat → Prop} {w w' : World} {C : Nat → Nat} {c b : Nat} {G : Option Nat} {os : List Ob} {m eb pb : Nat} {pk : List (Option Nat)} (h : MemB w C c b G os m eb pb pk) (hf : Fr F w w') (hF : ∀ k, F k → C k ≠ 1 ∧ C k ≠ 3 ∧ C k ≠ 4 ∧ C k ≠ 6) : MemB w' C c b G os m eb pb pk where
  hp := h.hp.fr hf (fun e => (hF _ e).2.2.2 h.cb) (fun k hk e => (hF _ e).2.2.2 (h.cg k hk))
  cb := h.cb
  cg := h.cg
  cc := h.cc
  ce := h.ce
  cp := h.cp
  cq := h.cq
  inj := h.inj
  len := h.len
  p := (hf.block _ h.p.lt (fun e => (hF _ e).2.1 h.cp)).trans h.p
  q := fun i q hq => by
    obtain ⟨l, h1, h2⟩ := h.q i q hq
    exact ⟨l, h1.fr' hf (fun e => (hF _ e).2.2.1 (h.cq i q hq)), h2⟩
  k0 := cell_fr h.k0 hf (fun e => (hF _ e).1 h.cc)
  k1 := cell_fr h.k1 hf (fun e => (hF _ e).1 h.cc)
  k2 := cell_fr h.k2 hf (fun e => (hF _ e).1 h.cc)
  fresh := fun k hk => h.fresh k (Nat.le_trans hf.size hk)
structure StE (w : World) (eb : Nat) (rv : Value) (r es : List Int) (wr : World) : Prop where
  own : wr.ownsRow w.heap.size 3 1 rv r.length (r.map (Value.int .i64))
  e : IRw wr eb es
  fr : Fr (fun x => x = eb) w wr
  lt : eb < w.heap.size
theorem StE.below {w wr w' : World} {eb : Nat} {rv : Value} {r es : List Int} (h : StE w eb rv r es wr) (hb : Below wr.heap.size wr w') : StE w eb rv r es w' :=
  ⟨own_below h.own hb, (hb.block _ h.e.lt).trans h.e, h.fr.trans (F' := fun _ => False) (Fr.of_below hb) (fun _ _ e => e.elim), h.lt⟩
theorem StE.put {w wr : World} {eb : Nat} {rv : Value} {r es : List Int} (h : StE w eb rv r es wr) (j : Nat) (v : Int) : StE w eb rv r (es.set j v) (wr.setCell ⟨eb, j, none⟩ (.int .i64 v)) :=
  ⟨own_fr (F := fun x => x = eb) h.own (Fr.setCell (F := fun x => x = eb) (p := ⟨eb, j, none⟩) (Fr.refl _ _) rfl _) (fun k hk e => by have := (h.own.lt k hk).1; have := h.lt; omega), h.e.put j v, h.fr.setCell (p := ⟨eb, j, none⟩) rfl _, h.lt⟩
theorem StE.app {w wr w9 : World} {eb : Nat} {rv v9 : Value} {r es : List Int} {x : Int} (h : StE w eb rv r es wr) {n : Nat} (ho : w9.ownsRow w.heap.size 3 1 v9 n (r.map (Value.int .i64) ++ [.int .i64 x])) (hn : n = r.length + 1) (hg : (wr.alloc (.cells #[.int .i64 x] 3)).grownBy w9 rv.ownBlock) : StE w eb v9 (r ++ [x]) es w9 := by
  have h2 := h.below ((Below.refl _ _).alloc (Nat.le_refl _) (.cells #[.int .i64 x] 3))
  have hs := h2.fr.size
  have hf : Fr (fun k => rv.ownBlock = some k) (wr.alloc (.cells #[.int .i64 x] 3)) w9 := ⟨hg.os, hg.tape, hg.output, hg.size, fun k hk hn => hg.block k hk (fun e => hn e.symm)⟩
  refine ⟨by rw [List.length_append, List.map_append, List.length_singleton, ← hn]; exact ho, h2.e.fr' hf (fun e => by have := (h.own.lt _ e).1; have := h.lt; omega), h2.fr.trans hf (fun k hk e => by have := (h.own.lt _ e).1; omega), h.lt⟩
theorem IRw.cell? {w : World} {g : Nat} {l : List Int} (h : IRw w g l) {j : Nat} {v : Int} (hj : l[j]? = some v) : w.cell? ⟨g, j, none⟩ = some (.int .i64 v) := by
  obtain ⟨h1, h2⟩ := List.getElem?_eq_some_iff.1 hj
  rw [h.cell j h1, h2]
theorem IRw.frz {w : World} {g : Nat} {l : List Int} (h : IRw w g l) (j : Nat) : w.frozen? ⟨g, j, none⟩ = false := frozen_of_row w g j _ 3 h
def EnI (os : List Ob) (es0 : List Int) (a : Int) (eb : Nat) (w : World) (atv rv : Value) (wr : World) : Prop :=
  ∃ k : Nat, atv = .int .i64 (it os k a) ∧ StE w eb rv (rowOf os a k) (mks os es0 a k) wr ∧ Wk os es0 a k
def slen : Value → Nat
  | .slice _ n _ => n
  | _ => 0
def RetEnd (x : Int) (C : Nat → Nat) (c b : Nat) (G : Option Nat) (os : List Ob) (m eb pb : Nat) (pk : List (Option Nat)) (w : World) (e : Ending) (w' : World) : Prop :=
  e = .returned (.int .i64 x) ∧ MemB w' C c b G os m eb pb pk ∧ (∃ es, IRw w' eb es ∧ es.length = total os ∧ EI os es) ∧ Fr (fun k => k = eb) w w'
def FiI (l : List Int) (es : List Int) (x : Int) (eb : Nat) (rv : Value) (w : World) (iv : Value) (wr : World) : Prop :=
  ∃ j : Nat, j ≤ l.length ∧ iv = .int .i64 (j : Int) ∧ StE w eb rv l (setAll es (fun _ => x) (l.take j)) wr
set_option maxHeartbeats 16000000 in
set_option maxRecDepth 100000 in
theorem end_o {w : World} {C : Nat → Nat} {c b : Nat} {G : Option Nat} {os : List Ob} {m eb pb : Nat} {pk : List (Option Nat)} {es0 : List Int} (h : MemB w C c b G os m eb pb pk) (he : IRw w eb es0) (hl : es0.length = total os) (hE : EI os es0) (a : Int) (ha : Vd os a) :
    Calls Try.prog 75 #[.pointer (some ⟨c, 0, none⟩), .int .i64 a] w (RetEnd (endO os a) C c b G os m eb pb pk w) := by
  have HM := Lib.hid (fun wr (hf : Fr (fun x => x = eb) w wr) => h.fr hf (fun k hk => by rw [hk, h.ce]; decide))
  have hm : total os ≤ 1000000 := by have := h.hp.2.2.2.2; have := h.hp.2.2.2.1; omega
  have HOK := Lib.hid h.hp.2.1
  have HCL := Lib.hid h.hp.2.2.1
  have hol := total_len os
  have HEW := Lib.hid he.lt
  have HLL := Lib.hid hl
  have HEE := Lib.hid hE
  have HA := Lib.hid ha
  have H0 : Hid (EnI os es0 a eb w (.int .i64 a) (.slice none 0 0) w) := ⟨0, rfl, ⟨World.ownsRow_nil _ _ _ _, he, Fr.refl _ _, he.lt⟩, Wk.zero _ _ _⟩
  clear h he hl hE ha
  obtain ⟨U, hU⟩ : ∃ U, U = total os := ⟨_, rfl⟩
  rw [← hU] at hm hol HLL
  have HU := Lib.hid hU
  clear hU
  go_enter Try.func75, Try.ntmps75
  go_wp2_with fail
  go_loopw [1, 6] (fun av rv wr => EnI os es0 a eb w av rv wr) (fun _ rv _ => os.length + 1 - slen rv)
  case atStart => exact H0.out
  case round =>
    clear H0
    obtain ⟨k, rfl, hst, hwk⟩ := hrel
    have HW := Lib.hid hwk
    have hkb := hwk.bound HCL.out HOK.out HA.out
    have hvd := it_vd HCL.out HOK.out HA.out hwk.led (Nat.le_refl k)
    have hp := vd_lt hvd
    rw [← HU.out] at hp
    obtain ⟨an, han⟩ : ∃ an : Nat, it os k a = an := ⟨(it os k a).toNat, by omega⟩
    have HAN := Lib.hid han
    obtain ⟨R, hR⟩ : ∃ R, R = rowOf os a k := ⟨_, rfl⟩
    obtain ⟨E, hEs⟩ : ∃ E, E = mks os es0 a k := ⟨_, rfl⟩
    rw [← hR, ← hEs] at hst
    have HRL : Hid (R.length = k) := by rw [hR]; exact rowOf_len os a k
    have HEL : Hid (E.length = U) := by show _ = _; rw [hEs]; unfold mks; rw [setAll_len, HLL.out]
    have HRB : Hid (∀ j (hj : j < R.length), ∃ y : Nat, R[j] = y) := fun j hj => by
      have h1 := hwk.rows HCL.out HOK.out HA.out (by rw [HLL.out, HU.out]) R[j] (by rw [← hR]; exact List.getElem_mem _)
      exact ⟨R[j].toNat, by omega⟩
    have HRB2 : Hid (∀ j (hj : j < R.length), R[j] < (U : Int)) := fun j hj => by
      have h1 := hwk.rows HCL.out HOK.out HA.out (by rw [HLL.out, HU.out]) R[j] (by rw [← hR]; exact List.getElem_mem _)
      have h2 := HLL.out
      omega
    have HQ := Lib.hid hR
    have HQE := Lib.hid hEs
    have HS := Lib.hid hst
    rw [han] at hp hvd ⊢
    have haU : an < U := by omega
    have HVD := Lib.hid hvd
    have c0 := (HM.out wr hst.fr).k0
    have c1 := (HM.out wr hst.fr).k1
    rw [← HU.out] at c1
    obtain ⟨v, hv⟩ : ∃ v, E[an]? = some v := ⟨_, List.getElem?_eq_getElem (by rw [HEL.out]; exact haU)⟩
    have HV := Lib.hid hv
    have c3 := hst.e.cell? hv
    have F22 := Lib.hid (fun W (hf : Fr (fun x => x = eb) w W) => tagm_any (HM.out W hf).hp (an : Int) (by omega) (by omega))
    have hown := hst.own
    rw [HRL.out] at hown
    obtain ⟨ao, cap, rfl⟩ := own_sform hown
    have HEX : Hid ((hdo os (endO os an)).t ≠ 5 → endO os a = endO os an ∧ EI os (setAll E (fun _ => endO os an) R)) := fun hne => by
      have := hwk.out HCL.out HOK.out HA.out (by rw [HLL.out, HU.out]) HEE.out (by rw [HAN.out]; exact hne)
      rw [HAN.out, ← hR, ← hEs] at this; exact this
    clear hwk hst hown han hv hvd hR hEs
    by_cases ht : (hdo os an).t = 5
    · have qt : (((hdo os an).t : Int) == 5) = true := by rw [ht]; rfl
      by_cases hv1 : v = -1
      · subst hv1
        have qv : ((-1 : Int) == -1) = true := rfl
        have HW2 : Hid (Wk os es0 a (k + 1)) := HW.out.more HCL.out HOK.out HA.out (by rw [HLL.out, HU.out]) (by rw [HAN.out]; exact ht) (by rw [HAN.out, Int.toNat_natCast, ← HQE.out]; exact HV.out)
        have HN : Hid (ptrsOf os an = [it os (k + 1) a]) := by
          obtain ⟨q, hq⟩ := HVD.out
          have ht' := ht
          rw [hdo_tag hq] at ht'
          have h1 := (HOK.out q (ob_mem hq)).shp.1 ht'
          show _ = _
          rw [ptrsOf_ob hq]
          have e2 : it os (k + 1) a = q.body.headD 0 := by
            show (nxt os (it os k a)).getD 0 = _
            rw [HAN.out, nxt_some_tag hq ht']; rfl
          rw [e2]
          have e3 := (HOK.out q (ob_mem hq)).ind ht'
          match hb : q.body, h1 with
          | [], h1 => unfold Ob.ptrs at h1; rw [hb] at h1; simp at h1
          | x :: l, h1 => unfold Ob.ptrs; rw [hb, e3]; rfl
        have F23 := Lib.hid (fun W (hf : Fr (fun x => x = eb) w W) => ptrs_o (HM.out W hf).hp (an : Int) (by omega) (by omega))
        rw [HN.out] at F23
        clear HEX HN ht
        go_wp2_with fail
        refine (F22.out wr HS.out.fr).mono ?_
        rintro e w2 ⟨rfl, hb2⟩
        have HS2 := Lib.hid (HS.out.below hb2)
        clear F22 HS c0 c1 c3 hb2
        have c0 := (HM.out w2 HS2.out.fr).k0
        have c1 := (HM.out w2 HS2.out.fr).k1
        rw [← HU.out] at c1
        have c3 := HS2.out.e.cell? HV.out
        have f3 := HS2.out.e.frz an
        have HSX : Hid (StE w eb (.slice ao k cap) R (E.set an an) (w2.setCell ⟨eb, an, none⟩ (.int .i64 (an : Int)))) := HS2.out.put an an
        have hX := HSX.out.below ((Below.refl _ _).alloc (Nat.le_refl _) (.cells #[.int .i64 (an : Int)] 3))
        have HSR := Lib.hid (srcA_one (d := .int .i64 (an : Int)) (T := 3) (alloc_at (w2.setCell ⟨eb, an, none⟩ (.int .i64 (an : Int))) (.cells #[.int .i64 (an : Int)] 3)) rfl 1)
        have hzz : (w2.setCell ⟨eb, an, none⟩ (.int .i64 (an : Int))).heap.size = w2.heap.size := by simp [World.setCell]
        rw [hzz] at HSR
        clear hzz
        have hsz2 : w.heap.size ≤ ((w2.setCell ⟨eb, an, none⟩ (.int .i64 (an : Int))).alloc (.cells #[.int .i64 (an : Int)] 3)).heap.size := hX.fr.size
        have HO2 : Hid (((w2.setCell ⟨eb, an, none⟩ (.int .i64 (an : Int))).alloc (.cells #[.int .i64 (an : Int)] 3)).ownsRow w.heap.size 3 1 (.slice ao k cap) k (R.map (Value.int .i64))) := by
          have := hX.own; rw [HRL.out] at this; exact this
        have hk9 : k + 1 ≤ 1000000000 := by omega
        clear hX HV
        obtain ⟨RM, hRM⟩ : ∃ RM, RM = R.map (Value.int .i64) := ⟨_, rfl⟩
        rw [← hRM] at HO2
        have HRM := Lib.hid hRM
        clear hRM
        go_wp2_with (refine wpList_wantedR (by rfl) fun K hK => ?_; refine wp_appI (Operand.tmp 35) (Operand.tmp 37) rfl w.heap.size (.slice ao k cap) k RM rfl HO2.out (.slice (some ⟨w2.heap.size, 0, none⟩) 1 1) rfl 1 _ HSR.out hk9 hsz2 ?_; intro v9 w9 hown9 hg9 hv9; have HS9 : Hid (StE w eb v9 (R ++ [(an : Int)]) (E.set an an) w9) := HSX.out.app (by rw [← HRM.out]; exact hown9) (by rw [HRL.out]) hg9; clear hown9 hg9 hv9 HSX HSR HO2 hsz2 HRM RM HS2 c0 c1 c3 f3; have c0 := (HM.out w9 HS9.out.fr).k0; refine hK _ _ ?_; clear hK K)
        refine (F23.out w9 HS9.out.fr).mono ?_
        rintro e w10 hr10
        obtain ⟨po, pc, rfl, hown10, hb10⟩ := hr10.form
        have HS10 := Lib.hid (HS9.out.below hb10)
        obtain ⟨g10, cg10, e10, -, -, -, hgc10⟩ := own_at hown10 (Nat.lt_of_lt_of_eq Nat.zero_lt_one rfl)
        have c10 := hgc10 0 (Nat.lt_of_lt_of_eq Nat.zero_lt_one rfl)
        simp only [List.getElem_cons_zero] at c10
        injection e10 with e10 _ _
        subst e10
        have HREL : Hid (EnI os es0 a eb w (.int .i64 (it os (k + 1) a)) v9 w10) := by
          refine ⟨k + 1, rfl, ?_, HW2.out⟩
          rw [rowOf_snoc, mks_more, HAN.out, ← HQ.out, ← HQE.out, Int.toNat_natCast]
          exact HS10.out
        have HSL : Hid (slen v9 = k + 1) := by
          have h9 := HS10.out.own
          obtain ⟨x1, x2, x3⟩ := own_sform h9
          show _ = _
          rw [x3]; simp [slen, HRL.out]
        clear F23 HS9 hr10 hown10 hgc10 c0 HS10
        go_wp2_with fail
        go_roundw
        case rel => exact HREL.out
        case measure => rw [HSL.out]; simp [slen]; omega
      · have qv : (v == -1) = false := by simpa using hv1
        have HE : Hid (v = endO os an) := by
          have := HW.out.last HCL.out HOK.out HA.out (by rw [HLL.out, HU.out]) HEE.out (v := v) (by rw [HAN.out]; exact ht) (by rw [HAN.out, Int.toNat_natCast, ← HQE.out]; exact HV.out) hv1
          rw [HAN.out] at this; exact this
        have hvv : Vd os v := by rw [HE.out]; exact endO_valid HVD.out
        have hvp := vd_lt hvv
        rw [← HU.out] at hvp
        have F22v := Lib.hid (fun W (hf : Fr (fun x => x = eb) w W) => tagm_any (HM.out W hf).hp v (by omega) (by omega))
        have HT9 := Lib.hid ht
        clear hv1 hvv ht
        go_wp2_with fail
        refine (F22.out wr HS.out.fr).mono ?_
        rintro e w2 ⟨rfl, hb2⟩
        have HS2 := Lib.hid (HS.out.below hb2)
        clear HS c0 c1 c3 hb2
        have c0 := (HM.out w2 HS2.out.fr).k0
        have c1 := (HM.out w2 HS2.out.fr).k1
        rw [← HU.out] at c1
        have c3 := HS2.out.e.cell? HV.out
        go_wp2_with fail
        refine (F22.out w2 HS2.out.fr).mono ?_
        rintro e w3 ⟨rfl, hb2⟩
        have HS3 := Lib.hid (HS2.out.below hb2)
        clear HS2 c0 c1 c3 hb2 F22
        have c0 := (HM.out w3 HS3.out.fr).k0
        have c1 := (HM.out w3 HS3.out.fr).k1
        rw [← HU.out] at c1
        have c3 := HS3.out.e.cell? HV.out
        go_wp2_with fail
        refine (F22v.out w3 HS3.out.fr).mono ?_
        rintro e w4 ⟨rfl, hb2⟩
        have HS := Lib.hid (HS3.out.below hb2)
        clear HS3 c0 c1 c3 hb2 F22v
        by_cases htv : (hdo os v).t = 5
        · have qw : (((hdo os v).t : Int) == 5) = true := by rw [htv]; rfl
          have HFN : Hid (endO os a = a ∧ EI os E) := by
            have := HW.out.ring HCL.out HOK.out HA.out (by rw [HLL.out, HU.out]) HEE.out (by rw [HAN.out, ← HE.out]; exact htv)
            rw [← HQE.out] at this; exact this
          clear HEX HV HE htv
          go_wp2_with fail
          go_ret
          exact ⟨by rw [HFN.out.1]; rfl, HM.out _ HS.out.fr, ⟨_, HS.out.e, by rw [HEL.out, HU.out], HFN.out.2⟩, HS.out.fr⟩
        · have qw : (((hdo os v).t : Int) == 5) = false := by
            have : ¬ ((hdo os v).t : Int) = 5 := by omega
            simpa using this
          have HFI : Hid (endO os a = v ∧ EI os (setAll E (fun _ => v) R)) := by
            have := HEX.out (by rw [← HE.out]; exact htv)
            rw [← HE.out] at this; exact this
          clear HEX HV HE htv
          go_wp2_with fail
          go_loopw [72] (fun iv wr => FiI R E v eb (.slice ao k cap) w iv wr) (fun iv _ => k - (intOf iv).toNat)
          case atStart => exact ⟨0, Nat.zero_le _, rfl, HS.out⟩
          case round =>
            clear HS
            obtain ⟨j, hj, rfl, hst⟩ := hrel
            rw [HRL.out] at hj
            have HS := Lib.hid hst
            clear hst
            by_cases hjk : j < k
            · have q1 : decide ((j : Int) < (k : Int)) = true := decide_eq_true (by omega)
              have hjl : j < R.length := by rw [HRL.out]; exact hjk
              obtain ⟨y, hy⟩ : ∃ y : Nat, R[j] = y := HRB.out j hjl
              have hyU := HRB2.out j hjl
              rw [hy] at hyU
              have hown := HS.out.own
              rw [HRL.out] at hown
              obtain ⟨g, cg, e1, hg1, hg2, -, hgc⟩ := own_at hown (by omega)
              have c9 := hgc j hjl
              rw [hy] at c9
              injection e1 with e1 _ _
              subst e1
              have c1 := (HM.out _ HS.out.fr).k1
              rw [← HU.out] at c1
              obtain ⟨z, hz⟩ : ∃ z, (setAll E (fun _ => v) (R.take j))[y]? = some z := ⟨_, List.getElem?_eq_getElem (by rw [setAll_len, HEL.out]; omega)⟩
              have c3 := HS.out.e.cell? hz
              have f3 := HS.out.e.frz y
              have HREL : Hid (FiI R E v eb (.slice (some ⟨g, 0, none⟩) k cap) w (.int .i64 ((j : Int) + 1)) (wr.setCell ⟨eb, y, none⟩ (.int .i64 v))) := by
                refine ⟨j + 1, by rw [HRL.out]; omega, by go_num, ?_⟩
                have h9 := HS.out.put y v
                rw [List.take_succ_eq_append_getElem hjl, setAll_snoc, hy, Int.toNat_natCast]
                exact h9
              clear hown hgc hz hy hjl
              go_wp2_with fail
              go_roundw
              case rel => exact HREL.out
              case measure => simp [intOf]; omega
            · obtain rfl : j = k := by omega
              have q1 : decide ((j : Int) < (j : Int)) = false := decide_eq_false (by omega)
              have HS2 : Hid (StE w eb (.slice ao j cap) R (setAll E (fun _ => v) R) wr) := by
                have := HS.out; rw [← HRL.out, List.take_length, HRL.out] at this; exact this
              go_wp2_with fail
              go_ret
              exact ⟨by rw [HFI.out.1]; rfl, HM.out _ HS2.out.fr, ⟨_, HS2.out.e, by rw [setAll_len, HEL.out, HU.out], HFI.out.2⟩, HS2.out.fr⟩
    · have qt : (((hdo os an).t : Int) == 5) = false := by
        have : ¬ ((hdo os an).t : Int) = 5 := by omega
        simpa using this
      have HFI : Hid (endO os a = an ∧ EI os (setAll E (fun _ => an) R)) := by
        obtain ⟨q, hq⟩ := HVD.out
        have e := endO_self hq (by rw [← hdo_tag hq]; exact ht)
        have := HEX.out (by rw [e]; exact ht)
        rw [e] at this; exact this
      clear HEX HV
      go_wp2_with fail
      refine (F22.out wr HS.out.fr).mono ?_
      rintro e w2 ⟨rfl, hb2⟩
      have HS2 := Lib.hid (HS.out.below hb2)
      clear HS c0 c1 c3 hb2
      have c0 := (HM.out w2 HS2.out.fr).k0
      go_wp2_with fail
      refine (F22.out w2 HS2.out.fr).mono ?_
      rintro e w3 ⟨rfl, hb2⟩
      have HS3 := Lib.hid (HS2.out.below hb2)
      clear HS2 c0 hb2
      have c0 := (HM.out w3 HS3.out.fr).k0
      go_wp2_with fail
      refine (F22.out w3 HS3.out.fr).mono ?_
      rintro e w4 ⟨rfl, hb2⟩
      have HS := Lib.hid (HS3.out.below hb2)
      clear HS3 c0 hb2
      go_wp2_with fail
      go_loopw [72] (fun iv wr => FiI R E an eb (.slice ao k cap) w iv wr) (fun iv _ => k - (intOf iv).toNat)
      case atStart => exact ⟨0, Nat.zero_le _, rfl, HS.out⟩
      case round =>
        clear HS
        obtain ⟨j, hj, rfl, hst⟩ := hrel
        rw [HRL.out] at hj
        have HS := Lib.hid hst
        clear hst
        by_cases hjk : j < k
        · have q1 : decide ((j : Int) < (k : Int)) = true := decide_eq_true (by omega)
          have hjl : j < R.length := by rw [HRL.out]; exact hjk
          obtain ⟨y, hy⟩ : ∃ y : Nat, R[j] = y := HRB.out j hjl
          have hyU := HRB2.out j hjl
          rw [hy] at hyU
          have hown := HS.out.own
          rw [HRL.out] at hown
          obtain ⟨g, cg, e1, hg1, hg2, -, hgc⟩ := own_at hown (by omega)
          have c9 := hgc j hjl
          rw [hy] at c9
          injection e1 with e1 _ _
          subst e1
          have c1 := (HM.out _ HS.out.fr).k1
          rw [← HU.out] at c1
          obtain ⟨z, hz⟩ : ∃ z, (setAll E (fun _ => an) (R.take j))[y]? = some z := ⟨_, List.getElem?_eq_getElem (by rw [setAll_len, HEL.out]; omega)⟩
          have c3 := HS.out.e.cell? hz
          have f3 := HS.out.e.frz y
          have HREL : Hid (FiI R E an eb (.slice (some ⟨g, 0, none⟩) k cap) w (.int .i64 ((j : Int) + 1)) (wr.setCell ⟨eb, y, none⟩ (.int .i64 an))) := by
            refine ⟨j + 1, by rw [HRL.out]; omega, by go_num, ?_⟩
            have h9 := HS.out.put y an
            rw [List.take_succ_eq_append_getElem hjl, setAll_snoc, hy, Int.toNat_natCast]
            exact h9
          clear hown hgc hz hy hjl
          go_wp2_with fail
          go_roundw
          case rel => exact HREL.out
          case measure => simp [intOf]; omega
        · obtain rfl : j = k := by omega
          have q1 : decide ((j : Int) < (j : Int)) = false := decide_eq_false (by omega)
          have HS2 : Hid (StE w eb (.slice ao j cap) R (setAll E (fun _ => an) R) wr) := by
            have := HS.out; rw [← HRL.out, List.take_length, HRL.out] at this; exact this
          go_wp2_with fail
          go_ret
          exact ⟨by rw [HFI.out.1]; rfl, HM.out _ HS2.out.fr, ⟨_, HS2.out.e, by rw [setAll_len, HEL.out, HU.out], HFI.out.2⟩, HS2.out.fr⟩
end Go.Proofs.Ytjecjlnkpbbanaa
