/- Rules: the program's variables of a pattern. -/
import Derived.Test.YtecljchifebljaaYAA
import Derived.Test.YtecljchifebljaaYAC
import Derived.Test.YtecljchifebljaaYAN
import Derived.Test.YtecljchifebljaaTB4
import Derived.Test.YtecljchifebljaaYAL
import Derived.Shelf.Abstract
set_option linter.unusedVariables false
set_option linter.unusedSimpArgs false
namespace Go.Proofs.Ytecljchifebljaa
open Go Go.RowKit Go.Shelf
attribute [local go_sem] Oper.semAt_some
def RetVP (B : Nat) (w : World) (v : Value) (bs : List Bd) (e : Ending) (w' : World) : Prop := ∃ v', e = .returned v' ∧ OwnPI (fun g => g < B) B w' v' bs ∧ Grw w w' v v'
theorem keepsB_set {S : Nat → Prop} (W : World) (b : Nat) (u : Value) (h : ¬ S b) : KeepsB S W (W.setCell ⟨b, 0, none⟩ u) := fun g c T fz hs hg => ⟨fz, by rw [heap_setCell_other _ _ _ _ (fun e => h (by have : g = b := e; rw [← this]; exact hs))]; exact hg⟩
theorem five_is {S : Nat → Prop} {w : World} {d : Dt} {k p : Int} {t : ByteArray} {mv lv : Value} (h : Dt.At S w d #[.int .i64 k, .string t, mv, lv, .int .i64 p]) : #[Value.int .i64 k, .string t, mv, lv, .int .i64 p] = (d.five mv lv).toArray := by
 obtain ⟨mv', lv', e, _, _⟩ := At_five h
 simp only [Array.mk.injEq, List.cons.injEq, Value.int.injEq, Value.string.injEq, true_and, and_true] at e
 obtain ⟨rfl, rfl, rfl, rfl, rfl⟩ := e
 rfl
set_option maxHeartbeats 16000000 in
set_option maxRecDepth 100000 in
theorem variables_any (n : Nat) : n ≤ 1000000 → ∀ (d : Dt), d.size ≤ n → d.wf → ∀ (B : Nat) (cs : Array Value) (bw : Nat) (ls : List ByteArray) (q : Int) (v : Value) (bs : List Bd) (w : World), B ≤ w.heap.size → Dt.At (fun g => g < B) w d cs → WordsAt w bw ls → bw < B →
  OwnPI (fun g => g < B) B w v bs → bs.length + d.size ≤ 3000000 → 0 ≤ q → q + d.size ≤ 9000 → Calls Try.prog 45 #[.agg #[.map (some bw)], v, .agg cs, .int .i64 q] w (RetVP B w v (bs ++ (d.vars (isVar ls) q).map vB)) := by
 induction n with
 | zero => intro _ d hd; cases d; simp [Dt.size] at hd
 | succ n ih0 =>
  intro hn d hd hwf B cs bw ls q v bs w hBw hat hwd hbw hown hbs hq0 hq1
  have IH := Lib.hid (ih0 (by omega))
  have hata := hat
  have hrole := roleOf_var ls d
  obtain ⟨d0, hd0⟩ : ∃ d0, d0 = d := ⟨_, rfl⟩
  rw [← hd0] at hata hrole
  have hts : d0.text.size ≤ 1000000 := by rw [hd0]; exact hwf.short
  obtain ⟨k, t, ms, l, p⟩ := d
  have HP := Lib.hid (vars_mk (isVar ls) k t ms l p q)
  rw [← hd0] at HP ⊢
  have hleaf : k ≠ 4 → l = [] := ((wf_mk ..).1 hwf).1
  have hwl : wfs l := ((wf_mk ..).1 hwf).2.2.1
  rw [At_mk] at hat
  obtain ⟨mv, lv, rfl, hm, hl⟩ := hat
  obtain ⟨mo, mc, rfl⟩ := MAt.form2 hm
  obtain ⟨lo, lc, rfl⟩ := hl.form
  have hsz1 : (Dt.mk k t ms l p).size = 1 + Dt.sizes l := by simp only [Dt.size]
  rw [hsz1] at hbs hq1 hd
  have hsz : Dt.sizes l ≤ n := by omega
  clear hsz1
  have hll := length_sizes l
  obtain ⟨vo, vc, rfl⟩ := hown.form
  have hb0 : Below w.heap.size w ((((w.alloc (.cells #[.map (some bw)] 82)).alloc (.cells #[.slice vo bs.length vc] 40)).alloc (.cells #[.int .i64 k, .string t, .slice mo ms.length mc, .slice lo l.length lc, .int .i64 p] 29)).alloc (.cells #[.int .i64 q] 3)) := ((((Below.refl _ _).alloc (Nat.le_refl _) _).alloc (by simp) _).alloc (by simp <;> omega) _).alloc (by simp <;> omega) _
  have hx4 : ((((w.alloc (.cells #[.map (some bw)] 82)).alloc (.cells #[.slice vo bs.length vc] 40)).alloc (.cells #[.int .i64 k, .string t, .slice mo ms.length mc, .slice lo l.length lc, .int .i64 p] 29)).alloc (.cells #[.int .i64 q] 3)).heap[w.heap.size]? = some (Obj.cells #[.map (some bw)] 82 (0, 0)) := (Lib.alloc_old _ _ _ (by simp <;> omega)).trans ((Lib.alloc_old _ _ _ (by simp <;> omega)).trans ((Lib.alloc_old _ _ _ (by simp)).trans (alloc_at _ _)))
  have hx5 : ((((w.alloc (.cells #[.map (some bw)] 82)).alloc (.cells #[.slice vo bs.length vc] 40)).alloc (.cells #[.int .i64 k, .string t, .slice mo ms.length mc, .slice lo l.length lc, .int .i64 p] 29)).alloc (.cells #[.int .i64 q] 3)).heap[w.heap.size + 1]? = some (Obj.cells #[.slice vo bs.length vc] 40 (0, 0)) := (Lib.alloc_old _ _ _ (by simp <;> omega)).trans ((Lib.alloc_old _ _ _ (by simp)).trans (second2 _ _ _))
  have hx6 : ((((w.alloc (.cells #[.map (some bw)] 82)).alloc (.cells #[.slice vo bs.length vc] 40)).alloc (.cells #[.int .i64 k, .string t, .slice mo ms.length mc, .slice lo l.length lc, .int .i64 p] 29)).alloc (.cells #[.int .i64 q] 3)).heap[w.heap.size + 1 + 1]? = some (Obj.cells #[.int .i64 k, .string t, .slice mo ms.length mc, .slice lo l.length lc, .int .i64 p] 29 (0, 0)) := (Lib.alloc_old _ _ _ (by simp)).trans (by have h := second2 (w.alloc (.cells #[.map (some bw)] 82)) (.cells #[.slice vo bs.length vc] 40) (.cells #[.int .i64 k, .string t, .slice mo ms.length mc, .slice lo l.length lc, .int .i64 p] 29); rw [World.size_alloc] at h; exact h)
  have hx7 : ((((w.alloc (.cells #[.map (some bw)] 82)).alloc (.cells #[.slice vo bs.length vc] 40)).alloc (.cells #[.int .i64 k, .string t, .slice mo ms.length mc, .slice lo l.length lc, .int .i64 p] 29)).alloc (.cells #[.int .i64 q] 3)).heap[w.heap.size + 1 + 1 + 1]? = some (Obj.cells #[.int .i64 q] 3 (0, 0)) := by
   have h := second2 ((w.alloc (.cells #[.map (some bw)] 82)).alloc (.cells #[.slice vo bs.length vc] 40)) (.cells #[.int .i64 k, .string t, .slice mo ms.length mc, .slice lo l.length lc, .int .i64 p] 29) (.cells #[.int .i64 q] 3); rw [World.size_alloc, World.size_alloc] at h; exact h
  have hs0 : ((((w.alloc (.cells #[.map (some bw)] 82)).alloc (.cells #[.slice vo bs.length vc] 40)).alloc (.cells #[.int .i64 k, .string t, .slice mo ms.length mc, .slice lo l.length lc, .int .i64 p] 29)).alloc (.cells #[.int .i64 q] 3)).heap.size = w.heap.size + 4 := by simp
  obtain ⟨X, hX⟩ : ∃ X, X = (((w.alloc (.cells #[.map (some bw)] 82)).alloc (.cells #[.slice vo bs.length vc] 40)).alloc (.cells #[.int .i64 k, .string t, .slice mo ms.length mc, .slice lo l.length lc, .int .i64 p] 29)).alloc (.cells #[.int .i64 q] 3) := ⟨_, rfl⟩
  rw [← hX] at hb0 hx4 hx5 hx6 hx7 hs0
  have HX := Lib.hid hX
  have HB0 := Lib.hid hb0
  have HX4 := Lib.hid hx4
  have HX5 := Lib.hid hx5
  have HX6 := Lib.hid hx6
  have HX7 := Lib.hid hx7
  have HAT := Lib.hid (Dt.At.keeps (keeps_low (hb0.mono hBw)) _ _ hata)
  have HL := Lib.hid (hl.keeps (keeps_low (hb0.mono hBw)))
  have HWD := Lib.hid (hwd.below hb0 (by omega))
  have HOW := Lib.hid (hown.below hb0)
  have HLOW := Lib.hid hown.low
  have HWF := Lib.hid hwl
  have HLEAF := Lib.hid hleaf
  have FR := Lib.hid (role_any HAT.out hts bw ls HWD.out)
  obtain ⟨ro, hro⟩ : ∃ r, r = roleOf ls d0 := ⟨_, rfl⟩
  rw [← hro] at FR hrole
  clear hX hb0 hx4 hx5 hx6 hx7 hata hm hl hwd hown hwf hleaf hwl ih0 hro hd hts hd0
  refine callsIn_wide.1 (callsIn_of_wp_marks (n := 9) Try.func45 rfl trivial ?_ rfl)
  refine wpIn_wide.2 ?_
  simp only [Try.ntmps45, List.size_toArray, List.length_cons, List.length_nil, Nat.reduceAdd, Nat.reduceSub, Array.replicate_succ, Array.replicate_zero, List.push_toArray, List.append_toArray, List.nil_append, List.cons_append]
  go_upto_region 1 with fail
  rw [← HX.out]
  have y4 : X.cell? ⟨w.heap.size, 0, none⟩ = some (.map (some bw)) := by rw [Lib.cell_of_heap HX4.out]; rfl
  have y60 : X.cell? ⟨w.heap.size + 1 + 1, 0, none⟩ = some (.int .i64 k) := by rw [Lib.cell_of_heap HX6.out]; rfl
  have y61 : X.cell? ⟨w.heap.size + 1 + 1, 1, none⟩ = some (.string t) := by rw [Lib.cell_of_heap HX6.out]; rfl
  have y62 : X.cell? ⟨w.heap.size + 1 + 1, 2, none⟩ = some (.slice mo ms.length mc) := by rw [Lib.cell_of_heap HX6.out]; rfl
  have y63 : X.cell? ⟨w.heap.size + 1 + 1, 3, none⟩ = some (.slice lo l.length lc) := by rw [Lib.cell_of_heap HX6.out]; rfl
  have y64 : X.cell? ⟨w.heap.size + 1 + 1, 4, none⟩ = some (.int .i64 p) := by rw [Lib.cell_of_heap HX6.out]; rfl
  go_wp2_with fail
  refine FR.out.mono ?_
  rintro e w3 ⟨rfl, hb3⟩
  clear y4 y60 y61 y62 y63 y64
  have hs3 := hb3.size
  have HB3 := Lib.hid hb3
  have z4 : w3.heap[w.heap.size]? = some (Obj.cells #[.map (some bw)] 82 (0, 0)) := (hb3.block _ (by omega)).trans HX4.out
  have z5 : w3.heap[w.heap.size + 1]? = some (Obj.cells #[.slice vo bs.length vc] 40 (0, 0)) := (hb3.block _ (by omega)).trans HX5.out
  have z6 : w3.heap[w.heap.size + 1 + 1]? = some (Obj.cells #[.int .i64 k, .string t, .slice mo ms.length mc, .slice lo l.length lc, .int .i64 p] 29 (0, 0)) := (hb3.block _ (by omega)).trans HX6.out
  have z7 : w3.heap[w.heap.size + 1 + 1 + 1]? = some (Obj.cells #[.int .i64 q] 3 (0, 0)) := (hb3.block _ (by omega)).trans HX7.out
  have y5 : w3.cell? ⟨w.heap.size + 1, 0, none⟩ = some (.slice vo bs.length vc) := by rw [Lib.cell_of_heap z5]; rfl
  have y7 : w3.cell? ⟨w.heap.size + 1 + 1 + 1, 0, none⟩ = some (.int .i64 q) := by rw [Lib.cell_of_heap z7]; rfl
  have y60 : w3.cell? ⟨w.heap.size + 1 + 1, 0, none⟩ = some (.int .i64 k) := by rw [Lib.cell_of_heap z6]; rfl
  have y61 : w3.cell? ⟨w.heap.size + 1 + 1, 1, none⟩ = some (.string t) := by rw [Lib.cell_of_heap z6]; rfl
  have y62 : w3.cell? ⟨w.heap.size + 1 + 1, 2, none⟩ = some (.slice mo ms.length mc) := by rw [Lib.cell_of_heap z6]; rfl
  have y63 : w3.cell? ⟨w.heap.size + 1 + 1, 3, none⟩ = some (.slice lo l.length lc) := by rw [Lib.cell_of_heap z6]; rfl
  have y64 : w3.cell? ⟨w.heap.size + 1 + 1, 4, none⟩ = some (.int .i64 p) := by rw [Lib.cell_of_heap z6]; rfl
  have HZ4 := Lib.hid z4
  have HZ5 := Lib.hid z5
  have HZ6 := Lib.hid z6
  have HZ7 := Lib.hid z7
  have HO3 := Lib.hid (HOW.out.below hb3)
  have HG3 := Lib.hid (Grw.of_below (HB0.out.trans (hb3.mono HB0.out.size)) (.slice vo bs.length vc))
  have hB3 : B ≤ w3.heap.size := by omega
  clear z4 z5 z6 z7 hb3 FR
  cases hv : isVar ls d0 with
  | true =>
   have qr : (ro == 4) = true := by rw [hrole]; exact hv
   have HE : Hid (d0.vars (isVar ls) q = [(d0, q)]) := by show _ = _; rw [HP.out, if_pos hv]
   have hdz : ∀ W, Dt.At (fun g => g < B) W dZ #[.int .i64 0, .string ⟨#[]⟩, .slice none 0 0, .slice none 0 0, .int .i64 0] := fun W => by unfold dZ; rw [At_mk]; exact ⟨_, _, rfl, .inl ⟨rfl, rfl⟩, .inl ⟨rfl, rfl⟩⟩
   have hb9 : Below w3.heap.size w3 (w3.alloc (.cells #[.int .i64 k, .string t, .slice mo ms.length mc, .slice lo l.length lc, .int .i64 p, .int .i64 q, .int .i64 0, .string ⟨#[]⟩, .slice none 0 0, .slice none 0 0, .int .i64 0, .slice none 0 0] 60)) := (Below.refl _ _).alloc (Nat.le_refl _) _
   have hs9 := hb9.size
   have hpd : Bd.PAt (fun g => g < B) (w3.alloc (.cells #[.int .i64 k, .string t, .slice mo ms.length mc, .slice lo l.length lc, .int .i64 p, .int .i64 q, .int .i64 0, .string ⟨#[]⟩, .slice none 0 0, .slice none 0 0, .int .i64 0, .slice none 0 0] 60)) (vB (d0, q)) #[.int .i64 k, .string t, .slice mo ms.length mc, .slice lo l.length lc, .int .i64 p, .int .i64 q, .int .i64 0, .string ⟨#[]⟩, .slice none 0 0, .slice none 0 0, .int .i64 0, .slice none 0 0] := by
    unfold vB
    rw [BdPAt_mk]
    have hk9 : Keeps (fun g => g < B) X (w3.alloc (.cells #[.int .i64 k, .string t, .slice mo ms.length mc, .slice lo l.length lc, .int .i64 p, .int .i64 q, .int .i64 0, .string ⟨#[]⟩, .slice none 0 0, .slice none 0 0, .int .i64 0, .slice none 0 0] 60)) := keeps_low ((HB3.out.mono (by omega)).trans (hb9.mono (by omega)))
    have ha := Dt.At.keeps hk9 _ _ HAT.out
    have hfk : #[Value.int .i64 k, .string t, .slice mo ms.length mc, .slice lo l.length lc, .int .i64 p] = (d0.five (.slice mo ms.length mc) (.slice lo l.length lc)).toArray := five_is ha
    refine ⟨.slice mo ms.length mc, .slice lo l.length lc, .slice none 0 0, .slice none 0 0, .slice none 0 0, ?_, ?_, ?_, .inl ⟨rfl, rfl⟩⟩
    ·have h9 := congrArg Array.toList hfk
     simp only [List.toList_toArray] at h9
     show _ = (d0.five _ _ ++ [Value.int .i64 q] ++ dZ.five _ _ ++ [_]).toArray
     rw [← h9]; rfl
    ·rw [← hfk]; exact ha
    ·exact hdz _
   obtain ⟨xs, hxo, hsn⟩ := OwnPI.snoc (HO3.out.below hb9) rfl hpd (fun x hx h => by have := (HLOW.out x hx).1; omega)
   have HSN := Lib.hid hsn
   have HXO := Lib.hid hxo
   have hB9 : B ≤ (w3.alloc (.cells #[.int .i64 k, .string t, .slice mo ms.length mc, .slice lo l.length lc, .int .i64 p, .int .i64 q, .int .i64 0, .string ⟨#[]⟩, .slice none 0 0, .slice none 0 0, .int .i64 0, .slice none 0 0] 60)).heap.size := by omega
   have HG9 := Lib.hid (HG3.out.trans (Grw.of_below hb9 _))
   have hnl1 : bs.length + 1 ≤ 1000000000 := by omega
   clear hsn hxo hb9 hs9 hpd hdz
   go_wp2_with (refine wpList_appP rfl (Operand.tmp 15) (Operand.tmp 19) rfl B (.slice vo bs.length vc) bs.length xs rfl HXO.out w3.heap.size 1 rfl [.int .i64 k, .string t, .slice mo ms.length mc, .slice lo l.length lc, .int .i64 p, .int .i64 q, .int .i64 0, .string ⟨#[]⟩, .slice none 0 0, .slice none 0 0, .int .i64 0, .slice none 0 0] rfl (fun i u hu => by (have q : (w3.alloc (.cells #[.int .i64 k, .string t, .slice mo ms.length mc, .slice lo l.length lc, .int .i64 p, .int .i64 q, .int .i64 0, .string ⟨#[]⟩, .slice none 0 0, .slice none 0 0, .int .i64 0, .slice none 0 0] 60)).cell? ⟨w3.heap.size, i, none⟩ = some u := by (rw [Lib.cell_of_heap (alloc_at w3 (.cells #[.int .i64 k, .string t, .slice mo ms.length mc, .slice lo l.length lc, .int .i64 p, .int .i64 q, .int .i64 0, .string ⟨#[]⟩, .slice none 0 0, .slice none 0 0, .int .i64 0, .slice none 0 0] 60))]; simpa using hu)); exact q) (by simp [Value.oneCell']) hnl1 hB9 ?_; intro v' w9 h9 hg hv; have H9 := Lib.hid h9; have HGR := Lib.hid hg; have HVV := Lib.hid hv; clear h9 hg hv)
   refine ⟨_, results_tmp rfl _ _ _, v', rfl, ?_, HG9.out.trans ⟨HGR.out, ?_⟩⟩
   ·rw [HE.out]
    exact HSN.out v' w9 H9.out HGR.out
   ·rcases HVV.out with e | e
    ·exact .inl e
    ·exact .inr ⟨_, e, Nat.le_refl _, (H9.out.lt _ e).2⟩
  | false =>
   have qr : (ro == 4) = false := by rw [hrole]; exact hv
   have HE : Hid (d0.vars (isVar ls) q = varss (isVar ls) l q) := by show _ = _; rw [HP.out, if_neg (by rw [hv]; decide)]
   clear y5 y7
   go_wp2_with fail
   refine (parts_any k t _ _ p rfl rfl w3).mono ?_
   rintro e w4 ⟨rfl, rfl⟩
   clear y60 y61 y62 y63 y64
   go_wp2_with fail
   have hWs : (w3.alloc (.cells #[.int .i64 k, .string t, .slice mo ms.length mc, .slice lo l.length lc, .int .i64 p] 29)).heap.size = w3.heap.size + 1 := by simp
   have hWb := alloc_at w3 (.cells #[.int .i64 k, .string t, .slice mo ms.length mc, .slice lo l.length lc, .int .i64 p] 29)
   have hbW : Below w3.heap.size w3 (w3.alloc (.cells #[.int .i64 k, .string t, .slice mo ms.length mc, .slice lo l.length lc, .int .i64 p] 29)) := (Below.refl _ _).alloc (Nat.le_refl _) _
   obtain ⟨W, hW⟩ : ∃ W, W = w3.alloc (.cells #[.int .i64 k, .string t, .slice mo ms.length mc, .slice lo l.length lc, .int .i64 p] 29) := ⟨_, rfl⟩
   rw [← hW] at hWs hWb hbW
   rw [← hW]
   have hbXW : Below X.heap.size X W := HB3.out.trans (hbW.mono (by omega))
   have hbwW : Below w.heap.size w W := HB0.out.trans (hbXW.mono (by omega))
   have hLW : LAt (fun g => g < B) W (.slice lo l.length lc) l := HL.out.keeps (keeps_low (hbXW.mono (by omega)))
   obtain ⟨cf, hcf⟩ := CfAt.of hLW
   have HH : Hid (Hands Fence.wide 8 Try.prog 87 #[.pointer (some ⟨w3.heap.size, 0, none⟩)] (partA cf l) (KeepsB (fun g => g < B ∨ g = w3.heap.size)) (pix l).length W) := by
    by_cases hk : k = 4
    ·subst hk
     exact parts1_hands 8 w3.heap.size t (.slice mo ms.length mc) (.slice lo l.length lc) p l cf W (.inr rfl) (by omega) hWb (hLW.mono fun g h => .inl h) (hcf.mono fun g h => .inl h) (by omega)
    ·have hl0 := HLEAF.out hk
     rw [show (pix l).length = 0 by rw [hl0]; rfl]
     exact parts0_hands 8 w3.heap.size k hk t _ _ p (partA cf l) W (by omega) hWb
   have h0 : VI B bw ls q bs l w (.slice vo bs.length vc) w3.heap.size #[.int .i64 k, .string t, .slice mo ms.length mc, .slice lo l.length lc, .int .i64 p] 0 W := by
    refine ⟨.slice vo bs.length vc, (hbW.block _ (by omega)).trans HZ5.out, ?_, HG3.out.trans (Grw.of_below hbW _), (hbW.block _ (by omega)).trans HZ4.out, (hbW.block _ (by omega)).trans HZ7.out, by omega, HWD.out.below hbXW (by omega), hWb⟩
    have e : vUp (isVar ls) l q 0 = [] := rfl
    rw [e, List.map_nil, List.append_nil]
    exact HO3.out.below hbW
   have HCF := Lib.hid hcf
   have HBWW := Lib.hid hbwW
   have HLW := Lib.hid hLW
   clear hW hWb hbW hbXW hbwW hLW hcf
   refine (wpIn_wide (n := 9)).1 ?_
   refine wpIn_rangeFunc_count (F := Fence.wide) rfl (by decide) (gf := 87) (lb := #[.pointer (some ⟨w3.heap.size, 0, none⟩)]) rfl trivial (enters_of Try.func87 (by kernel_rfl) rfl) HH.out (fun h k => h.trans k) (fun W' l' o o' _ hl ho _ => keepsB_putObj W' l' o o' hl ho)
    (Below.refl _ _) (fun k => partA_size cf l k) (VI B bw ls q bs l w (.slice vo bs.length vc) w3.heap.size #[.int .i64 k, .string t, .slice mo ms.length mc, .slice lo l.length lc, .int .i64 p]) (fun _ _ _ => False) (VI.own (by omega) (by omega)) (fun _ _ _ _ _ h _ _ => h) h0
    (VAx 0 cf l (fun x9 x10 x23 => { tmps := #[.agg #[.map (some bw)], .slice vo bs.length vc, .agg #[.int .i64 k, .string t, .slice mo ms.length mc, .slice lo l.length lc, .int .i64 p], .int .i64 q, .pointer (some ⟨w.heap.size, 0, none⟩), .pointer (some ⟨w.heap.size + 1, 0, none⟩), .pointer (some ⟨w.heap.size + 1 + 1, 0, none⟩), .pointer (some ⟨w.heap.size + 1 + 1 + 1, 0, none⟩), .slice none 0 0, x9, x10, .agg #[.map (some bw)], .agg #[.int .i64 k, .string t, .slice mo ms.length mc, .slice lo l.length lc, .int .i64 p], .int .i64 ro, .bool false, undef, undef, undef, undef, undef, undef, .agg #[.int .i64 k, .string t, .slice mo ms.length mc, .slice lo l.length lc, .int .i64 p], .func (.func 87) #[] #[.pointer (some ⟨w3.heap.size, 0, none⟩)], x23, x10, undef, undef, undef, undef, undef, undef, undef, undef], defers := [] })) VAx.own ?assign ?body ?done ?stop
   case stop => intro D c k' W' _ _ h _; exact h.elim
   case done =>
    intro D W' hD ⟨v', g5, go, gg, g4, g7, gs, gw, gb⟩ hK
    have e5 : W'.cell? ⟨w.heap.size + 1, 0, none⟩ = some v' := by rw [Lib.cell_of_heap g5]; rfl
    obtain ⟨vo', vc', hvf⟩ := go.form
    obtain ⟨nn, hnn⟩ : ∃ n, n = (bs ++ (vUp (isVar ls) l q (pix l).length).map vB).length := ⟨_, rfl⟩
    rw [← hnn] at hvf
    subst hvf
    clear hnn
    have HGO := Lib.hid go
    have HGG := Lib.hid gg
    clear g5 go gg g4 g7 gw gb
    go_wp2_with fail
    refine ⟨by simp, .inl ⟨_, _, rfl, run_takeDeferred hK, ?_⟩⟩
    have hgD := grownBy_putObj' W' D (.deferred none)
    have hrD : ∀ r, some D = some r → ∃ o : Obj, W'.heap[r]? = some o ∧ o.isCells = false := fun r e => by cases e; exact ⟨_, hK, rfl⟩
    refine ⟨_, results_tmp rfl _ _ _, .slice vo' nn vc', rfl, ?_, HGG.out.turn hgD (fun r e => by cases e; omega)⟩
    rw [HE.out, ← vUp_all ls l q HWF.out]
    exact HGO.out.turn hgD hrD
   case assign =>
    intro l' k' W' K hk hi hK
    have hjl := pix_lt hk
    have hpa := partA_pc (cf := cf) hk
    have hpc : pc cf l k' = cf ((pix l)[k']) := by unfold pc; rw [List.getElem?_eq_getElem hk, Option.getD_some]
    obtain ⟨k5, t5, mo5, mn5, mc5, lo5, ln5, lc5, p5, hcs⟩ := At_slices (HCF.out _ hjl).1
    rw [hpa, hpc, hcs]
    gi_wp2
    refine hK _ _ (keepsFrom_cells (World.grownBy_alloc _ _ none) (fun r e => by cases e)) (KeepsB.of_below ((Below.refl _ _).alloc (Nat.le_refl _) _)) ((VI.own (C := W.heap.size) (by omega) (by omega)) k' W' _ none hi (World.grownBy_alloc _ _ none) (fun r e => by cases e)) ?_
    refine ⟨W'.heap.size, ?_, ?_, ?_⟩
    ·exact Nat.zero_le _
    ·rw [hpc, hcs]; exact alloc_at _ _
    ·rw [hpc, hcs]
   case body =>
    intro l' k' a' W' hk hi hax
    obtain ⟨Bx, _, hbx, rfl⟩ := hax
    obtain ⟨v', g5, go, gg, g4, g7, gs, gw, gb⟩ := hi
    have hjl := pix_lt hk
    have hpc : pc cf l k' = cf ((pix l)[k']) := by unfold pc; rw [List.getElem?_eq_getElem hk, Option.getD_some]
    have hus := vUp_succ (isVar ls) l q k' hk
    have hule := vUp_le (isVar ls) l q k' hk
    have hsg := size_get l _ hjl
    have hwfp := wfs_get HWF.out _ hjl
    have hpb : nxtDots (l.drop ((pix l)[k'] + 1)) = pb l k' := by unfold pb; rw [List.getElem?_eq_getElem hk, Option.getD_some]
    rw [hpb] at hus
    have hdat := (HCF.out _ hjl).1
    rw [← hpc] at hdat
    obtain ⟨k5, t5, mo5, mn5, mc5, lo5, ln5, lc5, p5, hcs⟩ := At_slices hdat
    rw [hcs] at hdat hbx
    obtain ⟨dp, hdp⟩ : ∃ d, d = l[(pix l)[k']] := ⟨_, rfl⟩
    rw [← hdp] at hdat hus hule hsg hwfp
    obtain ⟨bb, hbb⟩ : ∃ b, b = pb l k' := ⟨_, rfl⟩
    rw [← hbb] at hus
    rw [hcs, ← hbb]
    obtain ⟨bs', hbs'⟩ : ∃ x, x = bs ++ (vUp (isVar ls) l q k').map vB := ⟨_, rfl⟩
    have hbl : bs'.length = bs.length + (vUp (isVar ls) l q k').length := by rw [hbs', List.length_append, List.length_map]
    rw [← hbs'] at go
    have hnew : bs' ++ (dp.vars (isVar ls) (if bb = true then q + 1 else q)).map vB = bs ++ (vUp (isVar ls) l q (k' + 1)).map vB := by rw [hbs', hus, List.map_append, List.append_assoc]
    obtain ⟨vo', vc', hvf⟩ := go.form
    obtain ⟨nb', hnb'⟩ : ∃ m, m = bs'.length := ⟨_, rfl⟩
    rw [← hnb'] at hvf
    subst hvf
    have hlenb : bs'.length + dp.size ≤ 3000000 := by omega
    have HLENB := Lib.hid hlenb
    clear hbl hnb' hlenb hule
    have hlow5 := go.low
    have hBW : Below B w W' := gg.below hBw (fun x hx => (HLOW.out x hx).1)
    have HGO := Lib.hid go
    have HGG := Lib.hid gg
    have HG4 := Lib.hid g4
    have HG5 := Lib.hid g5
    have HG7 := Lib.hid g7
    have HBX := Lib.hid hbx
    have HGW := Lib.hid gw
    have HGX := Lib.hid gb
    have hrbx : ∀ r, (Value.slice vo' nb' vc').ownBlock = some r → r ≠ w3.heap.size := fun r hr e => by
     subst e
     exact (go.ne_block gb (by decide)).elim (fun h => by rw [h] at hr; cases hr) (fun h => h hr)
    have HRBX := Lib.hid hrbx
    clear hrbx
    have HWP := Lib.hid hwfp
    have hdatW : Keeps (fun g => g < B) W W' := fun g c T fz hg h _ => ⟨fz, by rw [hBW.block g hg, ← HBWW.out.block g (by have : g < B := hg; omega)]; exact h⟩
    have HDAT := Lib.hid (Dt.At.keeps hdatW _ _ hdat)
    obtain ⟨q9, hq9⟩ : ∃ q9, q9 = (if bb = true then q + 1 else q) := ⟨_, rfl⟩
    have F50 : ∀ w : World, Calls Try.prog 72 #[.int .i64 q, .bool bb] w fun e w' => e = .returned (.int .i64 q9) ∧ w = w' := fun w => by rw [hq9]; exact inner_any q bb (by omega) (by omega) w
    have F5 := Lib.hid F50
    have hqq : 0 ≤ q9 ∧ q9 + dp.size ≤ 9000 := by rw [hq9]; split <;> omega
    have HQQ := Lib.hid hqq
    rw [← hq9] at hnew
    have HNEW := Lib.hid hnew
    clear hq9 F50
    have HLOW5 := Lib.hid hlow5
    have HBB : Hid (∀ r, (Value.slice vo' nb' vc').ownBlock = some r → r ≠ Bx ∧ r ≠ w.heap.size ∧ r ≠ w.heap.size + 1 ∧ r ≠ w.heap.size + 1 + 1 + 1) := by
     intro r hr
     refine ⟨fun e => ?_, fun e => ?_, fun e => ?_, fun e => ?_⟩ <;> subst e
     ·exact (go.ne_block hbx (by decide)).elim (fun h => by rw [h] at hr; cases hr) (fun h => h hr)
     ·exact (go.ne_block g4 (by decide)).elim (fun h => by rw [h] at hr; cases hr) (fun h => h hr)
     ·exact (go.ne_block g5 (by decide)).elim (fun h => by rw [h] at hr; cases hr) (fun h => h hr)
     ·exact (go.ne_block g7 (by decide)).elim (fun h => by rw [h] at hr; cases hr) (fun h => h hr)
    have hbx5 : Bx ≠ w.heap.size + 1 := fun e => by rw [e, g5] at hbx; cases hbx
    clear g5 go gg g4 g7 hbx gw gb hjl hpc hus hpb hdat hcs hdp hbb hbs' hnew hlow5 hBW hdatW hqq hwfp
    refine wpIn_block ?_
    refine region_round_held (S := KeepsB (fun g => g < B ∨ g = w.heap.size ∨ g = w.heap.size + 1 + 1 + 1 ∨ g = Bx) W') (by kernel_rfl) (by kernel_rfl) (fun ⟨_, _, h⟩ => h) (KeepsB.of_below ((Below.refl _ _).drew)) (fun hHeld => ?_)
    have hbd0 : Below W'.heap.size W' W'.drew := (Below.refl _ _).drew
    have ho0 := HGO.out.below hbd0
    have hg0 : Grw w W'.drew (.slice vo bs.length vc) (.slice vo' nb' vc') := HGG.out.trans (Grw.of_below hbd0 _)
    have h50 : W'.drew.heap[w.heap.size + 1]? = some (Obj.cells #[.slice vo' nb' vc'] 40 (0, 0)) := HG5.out
    have hw0 : WordsAt W'.drew bw ls := HGW.out.below hbd0 HGW.out.lt
    have hd0 : Dt.At (fun g => g < B) W'.drew dp #[.int .i64 k5, .string t5, .slice mo5 mn5 mc5, .slice lo5 ln5 lc5, .int .i64 p5] := Dt.At.keeps (Keeps.of_below hbd0) _ _ HDAT.out
    have hs0' : W'.drew.heap.size = W'.heap.size := rfl
    have hgb0 : W'.grownBy W'.drew none := ⟨rfl, rfl, rfl, Nat.le_refl _, fun _ _ _ => rfl⟩
    generalize W'.drew = V0 at hHeld ho0 hg0 h50 hw0 hd0 hs0' hgb0 ⊢
    have HO0 := Lib.hid ho0
    have HG0 := Lib.hid hg0
    have H50 := Lib.hid h50
    have HW0 := Lib.hid hw0
    have HD0 := Lib.hid hd0
    have HGB0 := Lib.hid hgb0
    have HC : Hid (∀ w', KeepsB (fun g => g < B ∨ g = w.heap.size ∨ g = w.heap.size + 1 + 1 + 1 ∨ g = Bx) W' w' → w'.cell? ⟨w.heap.size, 0, none⟩ = some (.map (some bw)) ∧ w'.cell? ⟨w.heap.size + 1 + 1 + 1, 0, none⟩ = some (.int .i64 q) ∧ w'.cell? ⟨Bx, 0, none⟩ = some (.int .i64 k5) ∧ w'.cell? ⟨Bx, 1, none⟩ = some (.string t5) ∧ w'.cell? ⟨Bx, 2, none⟩ = some (.slice mo5 mn5 mc5) ∧ w'.cell? ⟨Bx, 3, none⟩ = some (.slice lo5 ln5 lc5) ∧ w'.cell? ⟨Bx, 4, none⟩ = some (.int .i64 p5)) := by
     intro w' h
     obtain ⟨f1, e1⟩ := h _ _ _ _ (.inr (.inl rfl)) HG4.out
     obtain ⟨f2, e2⟩ := h _ _ _ _ (.inr (.inr (.inl rfl))) HG7.out
     obtain ⟨f3, e3⟩ := h _ _ _ _ (.inr (.inr (.inr rfl))) HBX.out
     exact ⟨by rw [Lib.cell_of_heap e1]; rfl, by rw [Lib.cell_of_heap e2]; rfl, by rw [Lib.cell_of_heap e3]; rfl, by rw [Lib.cell_of_heap e3]; rfl, by rw [Lib.cell_of_heap e3]; rfl, by rw [Lib.cell_of_heap e3]; rfl, by rw [Lib.cell_of_heap e3]; rfl⟩
    clear ho0 hg0 h50 hw0 hd0 hgb0 hbd0
    refine qts [0, 2, 3, 4] hHeld ?_
    iterate 4 (refine qtc (v := ?_) rfl rfl (fun w' hw' => ?_) ?_; rotate_left; (focus ((obtain ⟨d1, d2, e0, e1, e2, e3, e4⟩ := HC.out w' hw'; go_simp); try with_reducible rfl)); simp only [zt,zs,zz,Act.put,zi,zy,zx])
    refine qtn ?_
    simp only [zt,zs,zz,Act.put,zi,zy,zx,qzl,qzn,qza,Nat.reduceAdd,Nat.reduceSub]
    refine wpAnyH_ready (rs := [1, 5]) (by kernel_rfl) (by simp) ?_
    refine (AllReadyH.cons rfl (fun K hK => ?_) (AllReadyH.cons rfl (fun K hK => ?_) AllReadyH.nil))
    ·skip
     have c5 : V0.cell? ⟨w.heap.size + 1, 0, none⟩ = some (.slice vo' nb' vc') := by rw [Lib.cell_of_heap H50.out]; rfl
     go_simp
     refine hK.out _ _ hHeld (fun hHeld => ?_)
     clear c5
     clear hK K
     try simp only [zt,zs,zz,Act.put,zi,zy,zx]
     refine wpAnyH_ready (rs := [5]) (by kernel_rfl) (by simp) ?_
     refine (AllReadyH.cons rfl (fun K hK => ?_) AllReadyH.nil)
     go_simp
     refine (F5.out V0).mono ?_
     rintro e w5 ⟨rfl, rfl⟩
     refine hK.out _ _ hHeld (fun hHeld => ?_)
     clear hK K
     try simp only [zt,zs,zz,Act.put,zi,zy,zx]
     refine wpAnyH_ready (rs := [6]) (by kernel_rfl) (by simp) ?_
     refine (AllReadyH.cons rfl (fun K hK => ?_) AllReadyH.nil)
     go_simp
     refine (IH.out dp (by omega) HWP.out B _ bw ls _ (.slice vo' nb' vc') bs' V0 (by omega) HD0.out HW0.out hbw HO0.out HLENB.out HQQ.out.1 HQQ.out.2).mono ?_
     rintro e w6 ⟨v6, rfl, ho6, hg6⟩
     rw [HNEW.out] at ho6
     have hS6 : KeepsB (fun g => g < B ∨ g = w.heap.size ∨ g = w.heap.size + 1 + 1 + 1 ∨ g = Bx) W' w6 := KeepsB.trans hHeld (KeepsB.of_grown hg6.1 (fun g hs e => by have := HBB.out g e.symm; rcases hs with h | h | h | h; (· have := (HLOW5.out g e.symm).1; omega); all_goals (subst h; simp at this)))
     refine hK.out _ _ hS6 (fun hHeld => ?_)
     have HO6 := Lib.hid ho6
     have HG6 := Lib.hid hg6
     clear ho6 hg6 hS6
     clear hK K
     try simp only [zt,zs,zz,Act.put,zi,zy,zx]
     refine wpAnyH_ready (rs := [7]) (by kernel_rfl) (by simp) ?_
     refine (AllReadyH.cons rfl (fun K hK => ?_) AllReadyH.nil)
     have h56 : w6.heap[w.heap.size + 1]? = some (Obj.cells #[.slice vo' nb' vc'] 40 (0, 0)) := (HG6.out.1.block _ (by omega) (fun e => (HBB.out _ e.symm).2.2.1 rfl)).trans H50.out
     have c56 : w6.cell? ⟨w.heap.size + 1, 0, none⟩ = some (.slice vo' nb' vc') := by rw [Lib.cell_of_heap h56]; rfl
     have f56 : w6.frozen? ⟨w.heap.size + 1, 0, none⟩ = false := by simp [World.frozen?, h56]
     obtain ⟨vo6, vc6, hv6⟩ := HO6.out.form
     obtain ⟨n6, hn6⟩ : ∃ n, n = (bs ++ (vUp (isVar ls) l q (k' + 1)).map vB).length := ⟨_, rfl⟩
     rw [← hn6] at hv6
     subst hv6
     clear hn6
     go_simp
     have hS7 : KeepsB (fun g => g < B ∨ g = w.heap.size ∨ g = w.heap.size + 1 + 1 + 1 ∨ g = Bx) W' (w6.setCell ⟨w.heap.size + 1, 0, none⟩ (.slice vo6 n6 vc6)) := KeepsB.trans hHeld (keepsB_set _ _ _ (fun h => by rcases h with h | h | h | h <;> omega))
     refine hK.out _ _ hS7 (fun hHeld => ?_)
     have HS7 := Lib.hid hS7
     have H56 := Lib.hid h56
     clear c56 f56 h56 hS7
     clear hK K
     try simp only [zt,zs,zz,Act.put,zi,zy,zx]
     refine wpAnyH_done (by kernel_rfl) ?_ _
     refine NoPanic.normal ?_
     clear hHeld
     show KeepsFrom W.heap.size W' _ ∧ KeepsB (fun g => g < B ∨ g = w3.heap.size) W' _ ∧ VI B bw ls q bs l w (.slice vo bs.length vc) w3.heap.size _ (k' + 1) _
     have hset := grownBy_setCell' w6 (w.heap.size + 1) (.slice vo6 n6 vc6)
     have h4V : V0.heap[w.heap.size]? = some (Obj.cells #[.map (some bw)] 82 (0, 0)) := cells_turn HG4.out HGB0.out (fun r e => by cases e)
     have h7V : V0.heap[w.heap.size + 1 + 1 + 1]? = some (Obj.cells #[.int .i64 q] 3 (0, 0)) := cells_turn HG7.out HGB0.out (fun r e => by cases e)
     have hxV := cells_turn HGX.out HGB0.out (fun r e => by cases e)
     have h46 := (HG6.out.1.block _ (Array.getElem?_eq_some_iff.1 h4V).1 (fun e => (HBB.out _ e.symm).2.1 rfl)).trans h4V
     have h76 := (HG6.out.1.block _ (Array.getElem?_eq_some_iff.1 h7V).1 (fun e => (HBB.out _ e.symm).2.2.2 rfl)).trans h7V
     have hx6 := (HG6.out.1.block _ (Array.getElem?_eq_some_iff.1 hxV).1 (fun e => HRBX.out _ e.symm rfl)).trans hxV
     have hs6 := HG6.out.1.size
     refine ⟨?_, ?_, ?_⟩
     ·exact (keepsFrom_cells HGB0.out (fun r e => by cases e)).trans ((keepsFrom_cells HG6.out.1 HO0.out.row_cells).trans (keepsFrom_cells hset (fun r e => by injection e with e; subst e; exact ⟨_, _, _, H56.out⟩)))
     ·refine (KeepsB.of_turn HGB0.out (fun r e => by cases e)).trans ((KeepsB.of_grown HG6.out.1 (fun g hs e => ?_)).trans (keepsB_set _ _ _ (fun h => ?_)))
      ·rcases hs with h | h
       ·have := (HLOW5.out g e.symm).1; omega
       ·exact HRBX.out g e.symm h
      ·rcases h with h | h <;> omega
     ·refine ⟨.slice vo6 n6 vc6, heap_setCell_same w6 (w.heap.size + 1) 0 _ 40 _ H56.out, ?_, (HG0.out.trans HG6.out).turn hset (fun r e => by injection e with e; omega), ?_, ?_, ?_, ?_, ?_⟩
      ·exact HO6.out.kept hset (HO6.out.ne_block H56.out (by decide)) (keepsB_set _ _ _ (fun h => by omega))
      ·rw [heap_setCell_other _ _ _ _ (by show w.heap.size ≠ w.heap.size + 1; omega)]; exact h46
      ·rw [heap_setCell_other _ _ _ _ (by show w.heap.size + 1 + 1 + 1 ≠ w.heap.size + 1; omega)]; exact h76
      ·have := hset.size; omega
      ·exact (HW0.out.turn HG6.out.1 (fun e => by have := (HLOW5.out _ e).1; omega)).turn hset (fun e => by injection e with e; omega)
      ·rw [heap_setCell_other _ _ _ _ (by show w3.heap.size ≠ w.heap.size + 1; omega)]; exact hx6
    ·skip
     go_simp
     refine (F5.out V0).mono ?_
     rintro e w5 ⟨rfl, rfl⟩
     refine hK.out _ _ hHeld (fun hHeld => ?_)
     clear hK K
     try simp only [zt,zs,zz,Act.put,zi,zy,zx]
     refine wpAnyH_ready (rs := [1]) (by kernel_rfl) (by simp) ?_
     refine (AllReadyH.cons rfl (fun K hK => ?_) AllReadyH.nil)
     have c5 : V0.cell? ⟨w.heap.size + 1, 0, none⟩ = some (.slice vo' nb' vc') := by rw [Lib.cell_of_heap H50.out]; rfl
     go_simp
     refine hK.out _ _ hHeld (fun hHeld => ?_)
     clear c5
     clear hK K
     try simp only [zt,zs,zz,Act.put,zi,zy,zx]
     refine wpAnyH_ready (rs := [6]) (by kernel_rfl) (by simp) ?_
     refine (AllReadyH.cons rfl (fun K hK => ?_) AllReadyH.nil)
     go_simp
     refine (IH.out dp (by omega) HWP.out B _ bw ls _ (.slice vo' nb' vc') bs' V0 (by omega) HD0.out HW0.out hbw HO0.out HLENB.out HQQ.out.1 HQQ.out.2).mono ?_
     rintro e w6 ⟨v6, rfl, ho6, hg6⟩
     rw [HNEW.out] at ho6
     have hS6 : KeepsB (fun g => g < B ∨ g = w.heap.size ∨ g = w.heap.size + 1 + 1 + 1 ∨ g = Bx) W' w6 := KeepsB.trans hHeld (KeepsB.of_grown hg6.1 (fun g hs e => by have := HBB.out g e.symm; rcases hs with h | h | h | h; (· have := (HLOW5.out g e.symm).1; omega); all_goals (subst h; simp at this)))
     refine hK.out _ _ hS6 (fun hHeld => ?_)
     have HO6 := Lib.hid ho6
     have HG6 := Lib.hid hg6
     clear ho6 hg6 hS6
     clear hK K
     try simp only [zt,zs,zz,Act.put,zi,zy,zx]
     refine wpAnyH_ready (rs := [7]) (by kernel_rfl) (by simp) ?_
     refine (AllReadyH.cons rfl (fun K hK => ?_) AllReadyH.nil)
     have h56 : w6.heap[w.heap.size + 1]? = some (Obj.cells #[.slice vo' nb' vc'] 40 (0, 0)) := (HG6.out.1.block _ (by omega) (fun e => (HBB.out _ e.symm).2.2.1 rfl)).trans H50.out
     have c56 : w6.cell? ⟨w.heap.size + 1, 0, none⟩ = some (.slice vo' nb' vc') := by rw [Lib.cell_of_heap h56]; rfl
     have f56 : w6.frozen? ⟨w.heap.size + 1, 0, none⟩ = false := by simp [World.frozen?, h56]
     obtain ⟨vo6, vc6, hv6⟩ := HO6.out.form
     obtain ⟨n6, hn6⟩ : ∃ n, n = (bs ++ (vUp (isVar ls) l q (k' + 1)).map vB).length := ⟨_, rfl⟩
     rw [← hn6] at hv6
     subst hv6
     clear hn6
     go_simp
     have hS7 : KeepsB (fun g => g < B ∨ g = w.heap.size ∨ g = w.heap.size + 1 + 1 + 1 ∨ g = Bx) W' (w6.setCell ⟨w.heap.size + 1, 0, none⟩ (.slice vo6 n6 vc6)) := KeepsB.trans hHeld (keepsB_set _ _ _ (fun h => by rcases h with h | h | h | h <;> omega))
     refine hK.out _ _ hS7 (fun hHeld => ?_)
     have HS7 := Lib.hid hS7
     have H56 := Lib.hid h56
     clear c56 f56 h56 hS7
     clear hK K
     try simp only [zt,zs,zz,Act.put,zi,zy,zx]
     refine wpAnyH_done (by kernel_rfl) ?_ _
     refine NoPanic.normal ?_
     clear hHeld
     show KeepsFrom W.heap.size W' _ ∧ KeepsB (fun g => g < B ∨ g = w3.heap.size) W' _ ∧ VI B bw ls q bs l w (.slice vo bs.length vc) w3.heap.size _ (k' + 1) _
     have hset := grownBy_setCell' w6 (w.heap.size + 1) (.slice vo6 n6 vc6)
     have h4V : V0.heap[w.heap.size]? = some (Obj.cells #[.map (some bw)] 82 (0, 0)) := cells_turn HG4.out HGB0.out (fun r e => by cases e)
     have h7V : V0.heap[w.heap.size + 1 + 1 + 1]? = some (Obj.cells #[.int .i64 q] 3 (0, 0)) := cells_turn HG7.out HGB0.out (fun r e => by cases e)
     have hxV := cells_turn HGX.out HGB0.out (fun r e => by cases e)
     have h46 := (HG6.out.1.block _ (Array.getElem?_eq_some_iff.1 h4V).1 (fun e => (HBB.out _ e.symm).2.1 rfl)).trans h4V
     have h76 := (HG6.out.1.block _ (Array.getElem?_eq_some_iff.1 h7V).1 (fun e => (HBB.out _ e.symm).2.2.2 rfl)).trans h7V
     have hx6 := (HG6.out.1.block _ (Array.getElem?_eq_some_iff.1 hxV).1 (fun e => HRBX.out _ e.symm rfl)).trans hxV
     have hs6 := HG6.out.1.size
     refine ⟨?_, ?_, ?_⟩
     ·exact (keepsFrom_cells HGB0.out (fun r e => by cases e)).trans ((keepsFrom_cells HG6.out.1 HO0.out.row_cells).trans (keepsFrom_cells hset (fun r e => by injection e with e; subst e; exact ⟨_, _, _, H56.out⟩)))
     ·refine (KeepsB.of_turn HGB0.out (fun r e => by cases e)).trans ((KeepsB.of_grown HG6.out.1 (fun g hs e => ?_)).trans (keepsB_set _ _ _ (fun h => ?_)))
      ·rcases hs with h | h
       ·have := (HLOW5.out g e.symm).1; omega
       ·exact HRBX.out g e.symm h
      ·rcases h with h | h <;> omega
     ·refine ⟨.slice vo6 n6 vc6, heap_setCell_same w6 (w.heap.size + 1) 0 _ 40 _ H56.out, ?_, (HG0.out.trans HG6.out).turn hset (fun r e => by injection e with e; omega), ?_, ?_, ?_, ?_, ?_⟩
      ·exact HO6.out.kept hset (HO6.out.ne_block H56.out (by decide)) (keepsB_set _ _ _ (fun h => by omega))
      ·rw [heap_setCell_other _ _ _ _ (by show w.heap.size ≠ w.heap.size + 1; omega)]; exact h46
      ·rw [heap_setCell_other _ _ _ _ (by show w.heap.size + 1 + 1 + 1 ≠ w.heap.size + 1; omega)]; exact h76
      ·have := hset.size; omega
      ·exact (HW0.out.turn HG6.out.1 (fun e => by have := (HLOW5.out _ e).1; omega)).turn hset (fun e => by injection e with e; omega)
      ·rw [heap_setCell_other _ _ _ _ (by show w3.heap.size ≠ w.heap.size + 1; omega)]; exact hx6
end Go.Proofs.Ytecljchifebljaa
