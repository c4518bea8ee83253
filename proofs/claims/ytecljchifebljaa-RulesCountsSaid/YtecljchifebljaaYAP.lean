/- The program's Same (datum.Same), at any two data: as at stage 2's seat. -/
import Derived.Test.YtecljchifebljaaYAL
import Derived.Test.YtecljchifebljaaYAC
import Derived.Test.YtecljchifebljaaYAE
import Derived.Test.YtecljchifebljaaYAA
import Derived.Test.YtecljchifebljaaTB4
import Derived.Test.YtecljchifebljaaYAN
set_option linter.unusedVariables false
set_option linter.unusedSimpArgs false
namespace Go.Proofs.Ytecljchifebljaa
open Go.RowKit
set_option maxHeartbeats 2000000 in
theorem equal_any (S T : Nat → Prop) (mv nv : Value) (ms ns : List Int) (w : World) (h1 : MAt S w mv ms) (h2 : MAt T w nv ns) :
  Calls Try.prog 98 #[mv, nv] w (RetBool (ms == ns) w) := by
 have hl := h1.short
 obtain ⟨ao, cap, rfl⟩ := h1.form
 obtain ⟨bo, cap', rfl⟩ := h2.form
 have H1 := Lib.hid h1
 have H2 := Lib.hid h2
 clear h1 h2
 by_cases hlen : ms.length = ns.length
 ·have q0 : ((ms.length : Int) != (ns.length : Int)) = false := by simp [hlen]
  have HLN := Lib.hid hlen
  clear hlen
  go_enter Try.func98, Try.ntmps98
  go_wp2_with fail
  go_loopw [13] (fun iv wr => EInv ms ns w iv wr) (fun iv _ => ms.length - (intOf iv).toNat)
  case atStart => exact ⟨0, 0, Nat.zero_le _, rfl, rfl, rfl⟩
  case round =>
   obtain ⟨j, m, hj, rfl, ht, rfl⟩ := hrel
   have HT := Lib.hid ht
   clear ht
   by_cases hlt : j < ms.length
   ·have hlt2 : j < ns.length := by have := HLN.out; omega
    obtain ⟨g, o, rfl, e1⟩ := H1.out.get j hlt
    obtain ⟨g2, o2, rfl, e2⟩ := H2.out.get j hlt2
    have hsw : decide ((j : Int) < (ns.length : Int)) = true := decide_eq_true (by omega)
    by_cases he : ms[j] = ns[j]
    ·have HN := Lib.hid (take_ext ms ns j HT.out hlt hlt2 he)
     rw [he] at e1
     have q1 : (ns[j] != ns[j]) = false := by simp
     clear he
     go_wp2_with fail
     go_quiet (fail)
     go_wp2_with fail
     go_roundw
     case rel => exact ⟨j + 1, m + nq, by omega, by go_num, HN.out, rfl⟩
     case measure => simp [intOf]; omega
    ·have q1 : (ms[j] != ns[j]) = true := by rw [bne_iff_ne]; exact he
     have hr : (ms == ns) = false := by rw [beq_eq_false_iff_ne]; intro e; subst e; exact he rfl
     have HR := Lib.hid hr
     clear he hr
     go_wp2_with fail
     go_quiet (fail)
     go_wp2_with fail
     go_ret
     exact ⟨by rw [HR.out]; rfl, (Below.refl _ _).trans ⟨rfl, rfl, rfl, Nat.le_refl _, fun _ _ => rfl⟩⟩
   ·obtain rfl : j = ms.length := by omega
    have hr : (ms == ns) = true := by
     have h := HT.out
     rw [List.take_length, HLN.out, List.take_length] at h
     rw [beq_iff_eq]; exact h
    have HR := Lib.hid hr
    clear hr
    go_wp2_with fail
    go_ret
    exact ⟨by rw [HR.out]; rfl, (Below.refl _ _).trans ⟨rfl, rfl, rfl, Nat.le_refl _, fun _ _ => rfl⟩⟩
 ·have q0 : ((ms.length : Int) != (ns.length : Int)) = true := by rw [bne_iff_ne]; omega
  have hr : (ms == ns) = false := by rw [beq_eq_false_iff_ne]; intro e; subst e; exact hlen rfl
  rw [hr]
  clear hlen hr
  go_enter Try.func98, Try.ntmps98
  go_wp2_with fail
  go_ret
  exact ⟨rfl, Below.refl _ _⟩

theorem alloc_old' (w : World) (o : Obj) (k : Nat) (h : k < w.heap.size) : (w.alloc o).heap[k]? = w.heap[k]? := Lib.alloc_old w o k h
theorem bcell28 {W W1 : World} (hb : Below W.heap.size W W1) : ∀ b o, b < W.heap.size → W1.cell? ⟨b, o, none⟩ = W.cell? ⟨b, o, none⟩ := fun b o h => hb.cell (p := ⟨b, o, none⟩) h
/-- What Same answers of two data. -/
def SameOk (n : Nat) : Prop := ∀ (d e : Dt), d.size ≤ n → ∀ (S T : Nat → Prop) (cs ds : Array Value) (w : World), Dt.At S w d cs → Dt.At T w e ds →
  Calls Try.prog 88 #[.agg cs, .agg ds] w (RetBool (d.same e) w)
set_option maxHeartbeats 8000000 in
set_option maxRecDepth 100000 in
theorem equalFunc_any (n : Nat) (ih : SameOk n) (S T : Nat → Prop) (lv mv : Value) (l m : List Dt) (w : World) (h1 : LAt S w lv l) (h2 : LAt T w mv m) (hn : Dt.sizes l ≤ n) (hn2 : n ≤ 1000000000) :
  Calls Try.prog 99 #[lv, mv, .func (.func 88) #[] #[]] w (RetBool (Dt.sames l m) w) := by
 obtain ⟨ao, cap, rfl⟩ := h1.form
 obtain ⟨bo, cap', rfl⟩ := h2.form
 have H1 := Lib.hid h1
 have H2 := Lib.hid h2
 have IH : Hid (SameOk n) := ih
 have hl := length_sizes l
 clear h1 h2 ih
 by_cases hlen : l.length = m.length
 ·have q0 : ((l.length : Int) != (m.length : Int)) = false := by simp [hlen]
  have HLN := Lib.hid hlen
  clear hlen
  go_enter Try.func99, Try.ntmps99
  go_wp2_with fail
  go_loopw [17] (fun iv wr => FInv l m w iv wr) (fun iv _ => l.length - (intOf iv).toNat)
  case atStart => exact ⟨0, Nat.zero_le _, rfl, fun i _ _ h => absurd h (Nat.not_lt_zero i), Below.refl _ _⟩
  case round =>
   obtain ⟨j, hj, rfl, ht, hb⟩ := hrel
   have HT := Lib.hid ht
   have HB := Lib.hid hb
   have G1 := Lib.hid (H1.out.keeps (Keeps.of_below hb))
   have G2 := Lib.hid (H2.out.keeps (Keeps.of_below hb))
   have hBr : w.heap.size ≤ wr.heap.size := hb.size
   clear ht hb
   by_cases hlt : j < l.length
   ·have hlt2 : j < m.length := by have := HLN.out; omega
    obtain ⟨g, o, k, t, mv', lv', p, rfl, hS, -, hat, e0, e1, e2, e3, e4, o1, o2⟩ := G1.out.get j hlt
    obtain ⟨g2, o', k2, t2, mv2, lv2, p2, rfl, hS2, -, hat2, f0, f1, f2, f3, f4, o3, o4⟩ := G2.out.get j hlt2
    have hsw : decide ((j : Int) < (m.length : Int)) = true := decide_eq_true (by omega)
    have A1 := Lib.hid hat
    have A2 := Lib.hid hat2
    have z1 : (#[.int .i64 k, .string t, mv', lv', .int .i64 p] : Array Value).all (·.oneCell') = true := by simp [Value.oneCell'] at o1 o2 ⊢; exact ⟨o1, o2⟩
    have z2 : (#[.int .i64 k2, .string t2, mv2, lv2, .int .i64 p2] : Array Value).all (·.oneCell') = true := by simp [Value.oneCell'] at o3 o4 ⊢; exact ⟨o3, o4⟩
    have hsl := size_get l j hlt
    clear hat hat2
    go_upto_region 6 with (refine wpList_store_row rfl 29 _ _ rfl wr.heap.size #[.int .i64 k, .string t, mv', lv', .int .i64 p] rfl rfl 29 Z5 (alloc_at _ _) info40 rfl z1 ?_)
    try simp only [Act.put]
    have E0 : (wr.alloc (.cells #[.int .i64 0, .string ⟨#[]⟩, .slice none 0 0, .slice none 0 0, .int .i64 0] 29)).setRow wr.heap.size #[.int .i64 k, .string t, mv', lv', .int .i64 p] = wr.alloc (.cells #[.int .i64 k, .string t, mv', lv', .int .i64 p] 29) := setRow_new _ _ _ _
    rw [E0]
    clear E0 e0 e1 e2 e3 e4
    have B0 := (Below.refl wr.heap.size wr).alloc (Nat.le_refl _) (.cells #[.int .i64 k, .string t, mv', lv', .int .i64 p] 29)
    have C0 := bcell28 B0
    have f0' := (C0 _ _ (World.block_lt_of_cell? wr _ f0)).trans f0
    have f1' := (C0 _ _ (World.block_lt_of_cell? wr _ f1)).trans f1
    have f2' := (C0 _ _ (World.block_lt_of_cell? wr _ f2)).trans f2
    have f3' := (C0 _ _ (World.block_lt_of_cell? wr _ f3)).trans f3
    have f4' := (C0 _ _ (World.block_lt_of_cell? wr _ f4)).trans f4
    have P1 := Lib.hid (alloc_at wr (.cells #[.int .i64 k, .string t, mv', lv', .int .i64 p] 29))
    have P2 := Lib.hid B0
    have P3 : (wr.alloc (.cells #[.int .i64 k, .string t, mv', lv', .int .i64 p] 29)).heap.size = wr.heap.size + 1 := by simp
    generalize wr.alloc (.cells #[.int .i64 k, .string t, mv', lv', .int .i64 p] 29) = W1 at f0' f1' f2' f3' f4' P1 P2 P3 ⊢
    clear C0 B0 f0 f1 f2 f3 f4
    go_upto_region 7 with (refine wpList_store_row rfl 29 _ _ rfl (wr.heap.size + 1) #[.int .i64 k2, .string t2, mv2, lv2, .int .i64 p2] rfl rfl 29 Z5 (by rw [← P3]; exact alloc_at _ _) info40 rfl z2 ?_)
    try simp only [Act.put]
    have E0 : (W1.alloc (.cells #[.int .i64 0, .string ⟨#[]⟩, .slice none 0 0, .slice none 0 0, .int .i64 0] 29)).setRow (wr.heap.size + 1) #[.int .i64 k2, .string t2, mv2, lv2, .int .i64 p2] = W1.alloc (.cells #[.int .i64 k2, .string t2, mv2, lv2, .int .i64 p2] 29) := by rw [← P3]; exact setRow_new _ _ _ _
    rw [E0]
    clear E0 f0' f1' f2' f3' f4'
    have B0 := (Below.refl W1.heap.size W1).alloc (Nat.le_refl _) (.cells #[.int .i64 k2, .string t2, mv2, lv2, .int .i64 p2] 29)
    have Q1 := Lib.hid (alloc_at W1 (.cells #[.int .i64 k2, .string t2, mv2, lv2, .int .i64 p2] 29))
    have Q2 := Lib.hid ((alloc_old' W1 (.cells #[.int .i64 k2, .string t2, mv2, lv2, .int .i64 p2] 29) wr.heap.size (by omega)).trans P1.out)
    have Q3 := Lib.hid (P2.out.trans (B0.mono (by omega)))
    have Q4 := Lib.hid (Dt.At.keeps (Keeps.of_below Q3.out) _ _ A1.out)
    have Q5 := Lib.hid (Dt.At.keeps (Keeps.of_below Q3.out) _ _ A2.out)
    have Q6 : wr.heap.size ≤ (W1.alloc (.cells #[.int .i64 k2, .string t2, mv2, lv2, .int .i64 p2] 29)).heap.size := by simp; omega
    generalize hW2 : W1.alloc (.cells #[.int .i64 k2, .string t2, mv2, lv2, .int .i64 p2] 29) = W2 at Q1 Q2 Q3 Q4 Q5 Q6 ⊢
    have Q7 := Lib.hid (P3 ▸ Q1.out)
    clear B0 P1 P2 A1 A2 hW2 Q1 P3
    have Q8 := Lib.hid (HB.out.trans (Q3.out.mono hBr))
    have HC := Lib.hid (IH.out l[j] m[j] (by omega) S T _ _ W2 Q4.out Q5.out)
    clear G1 G2
    by_cases hs : Dt.same l[j] m[j] = true
    ·rw [hs] at HC
     have HN : Hid (∀ i (h1 : i < l.length) (h2 : i < m.length), i < j + 1 → Dt.same l[i] m[i] = true) := by
      intro i h1 h2 h3
      by_cases hij : i = j
      ·subst hij; exact hs
      ·exact HT.out i h1 h2 (by omega)
     clear hs
     go_wp2_with (first | (refine wpList_load_row rfl 29 _ rfl wr.heap.size rfl 29 #[.int .i64 k, .string t, mv', lv', .int .i64 p] (0, 0) _ Q2.out Try.underlying29 rfl info40 ?_) | (refine wpList_load_row rfl 29 _ rfl (wr.heap.size + 1) rfl 29 #[.int .i64 k2, .string t2, mv2, lv2, .int .i64 p2] (0, 0) _ Q7.out Try.underlying29 rfl info40 ?_))
     refine HC.out.mono ?_
     rintro e w4 ⟨rfl, hb4⟩
     have HD := Lib.hid (Q8.out.trans (hb4.mono (by omega)))
     clear hb4
     go_wp2_with fail
     go_roundw
     case rel => exact ⟨j + 1, by omega, by go_num, HN.out, HD.out⟩
     case measure => simp [intOf]; omega
    ·have hs' : Dt.same l[j] m[j] = false := by simpa using hs
     rw [hs'] at HC
     have hr := sames_get l m j hlt hlt2 hs'
     have HR := Lib.hid hr
     clear hs hs' hr
     go_wp2_with (first | (refine wpList_load_row rfl 29 _ rfl wr.heap.size rfl 29 #[.int .i64 k, .string t, mv', lv', .int .i64 p] (0, 0) _ Q2.out Try.underlying29 rfl info40 ?_) | (refine wpList_load_row rfl 29 _ rfl (wr.heap.size + 1) rfl 29 #[.int .i64 k2, .string t2, mv2, lv2, .int .i64 p2] (0, 0) _ Q7.out Try.underlying29 rfl info40 ?_))
     refine HC.out.mono ?_
     rintro e w4 ⟨rfl, hb4⟩
     have HD := Lib.hid (Q8.out.trans (hb4.mono (by omega)))
     clear hb4
     go_wp2_with fail
     go_ret
     exact ⟨by rw [HR.out]; rfl, HD.out⟩
   ·obtain rfl : j = l.length := by omega
    have hr : Dt.sames l m = true := sames_all l m HLN.out (fun i h1 h2 => HT.out i h1 h2 h1)
    have HR := Lib.hid hr
    clear hr hlt
    go_wp2_with fail
    go_ret
    exact ⟨by rw [HR.out]; rfl, HB.out⟩
 ·have q0 : ((l.length : Int) != (m.length : Int)) = true := by rw [bne_iff_ne]; omega
  rw [sames_len l m hlen]
  clear hlen
  go_enter Try.func99, Try.ntmps99
  go_wp2_with fail
  go_ret
  exact ⟨rfl, Below.refl _ _⟩

/- The contract of Same, at any two data. -/

set_option maxHeartbeats 8000000 in
set_option maxRecDepth 100000 in
theorem same_any (n : Nat) : n ≤ 1000000000 → SameOk n := by
 induction n with
 | zero => intro _ d e hd; cases d; simp [Dt.size] at hd
 | succ n ih0 =>
  intro hn d e hd S T cs ds w hat hat2
  have IH := Lib.hid (ih0 (by omega))
  obtain ⟨k, t, ms, l, p⟩ := d
  obtain ⟨k', t', ms', l', p'⟩ := e
  rw [At_mk] at hat hat2
  obtain ⟨mv, lv, rfl, hm, hl⟩ := hat
  obtain ⟨mv', lv', rfl, hm', hl'⟩ := hat2
  have hsz : Dt.sizes l ≤ n := by simp only [Dt.size] at hd; omega
  rw [same_mk]
  have o1 := hm.one
  have o2 := hl.one
  have o3 := hm'.one
  have o4 := hl'.one
  have HB := Lib.hid (((Below.refl w.heap.size w).alloc (Nat.le_refl _) (.cells #[.int .i64 k, .string t, mv, lv, .int .i64 p] 29)).alloc (by simp) (.cells #[.int .i64 k', .string t', mv', lv', .int .i64 p'] 29))
  have B0 := Keeps.of_below (S := S) HB.out
  have B1 := Keeps.of_below (S := T) HB.out
  have M1 := Lib.hid (hm.keeps B0)
  have M2 := Lib.hid (hm'.keeps B1)
  have L1 := Lib.hid (hl.keeps B0)
  have L2 := Lib.hid (hl'.keeps B1)
  clear ih0 hm hl hm' hl' hd B0 B1
  by_cases b1 : (k == k') = true
  ·rw [b1]
   by_cases b2 : (t.toList == t'.toList) = true
   ·rw [b2]
    have HE := fun w m1 m2 => equal_any S T mv mv' ms ms' w m1 m2
    by_cases b3 : (ms == ms') = true
    ·rw [b3] at HE ⊢
     have HE := Lib.hid HE
     have HF := Lib.hid (fun w h1 h2 => equalFunc_any n IH.out S T lv lv' l l' w h1 h2 hsz (by omega))
     obtain ⟨r, hr⟩ : ∃ r, r = Dt.sames l l' := ⟨_, rfl⟩
     rw [← hr] at HF ⊢
     clear hr b3
     go_enter Try.func88, Try.ntmps88
     go_wp2_with fail
     refine (HE.out _ M1.out M2.out).mono ?_
     rintro e w1 ⟨rfl, hb⟩
     have K1 := Lib.hid (HB.out.trans (hb.mono HB.out.size))
     have K2 := Lib.hid (L1.out.keeps (Keeps.of_below hb))
     have K3 := Lib.hid (L2.out.keeps (Keeps.of_below hb))
     have hc := bcell28 hb
     clear hb
     go_wp2_with fail
     refine (HF.out _ K2.out K3.out).mono ?_
     rintro e w2 ⟨rfl, hb⟩
     have K4 := Lib.hid (K1.out.trans (hb.mono K1.out.size))
     clear hb hc
     go_wp2
     go_ret
     exact ⟨rfl, K4.out⟩
    ·have b3' : (ms == ms') = false := by simpa using b3
     rw [b3'] at HE ⊢
     have HE := Lib.hid HE
     clear b3 b3'
     go_enter Try.func88, Try.ntmps88
     go_wp2_with fail
     refine (HE.out _ M1.out M2.out).mono ?_
     rintro e w1 ⟨rfl, hb⟩
     have K1 := Lib.hid (HB.out.trans (hb.mono HB.out.size))
     clear hb
     go_wp2
     go_ret
     exact ⟨rfl, K1.out⟩
   ·have b2' : (t.toList == t'.toList) = false := by simpa using b2
    rw [b2']
    clear b2
    go_enter Try.func88, Try.ntmps88
    go_wp2
    go_ret
    exact ⟨rfl, HB.out⟩
  ·have b1' : (k == k') = false := by simpa using b1
   rw [b1']
   clear b1
   go_enter Try.func88, Try.ntmps88
   go_wp2
   go_ret
   exact ⟨rfl, HB.out⟩
end Go.Proofs.Ytecljchifebljaa
namespace Go.Proofs.Ytecljchifebljaa
open Go Go.RowKit Go.MapKept
theorem run_look {w : World} {base b : Nat} {ks : List Value} (h : TbAt w base b ks) {key : Value} {kl : Lit} (hkey : keyOf Try.prog 120 key = some kl) :
  ∃ (v : Value) (zs : List Nat), (Instr.lookup 76 (.map (some b)) key false).run Try.prog w = .ok v w ∧ OwnZ w base v zs ∧ Spots ks key zs := by
 obtain ⟨es, clock, hb, hs, hbb, hk, hv, hall, hap⟩ := h
 rcases law120.find w hkey es.toList hk with ⟨h1, h2⟩ | ⟨j, e0, h1, h2, h3⟩
 ·have hnk : key ∉ ks := fun hm => by obtain ⟨x, hx, e⟩ := hall key hm; exact h2 x hx e
  exact ⟨.slice none 0 0, [], by simp [Instr.lookup, run_underlying Try.underlying76, MapKept.run_getObj_map hb, law120.check w _ hkey, h1, zero27, Result.andThen], World.ownsRow_nil _ _ _ _, Spots.empty hnk⟩
 ·obtain ⟨zs, ho, hz⟩ := hv e0 (List.mem_of_getElem? h2)
  exact ⟨e0.val, zs, by simp [Instr.lookup, run_underlying Try.underlying76, MapKept.run_getObj_map hb, law120.check w _ hkey, h1, Result.andThen], ho, h3 ▸ hz⟩
/-- Where the first variable stands that is d. -/
def fpos (bs : List Bd) (d : Dt) : Option Nat := bs.findIdx? fun b => b.name.same d
theorem same_texts {d e : Dt} (h : d.same e = true) : d.kind = e.kind ∧ d.text = e.text ∧ d.marks = e.marks := by
 obtain ⟨k, t, ms, l, p⟩ := d
 obtain ⟨k', t', ms', l', p'⟩ := e
 rw [same_mk] at h
 simp only [Bool.and_eq_true, beq_iff_eq] at h
 obtain ⟨h1, h2, h3, _⟩ := h
 refine ⟨h1, ?_, h3⟩
 rw [Lib.toList_data, Lib.toList_data] at h2
 exact ByteArray.ext (Array.toList_inj.1 h2)
theorem same_key {d e : Dt} (h : d.same e = true) : keyD d = keyD e := by
 obtain ⟨_, h2, h3⟩ := same_texts h
 unfold keyD keyV; rw [h2, h3]
theorem keysB_get (bs : List Bd) (i : Nat) : (keysB bs)[i]? = bs[i]?.map fun b => keyD b.name := by unfold keysB; rw [List.getElem?_map]
/-- By the places of a key the first one is found. -/
theorem fpos_hit {bs : List Bd} {d : Dt} {zs : List Nat} (hz : Spots (keysB bs) (keyD d) zs) {i : Nat} (hi : i < zs.length) (hb : zs[i] < bs.length) (hno : ∀ k (hk : k < zs.length) (hkb : zs[k] < bs.length), k < i → (bs[zs[k]]).name.same d = false) (hs : (bs[zs[i]]).name.same d = true) : fpos bs d = some zs[i] := by
 unfold fpos
 rw [List.findIdx?_eq_some_iff_getElem]
 refine ⟨hb, hs, fun q hq => ?_⟩
 have hqb : q < bs.length := by omega
 intro hc
 have hm : q ∈ zs := (hz.2 q).2 (by rw [keysB_get, List.getElem?_eq_getElem hqb]; exact congrArg some (same_key hc))
 obtain ⟨k, hk, rfl⟩ := List.getElem_of_mem hm
 have hki : k < i := by
  by_cases h : k < i
  ·exact h
  ·exfalso
   rcases Nat.lt_or_ge i k with h2 | h2
   ·have := List.pairwise_iff_getElem.1 hz.1 i k hi hk h2; omega
   ·have : k = i := by omega
    subst this; omega
 have := hno k hk hqb hki
 rw [this] at hc; cases hc
theorem fpos_none {bs : List Bd} {d : Dt} {zs : List Nat} (hz : Spots (keysB bs) (keyD d) zs) (hno : ∀ k (hk : k < zs.length) (hkb : zs[k] < bs.length), (bs[zs[k]]).name.same d = false) : fpos bs d = none := by
 unfold fpos
 rw [List.findIdx?_eq_none_iff]
 intro b hb
 obtain ⟨q, hq, rfl⟩ := List.getElem_of_mem hb
 cases hc : (bs[q]).name.same d with
 | false => rfl
 | true =>
  have hm : q ∈ zs := (hz.2 q).2 (by rw [keysB_get, List.getElem?_eq_getElem hq]; exact congrArg some (same_key hc))
  obtain ⟨k, hk, rfl⟩ := List.getElem_of_mem hm
  rw [hno k hk hq] at hc; cases hc
theorem Spots.lt {bs : List Bd} {key : Value} {zs : List Nat} (hz : Spots (keysB bs) key zs) (k : Nat) (hk : k < zs.length) : zs[k] < bs.length := by
 have := (hz.2 _).1 (List.getElem_mem hk)
 rw [keysB_get] at this
 cases h : bs[zs[k]]? with
 | none => rw [h] at this; cases this
 | some b => exact (List.getElem?_eq_some_iff.1 h).1
theorem OwnZ.get {w : World} {base : Nat} {v : Value} {zs : List Nat} (h : OwnZ w base v zs) (i : Nat) (hi : i < zs.length) : ∃ g c, v = .slice (some ⟨g, 0, none⟩) zs.length c ∧ base ≤ g ∧ g < w.heap.size ∧ w.cell? ⟨g, i, none⟩ = some (.int .i64 (zs[i] : Int)) := by
 rcases h.2 with ⟨_, e⟩ | ⟨g, cap, cur, e1, hb, e3, hn, _, hcs, ht⟩
 ·omega
 ·refine ⟨g, cap, e1, hb, (Array.getElem?_eq_some_iff.1 e3).1, ?_⟩
  rw [Lib.cell_of_heap e3]
  have h2 : (cur.toList.take (zs.length * 1))[i]? = some (.int .i64 (zs[i] : Int)) := by rw [ht]; simp [hi]
  rw [List.getElem?_take, if_pos (by omega)] at h2
  simpa using h2
theorem OwnZ.form {w : World} {base : Nat} {v : Value} {zs : List Nat} (h : OwnZ w base v zs) : ∃ ao c, v = .slice ao zs.length c := by
 rcases h.2 with ⟨e, hz⟩ | ⟨g, cap, cur, e1, _⟩
 ·rw [hz]; exact ⟨none, 0, e⟩
 ·exact ⟨_, _, e1⟩
def plV (bs : List Bd) (d : Dt) : Value := match fpos bs d with
 | some i => .tuple #[.int .i64 (i : Int), .bool true]
 | none => .tuple #[.int .i64 0, .bool false]
def RetPl (bs : List Bd) (d : Dt) (w : World) (e : Ending) (w' : World) : Prop := e = .returned (plV bs d) ∧ Below w.heap.size w w'
def FpInv (bs : List Bd) (d : Dt) (zs : List Nat) (w : World) (iv : Value) (wr : World) : Prop :=
 ∃ j : Nat, j ≤ zs.length ∧ iv = .int .i64 (j : Int) ∧ (∀ k (hk : k < zs.length) (hkb : zs[k] < bs.length), k < j → (bs[zs[k]]).name.same d = false) ∧ Below w.heap.size w wr
set_option maxHeartbeats 16000000 in
set_option maxRecDepth 100000 in
theorem place_any {S S' : Nat → Prop} (bs : List Bd) (lv : Value) (bm : Nat) (d : Dt) (cs : Array Value) (w : World) (hv : PsAt S w lv bs) (ht : TbAt w (bm + 1) bm (keysB bs)) (hd : Dt.At S' w d cs) (hwf : d.wf) (hl : bs.length ≤ 1000000) (hsz : ∀ b ∈ bs, b.name.size ≤ 1000000) :
  Calls Try.prog 73 #[.agg #[lv, .map (some bm)], .agg cs] w (RetPl bs d w) := by
 have hda := hd
 obtain ⟨d0, hd0⟩ : ∃ d0, d0 = d := ⟨_, rfl⟩
 have hkok : ∃ kl, keyOf Try.prog 120 (keyD d) = some kl := by
  refine keyD_ok hwf ?_
  obtain ⟨k, t, ms, l, p⟩ := d
  rw [At_mk] at hd; obtain ⟨mv, lv, _, hm, _⟩ := hd; exact hm.short
 obtain ⟨kl, hkey⟩ := hkok
 obtain ⟨k, t, mv, lv', p, rfl, om, ol⟩ := At_form hd
 obtain ⟨lo, lc, rfl⟩ := hv.form
 have HKEY := Lib.hid hkey
 have hbml := ht.lt.1
 have hb0 : Below w.heap.size w ((w.alloc (.cells #[.slice lo bs.length lc, .map (some bm)] 78)).alloc (.cells #[.int .i64 k, .string t, mv, lv', .int .i64 p] 29)) := ((Below.refl _ _).alloc (Nat.le_refl _) _).alloc (by simp) _
 have hx1 : ((w.alloc (.cells #[.slice lo bs.length lc, .map (some bm)] 78)).alloc (.cells #[.int .i64 k, .string t, mv, lv', .int .i64 p] 29)).heap[w.heap.size]? = some (Obj.cells #[.slice lo bs.length lc, .map (some bm)] 78 (0, 0)) := (Lib.alloc_old _ _ _ (by simp)).trans (alloc_at _ _)
 have hx2 := second2 w (.cells #[.slice lo bs.length lc, .map (some bm)] 78) (.cells #[.int .i64 k, .string t, mv, lv', .int .i64 p] 29)
 have hs0 : ((w.alloc (.cells #[.slice lo bs.length lc, .map (some bm)] 78)).alloc (.cells #[.int .i64 k, .string t, mv, lv', .int .i64 p] 29)).heap.size = w.heap.size + 2 := by simp
 obtain ⟨X, hX⟩ : ∃ X, X = (w.alloc (.cells #[.slice lo bs.length lc, .map (some bm)] 78)).alloc (.cells #[.int .i64 k, .string t, mv, lv', .int .i64 p] 29) := ⟨_, rfl⟩
 rw [← hX] at hb0 hx1 hx2 hs0
 have HX := Lib.hid hX
 have HB0 := Lib.hid hb0
 have HX1 := Lib.hid hx1
 have HX2 := Lib.hid hx2
 have HV := Lib.hid (hv.keeps (KeepsB.of_below hb0))
 have HT := Lib.hid (ht.kept (Below.grownRow hb0 none) (fun r e => by cases e))
 have HD := Lib.hid (Dt.At.keeps (Keeps.of_below hb0) _ _ hda)
 have HSZ := Lib.hid hsz
 clear hda hd hd0 hX hb0 hx1 hx2 hv ht hwf hkey hsz
 go_enter Try.func73, Try.ntmps73
 go_upto_region 1 with fail
 rw [← HX.out]
 have HC : Hid (∀ w', Below X.heap.size X w' → w'.cell? ⟨w.heap.size, 0, none⟩ = some (.slice lo bs.length lc) ∧ w'.cell? ⟨w.heap.size, 1, none⟩ = some (.map (some bm)) ∧ w'.cell? ⟨w.heap.size + 1, 0, none⟩ = some (.int .i64 k) ∧ w'.cell? ⟨w.heap.size + 1, 1, none⟩ = some (.string t) ∧ w'.cell? ⟨w.heap.size + 1, 2, none⟩ = some mv ∧ w'.cell? ⟨w.heap.size + 1, 3, none⟩ = some lv' ∧ w'.cell? ⟨w.heap.size + 1, 4, none⟩ = some (.int .i64 p)) := fun w' hw' => by
  have g1 : w'.heap[w.heap.size]? = some (Obj.cells #[.slice lo bs.length lc, .map (some bm)] 78 (0, 0)) := by rw [hw'.block _ (by rw [hs0]; omega)]; exact HX1.out
  have g2 : w'.heap[w.heap.size + 1]? = some (Obj.cells #[.int .i64 k, .string t, mv, lv', .int .i64 p] 29 (0, 0)) := by rw [hw'.block _ (by rw [hs0]; omega)]; exact HX2.out
  exact ⟨by rw [Lib.cell_of_heap g1]; rfl, by rw [Lib.cell_of_heap g1]; rfl, by rw [Lib.cell_of_heap g2]; rfl, by rw [Lib.cell_of_heap g2]; rfl, by rw [Lib.cell_of_heap g2]; rfl, by rw [Lib.cell_of_heap g2]; rfl, by rw [Lib.cell_of_heap g2]; rfl⟩
 refine wp_region_noPanic ?_
 refine wp_region_held_drew (S := Below X.heap.size X) (by kernel_rfl) ((Below.refl _ _).drew) (fun hHeld => ?_)
 generalize X.drew = X2 at hHeld ⊢
 refine qts [0, 1, 2, 6] hHeld ?_
 iterate 4 (refine qtc (v := ?_) rfl rfl (fun w' hw' => ?_) ?_; rotate_left; (focus ((obtain ⟨d0, d1, e0, e1, e2, e3, e4⟩ := HC.out w' hw'; go_simp); try with_reducible rfl)); simp only [List.getElem_toArray, List.getElem_cons_succ, List.getElem_cons_zero, Act.put, List.setIfInBounds_toArray, List.set_cons_zero, List.set_cons_succ])
 refine qtn ?_
 simp only [List.getElem_toArray, List.getElem_cons_succ, List.getElem_cons_zero, Act.put, List.setIfInBounds_toArray, List.set_cons_zero, List.set_cons_succ, List.length_cons, List.length_nil, List.size_toArray, Nat.reduceAdd, Nat.reduceSub]
 refine wpAnyH_ready (rs := [3]) (by kernel_rfl) (by simp) ?_
 refine (AllReadyH.cons rfl (fun K hK => ?_) AllReadyH.nil)
 go_simp
 refine (keyOf_any (Dt.At.keeps (Keeps.of_below hHeld) _ _ HD.out)).mono ?_
 rintro e w3 ⟨rfl, hb3⟩
 have hH3 := hHeld.trans (hb3.mono hHeld.size)
 refine hK.out _ _ hH3 (fun hHeld => ?_)
 have HB3 := Lib.hid hHeld
 clear hb3 hH3
 clear hK K
 try simp only [List.getElem_toArray, List.getElem_cons_succ, List.getElem_cons_zero, Act.put, List.setIfInBounds_toArray, List.set_cons_zero, List.set_cons_succ]
 refine wpAnyH_ready (rs := [4]) (by kernel_rfl) (by simp) ?_
 refine (AllReadyH.cons rfl (fun K hK => ?_) AllReadyH.nil)
 obtain ⟨zv, zs, hrun, hoz, hspot⟩ := run_look (HT.out.kept (Below.grownRow HB3.out none) (fun r e => by cases e)) HKEY.out
 obtain ⟨zo, zc, rfl⟩ := hoz.form
 unfold keyD at hrun
 go_simp
 refine hK.out _ _ HB3.out (fun hHeld => ?_)
 clear hK K
 try simp only [List.getElem_toArray, List.getElem_cons_succ, List.getElem_cons_zero, Act.put, List.setIfInBounds_toArray, List.set_cons_zero, List.set_cons_succ]
 refine qtk (i := 5) (v := ?v4) rfl rfl (fun w' hw' => ?h4) hHeld ?r4
 case h4 => go_simp; try with_reducible rfl
 simp only [List.getElem_toArray, List.getElem_cons_succ, List.getElem_cons_zero, Act.put, List.setIfInBounds_toArray, List.set_cons_zero, List.set_cons_succ]
 refine wpAnyH_done (by kernel_rfl) ?_ _
 refine NoPanic.normal ?_
 clear hHeld
 have hs3 := HB3.out.size
 have hoz2 := Lib.hid hoz
 have hzl : zs.length ≤ bs.length := spots_len hspot (by unfold keysB; rw [List.length_map])
 have HSP := Lib.hid hspot
 have HB3' := Lib.hid (HB0.out.trans (HB3.out.mono HB0.out.size))
 have HV3 := Lib.hid (HV.out.keeps (KeepsB.of_below HB3.out))
 have HD3 := Lib.hid (Dt.At.keeps (Keeps.of_below HB3.out) _ _ HD.out)
 clear hoz hspot HKEY
 go_wp2_with fail
 go_loopw [14] (fun iv wr => FpInv bs d zs w3 iv wr) (fun iv _ => zs.length - (intOf iv).toNat)
 case atStart => exact ⟨0, Nat.zero_le _, rfl, fun k hk hkb h => absurd h (by omega), Below.refl _ _⟩
 case round =>
  obtain ⟨j, hj, rfl, hno, hbw⟩ := hrel
  have HBW := Lib.hid hbw
  have HNO := Lib.hid hno
  have hsw := hbw.size
  clear hno
  by_cases hlt : j < zs.length
  ·have q1 : decide ((j : Int) < (zs.length : Int)) = true := decide_eq_true (by omega)
   obtain ⟨zj, hzj⟩ : ∃ z, z = zs[j] := ⟨_, rfl⟩
   have hzb : zj < bs.length := by rw [hzj]; exact HSP.out.lt j hlt
   have hoz3 : OwnZ wr (bm + 1) (.slice zo zs.length zc) zs := hoz2.out.kept (Below.grownRow hbw none) (by cases (Value.slice zo zs.length zc).ownBlock <;> simp)
   obtain ⟨zg, zc', ez, hzg, hzw, hzc⟩ := hoz3.get j hlt
   injection ez with ez1 ez2 ez3
   subst ez1
   rw [← hzj] at hzc
   obtain ⟨g, o, arr, fz, cs, elo, hSg, hgg, hc, hat⟩ := (HV3.out.keeps (KeepsB.of_below hbw)).get _ hzb
   subst elo
   have hgl : g < wr.heap.size := (Array.getElem?_eq_some_iff.1 hgg).1
   obtain ⟨bj, hbj⟩ : ∃ b, b = bs[zj] := ⟨_, rfl⟩
   rw [← hbj] at hat
   obtain ⟨m1, l1, m2, l2, lr, rfl, hna, _, _, a1, a2, a3, a4, a5⟩ := BdPAt_twelve hat
   have hnsz := HSZ.out _ (List.getElem_mem hzb)
   rw [← hbj] at hnsz
   have hSB : ∀ W', Below wr.heap.size wr W' → Below w3.heap.size w3 W' := fun W' h => hbw.trans (h.mono hbw.size)
   have FS0 := fun W' (h : Below wr.heap.size wr W') => same_any 1000000000 (by decide) bj.name d (by omega) S S' _ _ W' (Dt.At.keeps (Keeps.of_below h) _ _ hna) (Dt.At.keeps (Keeps.of_below (hSB W' h)) _ _ HD3.out)
   obtain ⟨b, hb⟩ : ∃ b, b = bj.name.same d := ⟨_, rfl⟩
   rw [← hb] at FS0
   obtain ⟨x0, hx0⟩ : ∃ k, k = bj.name.kind := ⟨_, rfl⟩
   obtain ⟨x1, hx1⟩ : ∃ k, k = bj.name.text := ⟨_, rfl⟩
   obtain ⟨x4, hx4⟩ : ∃ k, k = bj.name.place := ⟨_, rfl⟩
   rw [← hx0, ← hx1, ← hx4] at FS0 hc
   have FS := Lib.hid FS0
   have HHB : Hid (∀ (hz : zs[j] < bs.length), (bs[zs[j]]).name.same d = b) := by
    intro hz
    rw [hb, hbj]
    subst hzj; rfl
   have HZJ := Lib.hid hzj
   have HC4 : Hid (∀ w', Below wr.heap.size wr w' → (w'.cell? ⟨w.heap.size, 0, none⟩ = some (.slice (some ⟨g, o, none⟩) bs.length lc) ∧ w'.cell? ⟨w.heap.size, 1, none⟩ = some (.map (some bm)) ∧ w'.cell? ⟨w.heap.size + 1, 0, none⟩ = some (.int .i64 k) ∧ w'.cell? ⟨w.heap.size + 1, 1, none⟩ = some (.string t) ∧ w'.cell? ⟨w.heap.size + 1, 2, none⟩ = some mv ∧ w'.cell? ⟨w.heap.size + 1, 3, none⟩ = some lv' ∧ w'.cell? ⟨w.heap.size + 1, 4, none⟩ = some (.int .i64 p)) ∧ w'.cell? ⟨g, o + zj * 12, none⟩ = some (.int .i64 x0) ∧ w'.cell? ⟨g, o + zj * 12 + 1, none⟩ = some (.string x1) ∧ w'.cell? ⟨g, o + zj * 12 + 2, none⟩ = some m1 ∧ w'.cell? ⟨g, o + zj * 12 + 3, none⟩ = some l1 ∧ w'.cell? ⟨g, o + zj * 12 + 4, none⟩ = some (.int .i64 x4)) := fun w' hw' =>
    ⟨HC.out w' (HB3.out.trans ((hSB w' hw').mono HB3.out.size)), (hw'.cell (p := ⟨g, o + zj * 12, none⟩) hgl).trans (hc 0 (by decide)), (hw'.cell (p := ⟨g, o + zj * 12 + 1, none⟩) hgl).trans (hc 1 (by decide)), (hw'.cell (p := ⟨g, o + zj * 12 + 2, none⟩) hgl).trans (hc 2 (by decide)), (hw'.cell (p := ⟨g, o + zj * 12 + 3, none⟩) hgl).trans (hc 3 (by decide)), (hw'.cell (p := ⟨g, o + zj * 12 + 4, none⟩) hgl).trans (hc 4 (by decide))⟩
   clear hzj hb hbj hx0 hx1 hx4 hna hat hgg hSg hc FS0 hSB hoz3 hzg hbw
   go_upto_region 4 with fail
   refine wp_region_noPanic ?_
   refine wp_region_held_drew (S := Below wr.heap.size wr) (by kernel_rfl) ((Below.refl _ _).drew) (fun hHeld => ?_)
   generalize wr.drew = X4 at hHeld ⊢
   clear hzc
   refine qts [0, 1, 2, 3, 4, 5, 6] hHeld ?_
   iterate 3 (refine qtc (v := ?_) rfl rfl (fun w' hw' => ?_) ?_; rotate_left; (focus ((obtain ⟨⟨d0, d1, e0, e1, e2, e3, e4⟩, f0, f1, f2, f3, f4⟩ := HC4.out w' hw'; go_simp); try with_reducible rfl)); simp only [List.getElem_toArray, List.getElem_cons_succ, List.getElem_cons_zero, Act.put, List.setIfInBounds_toArray, List.set_cons_zero, List.set_cons_succ])
   (refine qtc (v := Value.pointer (some ⟨g, o + zj * 12, none⟩)) rfl rfl (fun w' hw' => ?_) ?_; (focus (go_simp)); simp only [List.getElem_toArray, List.getElem_cons_succ, List.getElem_cons_zero, Act.put, List.setIfInBounds_toArray, List.set_cons_zero, List.set_cons_succ])
   iterate 3 (refine qtc (v := ?_) rfl rfl (fun w' hw' => ?_) ?_; rotate_left; (focus ((obtain ⟨⟨d0, d1, e0, e1, e2, e3, e4⟩, f0, f1, f2, f3, f4⟩ := HC4.out w' hw'; go_simp); try with_reducible rfl)); simp only [List.getElem_toArray, List.getElem_cons_succ, List.getElem_cons_zero, Act.put, List.setIfInBounds_toArray, List.set_cons_zero, List.set_cons_succ])
   refine qtn ?_
   simp only [List.getElem_toArray, List.getElem_cons_succ, List.getElem_cons_zero, Act.put, List.setIfInBounds_toArray, List.set_cons_zero, List.set_cons_succ, List.length_cons, List.length_nil, List.size_toArray, Nat.reduceAdd, Nat.reduceSub]
   refine wpAnyH_ready (rs := [7]) (by kernel_rfl) (by simp) ?_
   refine (AllReadyH.cons rfl (fun K hK => ?_) AllReadyH.nil)
   go_simp
   refine (FS.out _ hHeld).mono ?_
   rintro e w7 ⟨rfl, hb7⟩
   have hH7 := hHeld.trans (hb7.mono hHeld.size)
   refine hK.out _ _ hH7 (fun hHeld => ?_)
   have HB7 := Lib.hid hHeld
   clear hb7 hH7
   clear hK K
   try simp only [List.getElem_toArray, List.getElem_cons_succ, List.getElem_cons_zero, Act.put, List.setIfInBounds_toArray, List.set_cons_zero, List.set_cons_succ]
   refine wpAnyH_done (by kernel_rfl) ?_ _
   refine NoPanic.normal ?_
   clear hHeld
   have HR7 := Lib.hid (HBW.out.trans (HB7.out.mono HBW.out.size))
   cases b with
   | true =>
    have HE : Hid (fpos bs d = some zj) := by
     have hz := HSP.out.lt j hlt
     have e := fpos_hit HSP.out hlt hz HNO.out (HHB.out hz)
     rw [← HZJ.out] at e; exact e
    go_wp2_with fail
    go_ret2
    exact ⟨by unfold plV; rw [HE.out]; rfl, HB3'.out.trans (HR7.out.mono HB3'.out.size)⟩
   | false =>
    go_wp2_with fail
    go_roundw
    case rel => exact ⟨_, _, _, _, ⟨j + 1, by omega, rfl, fun k hk hkb h => (if e : k = j then (by subst e; exact HHB.out hkb) else HNO.out k hk hkb (by omega)), HR7.out⟩, rfl, rfl, rfl, by go_num⟩
    case measure => simp [intOf]; omega
  ·obtain rfl : j = zs.length := by omega
   have q1 : decide ((zs.length : Int) < (zs.length : Int)) = false := decide_eq_false (by omega)
   have HE : Hid (fpos bs d = none) := fpos_none HSP.out fun k hk hkb => HNO.out k hk hkb hk
   go_wp2_with fail
   go_ret2
   exact ⟨by unfold plV; rw [HE.out]; rfl, HB3'.out.trans (HBW.out.mono HB3'.out.size)⟩
end Go.Proofs.Ytecljchifebljaa
namespace Go.Proofs.Ytecljchifebljaa
open Go Go.RowKit
def bNone : Bd := .mk (.mk 0 ⟨#[]⟩ [] [] 0) 0 (.mk 0 ⟨#[]⟩ [] [] 0) []
/-- Does a variable stand there again? -/
def twcB (bs : List Bd) : Bool := !(List.range bs.length).all fun i => (fpos bs ((bs[i]?).getD bNone).name).getD 0 == i
theorem twcB_yes {bs : List Bd} {i : Nat} (h : i < bs.length) (hn : (fpos bs bs[i].name).getD 0 ≠ i) : twcB bs = true := by
 unfold twcB
 rw [Bool.not_eq_true', List.all_eq_false]
 refine ⟨i, List.mem_range.2 h, ?_⟩
 rw [List.getElem?_eq_getElem h, Option.getD_some]
 simpa using hn
theorem twcB_no {bs : List Bd} (h : ∀ i (hi : i < bs.length), (fpos bs bs[i].name).getD 0 = i) : twcB bs = false := by
 unfold twcB
 rw [Bool.not_eq_false', List.all_eq_true]
 intro i hi
 have hi := List.mem_range.1 hi
 rw [List.getElem?_eq_getElem hi, Option.getD_some, h i hi]
 simp
theorem plV_is (bs : List Bd) (d : Dt) : plV bs d = .tuple #[.int .i64 ((fpos bs d).getD 0 : Nat), .bool (fpos bs d).isSome] := by
 unfold plV; cases fpos bs d <;> rfl
def TwInv (bs : List Bd) (w : World) (iv : Value) (wr : World) : Prop := ∃ j : Nat, j ≤ bs.length ∧ iv = .int .i64 (j : Int) ∧ (∀ i (hi : i < bs.length), i < j → (fpos bs bs[i].name).getD 0 = i) ∧ Below w.heap.size w wr
set_option maxHeartbeats 16000000 in
set_option maxRecDepth 100000 in
theorem twice_any {S : Nat → Prop} (bs : List Bd) (lv : Value) (bm : Nat) (w : World) (hv : PsAt S w lv bs) (ht : TbAt w (bm + 1) bm (keysB bs)) (hwf : ∀ b ∈ bs, b.name.wf) (hl : bs.length ≤ 1000000) (hsz : ∀ b ∈ bs, b.name.size ≤ 1000000) :
  Calls Try.prog 46 #[.agg #[lv, .map (some bm)]] w (RetBool (twcB bs) w) := by
 obtain ⟨lo, lc, rfl⟩ := hv.form
 have hb0 : Below w.heap.size w (w.alloc (.cells #[.slice lo bs.length lc, .map (some bm)] 78)) := (Below.refl _ _).alloc (Nat.le_refl _) _
 have hx0 := alloc_at w (.cells #[.slice lo bs.length lc, .map (some bm)] 78)
 have hs0 : (w.alloc (.cells #[.slice lo bs.length lc, .map (some bm)] 78)).heap.size = w.heap.size + 1 := by simp
 obtain ⟨X, hX⟩ : ∃ X, X = w.alloc (.cells #[.slice lo bs.length lc, .map (some bm)] 78) := ⟨_, rfl⟩
 rw [← hX] at hb0 hx0 hs0
 have HX := Lib.hid hX
 have HB0 := Lib.hid hb0
 have HX0 := Lib.hid hx0
 have HV := Lib.hid (hv.keeps (KeepsB.of_below hb0))
 have HT := Lib.hid (ht.kept (Below.grownRow hb0 none) (fun r e => by cases e))
 have HWF := Lib.hid hwf
 have HSZ := Lib.hid hsz
 have x0 : X.cell? ⟨w.heap.size, 0, none⟩ = some (.slice lo bs.length lc) := by rw [Lib.cell_of_heap hx0]; rfl
 clear hX hb0 hx0 hv ht hwf hsz
 go_enter Try.func46, Try.ntmps46
 go_upto_region 1 with fail
 rw [← HX.out]
 go_wp2_with fail
 clear x0
 go_loopw [10] (fun iv wr => TwInv bs X iv wr) (fun iv _ => bs.length - (intOf iv).toNat)
 case atStart => exact ⟨0, Nat.zero_le _, rfl, fun i hi h => absurd h (by omega), Below.refl _ _⟩
 case round =>
  obtain ⟨j, hj, rfl, hr, hbw⟩ := hrel
  have HBW := Lib.hid hbw
  have HR := Lib.hid hr
  have hsw := hbw.size
  have HVr := Lib.hid (HV.out.keeps (KeepsB.of_below hbw))
  have hxr : wr.heap[w.heap.size]? = some (Obj.cells #[.slice lo bs.length lc, .map (some bm)] 78 (0, 0)) := by rw [hbw.block _ (by omega)]; exact HX0.out
  have HXR := Lib.hid hxr
  clear hbw hr hxr
  by_cases hlt : j < bs.length
  ·have q1 : decide ((j : Int) < (bs.length : Int)) = true := decide_eq_true (by omega)
   have hwj := HWF.out bs[j] (List.getElem_mem hlt)
   have hsj := HSZ.out bs[j] (List.getElem_mem hlt)
   obtain ⟨g, o, arr, fz, cs, elo, hSg, hgg, hc, hat⟩ := HVr.out.get j hlt
   have hgl : g < wr.heap.size := (Array.getElem?_eq_some_iff.1 hgg).1
   subst elo
   obtain ⟨bj, hbj⟩ : ∃ b, b = bs[j] := ⟨_, rfl⟩
   rw [← hbj] at hat hwj hsj
   obtain ⟨m1, l1, m2, l2, lr, rfl, hna, _, _, a1, a2, a3, a4, a5⟩ := BdPAt_twelve hat
   have FP0 := fun W' (h : Below X.heap.size X W') (hk : Below wr.heap.size wr W') => place_any bs (.slice (some ⟨g, o, none⟩) bs.length lc) bm bj.name _ W' (HV.out.keeps (KeepsB.of_below h)) (HT.out.kept (Below.grownRow h none) (fun r e => by cases e)) (Dt.At.keeps (Keeps.of_below hk) _ _ hna) hwj hl HSZ.out
   rw [show RetPl bs bj.name = fun (w : World) e w' => e = .returned (.tuple #[.int .i64 ((fpos bs bj.name).getD 0 : Nat), .bool (fpos bs bj.name).isSome]) ∧ Below w.heap.size w w' from by funext w e w'; unfold RetPl; rw [plV_is]] at FP0
   obtain ⟨q, hq⟩ : ∃ q, q = (fpos bs bj.name).getD 0 := ⟨_, rfl⟩
   obtain ⟨qb, hqb⟩ : ∃ q, q = (fpos bs bj.name).isSome := ⟨_, rfl⟩
   rw [← hq, ← hqb] at FP0
   have HQ : Hid (q = (fpos bs bs[j].name).getD 0) := by show _ = _; rw [hq, hbj]
   obtain ⟨x0, hx0⟩ : ∃ k, k = bj.name.kind := ⟨_, rfl⟩
   obtain ⟨x1, hx1⟩ : ∃ k, k = bj.name.text := ⟨_, rfl⟩
   obtain ⟨x4, hx4⟩ : ∃ k, k = bj.name.place := ⟨_, rfl⟩
   obtain ⟨x5, hx5⟩ : ∃ k, k = bj.deep := ⟨_, rfl⟩
   obtain ⟨x6, hx6⟩ : ∃ k, k = bj.dat.kind := ⟨_, rfl⟩
   obtain ⟨x7, hx7⟩ : ∃ k, k = bj.dat.text := ⟨_, rfl⟩
   obtain ⟨x10, hx10⟩ : ∃ k, k = bj.dat.place := ⟨_, rfl⟩
   rw [← hx0, ← hx1, ← hx4, ← hx5, ← hx6, ← hx7, ← hx10] at hc
   rw [← hx0, ← hx1, ← hx4] at FP0
   have FP := Lib.hid FP0
   clear hx0 hx1 hx4 hx5 hx6 hx7 hx10 hna hat hgg hSg hwj hsj hbj hq hqb FP0
   have hbY : Below wr.heap.size wr (wr.alloc (.cells #[.int .i64 x0, .string x1, m1, l1, .int .i64 x4, .int .i64 x5, .int .i64 x6, .string x7, m2, l2, .int .i64 x10, lr] 60)) := (Below.refl _ _).alloc (Nat.le_refl _) _
   have hxY := alloc_at wr (.cells #[.int .i64 x0, .string x1, m1, l1, .int .i64 x4, .int .i64 x5, .int .i64 x6, .string x7, m2, l2, .int .i64 x10, lr] 60)
   have hsY : (wr.alloc (.cells #[.int .i64 x0, .string x1, m1, l1, .int .i64 x4, .int .i64 x5, .int .i64 x6, .string x7, m2, l2, .int .i64 x10, lr] 60)).heap.size = wr.heap.size + 1 := by simp
   obtain ⟨YY, hYY⟩ : ∃ YY, YY = wr.alloc (.cells #[.int .i64 x0, .string x1, m1, l1, .int .i64 x4, .int .i64 x5, .int .i64 x6, .string x7, m2, l2, .int .i64 x10, lr] 60) := ⟨_, rfl⟩
   rw [← hYY] at hbY hxY hsY
   have HYY := Lib.hid hYY
   have HBY := Lib.hid hbY
   have HXY := Lib.hid hxY
   clear hYY hbY hxY
   have c0 : wr.cell? ⟨g, o + j * 12, none⟩ = some (.int .i64 x0) := hc 0 (by decide)
   have c1 : wr.cell? ⟨g, o + j * 12 + 1, none⟩ = some (.string x1) := hc 1 (by decide)
   have c2 : wr.cell? ⟨g, o + j * 12 + 2, none⟩ = some m1 := hc 2 (by decide)
   have c3 : wr.cell? ⟨g, o + j * 12 + 3, none⟩ = some l1 := hc 3 (by decide)
   have c4 : wr.cell? ⟨g, o + j * 12 + 4, none⟩ = some (.int .i64 x4) := hc 4 (by decide)
   have c5 : wr.cell? ⟨g, o + j * 12 + 5, none⟩ = some (.int .i64 x5) := hc 5 (by decide)
   have c6 : wr.cell? ⟨g, o + j * 12 + 6, none⟩ = some (.int .i64 x6) := hc 6 (by decide)
   have c7 : wr.cell? ⟨g, o + j * 12 + 7, none⟩ = some (.string x7) := hc 7 (by decide)
   have c8 : wr.cell? ⟨g, o + j * 12 + 8, none⟩ = some m2 := hc 8 (by decide)
   have c9 : wr.cell? ⟨g, o + j * 12 + 9, none⟩ = some l2 := hc 9 (by decide)
   have c10 : wr.cell? ⟨g, o + j * 12 + 10, none⟩ = some (.int .i64 x10) := hc 10 (by decide)
   have c11 : wr.cell? ⟨g, o + j * 12 + 11, none⟩ = some lr := hc 11 (by decide)
   go_upto_region 4 with (refine wpList_store_row rfl 60 _ _ rfl wr.heap.size #[.int .i64 x0, .string x1, m1, l1, .int .i64 x4, .int .i64 x5, .int .i64 x6, .string x7, m2, l2, .int .i64 x10, lr] rfl rfl 60 ZB (alloc_at wr (.cells ZB 60)) info60 rfl (by simp [Value.oneCell']; exact ⟨a1, a2, a3, a4, a5⟩) ?_)
   have h3 : (wr.alloc (.cells ZB 60)).setRow wr.heap.size #[.int .i64 x0, .string x1, m1, l1, .int .i64 x4, .int .i64 x5, .int .i64 x6, .string x7, m2, l2, .int .i64 x10, lr] = wr.alloc (.cells #[.int .i64 x0, .string x1, m1, l1, .int .i64 x4, .int .i64 x5, .int .i64 x6, .string x7, m2, l2, .int .i64 x10, lr] 60) := setRow_new_at _ _ _ _ _ rfl
   try simp only [ZB] at h3
   try rw [h3]
   clear h3 c0 c1 c2 c3 c4 c5 c6 c7 c8 c9 c10 c11
   rw [← HYY.out]
   have y0 : YY.cell? ⟨wr.heap.size, 0, none⟩ = some (.int .i64 x0) := by rw [Lib.cell_of_heap HXY.out]; rfl
   have y1 : YY.cell? ⟨wr.heap.size, 1, none⟩ = some (.string x1) := by rw [Lib.cell_of_heap HXY.out]; rfl
   have y2 : YY.cell? ⟨wr.heap.size, 2, none⟩ = some m1 := by rw [Lib.cell_of_heap HXY.out]; rfl
   have y3 : YY.cell? ⟨wr.heap.size, 3, none⟩ = some l1 := by rw [Lib.cell_of_heap HXY.out]; rfl
   have y4 : YY.cell? ⟨wr.heap.size, 4, none⟩ = some (.int .i64 x4) := by rw [Lib.cell_of_heap HXY.out]; rfl
   have z0 : YY.cell? ⟨w.heap.size, 0, none⟩ = some (.slice (some ⟨g, o, none⟩) bs.length lc) := (HBY.out.cell (p := ⟨w.heap.size, 0, none⟩) (by show w.heap.size < _; omega)).trans (by rw [Lib.cell_of_heap HXR.out]; rfl)
   have z1 : YY.cell? ⟨w.heap.size, 1, none⟩ = some (.map (some bm)) := (HBY.out.cell (p := ⟨w.heap.size, 1, none⟩) (by show w.heap.size < _; omega)).trans (by rw [Lib.cell_of_heap HXR.out]; rfl)
   have HBYX := Lib.hid (HBW.out.trans (HBY.out.mono HBW.out.size))
   go_wp2_with fail
   refine (FP.out YY HBYX.out HBY.out).mono ?_
   rintro e w3 ⟨rfl, hb3⟩
   have HB3 := Lib.hid (HBYX.out.trans (hb3.mono HBYX.out.size))
   clear y0 y1 y2 y3 y4 z0 z1 hb3
   by_cases he : q = j
   ·have q5 : ((q : Int) != (j : Int)) = false := by rw [he]; simp
    go_wp2_with fail
    go_roundw
    case rel =>
     first
      | exact ⟨j + 1, by omega, by go_num, fun i hi h => (if e : i = j then (by subst e; rw [← HQ.out]; exact he) else HR.out i hi (by omega)), HB3.out⟩
      | exact ⟨_, _, _, _, _, ⟨j + 1, by omega, rfl, fun i hi h => (if e : i = j then (by subst e; rw [← HQ.out]; exact he) else HR.out i hi (by omega)), HB3.out⟩, rfl, rfl, rfl, rfl, by go_num⟩
    case measure => simp [intOf]; omega
   ·have q5 : ((q : Int) != (j : Int)) = true := by rw [bne_iff_ne]; omega
    have HE : Hid (twcB bs = true) := twcB_yes hlt (by rw [← HQ.out]; exact he)
    go_wp2_with fail
    go_ret
    exact ⟨by rw [HE.out]; rfl, HB0.out.trans (HB3.out.mono HB0.out.size)⟩
  ·obtain rfl : j = bs.length := by omega
   have q1 : decide ((bs.length : Int) < (bs.length : Int)) = false := decide_eq_false (by omega)
   have HE : Hid (twcB bs = false) := twcB_no fun i hi => HR.out i hi hi
   go_wp2_with fail
   go_ret
   exact ⟨by rw [HE.out]; rfl, HB0.out.trans (HBW.out.mono HB0.out.size)⟩
end Go.Proofs.Ytecljchifebljaa
namespace Go.Proofs.Ytecljchifebljaa
open Go.RowKit
/-- Where the k-th part that is no dots stands; the end behind the last. -/
def pz (l : List Dt) (k : Nat) : Nat := ((pix l)[k]?).getD l.length
def restP (l : List Dt) (k : Nat) : List Dt := l.drop (pz l k)
theorem fold_skip {α : Type} (F : List Dt → α) (hF : ∀ d r, d.dots = true → F (d :: r) = F r) (L : List Dt) : ∀ (r : List Dt) (i : Nat), L.drop i = r → F r = F (L.drop (((pixF r i)[0]?).getD L.length))
 | [], i, h => by simp [pixF]
 | d :: r, i, h => by
  have hi : i < L.length := by
   by_cases h2 : i < L.length
   ·exact h2
   ·rw [List.drop_eq_nil_of_le (by omega)] at h; cases h
  have h2 : L.drop (i + 1) = r := by
   rw [List.drop_eq_getElem_cons hi] at h
   injection h
  cases hd : d.dots with
  | true =>
   have e : pixF (d :: r) i = pixF r (i + 1) := by rw [pixF, if_pos hd]
   rw [hF d r hd, e]
   exact fold_skip F hF L r (i + 1) h2
  | false =>
   have e : pixF (d :: r) i = i :: pixF r (i + 1) := by rw [pixF, if_neg (by rw [hd]; decide)]
   rw [e]
   simp only [List.getElem?_cons_zero, Option.getD_some]
   rw [h]
theorem pix_next (L : List Dt) : ∀ (r : List Dt) (i k : Nat) (hk : k < (pixF r i).length), L.drop i = r → (pixF (L.drop ((pixF r i)[k] + 1)) ((pixF r i)[k] + 1))[0]? = (pixF r i)[k + 1]? ∧ ∃ h : (pixF r i)[k] < L.length, (L[(pixF r i)[k]]).dots = false
 | [], i, k, hk, _ => by simp [pixF] at hk
 | d :: r, i, k, hk, h => by
  have hi : i < L.length := by
   by_cases h2 : i < L.length
   ·exact h2
   ·rw [List.drop_eq_nil_of_le (by omega)] at h; cases h
  have h2 : L[i] = d ∧ L.drop (i + 1) = r := by
   rw [List.drop_eq_getElem_cons hi] at h
   injection h with h3 h4; exact ⟨h3, h4⟩
  cases hd : d.dots with
  | true =>
   have e : pixF (d :: r) i = pixF r (i + 1) := by rw [pixF, if_pos hd]
   have ih := pix_next L r (i + 1) k (by rw [← e]; exact hk) h2.2
   simp only [e]; exact ih
  | false =>
   have e : pixF (d :: r) i = i :: pixF r (i + 1) := by rw [pixF, if_neg (by rw [hd]; decide)]
   cases k with
   | zero =>
    simp only [e, List.getElem_cons_zero, List.getElem?_cons_succ, h2.2]
    first
     | exact ⟨rfl, hi, by rw [h2.1]; exact hd⟩
     | exact ⟨trivial, hi, by rw [h2.1]; exact hd⟩
   | succ k =>
    have ih := pix_next L r (i + 1) k (by rw [e] at hk; simpa using hk) h2.2
    simp only [e, List.getElem_cons_succ, List.getElem?_cons_succ]; exact ih
theorem rest_zero {α : Type} (F : List Dt → α) (hF : ∀ d r, d.dots = true → F (d :: r) = F r) (l : List Dt) : F l = F (restP l 0) := fold_skip F hF l l 0 (by simp)
theorem rest_next {α : Type} (F : List Dt → α) (hF : ∀ d r, d.dots = true → F (d :: r) = F r) (l : List Dt) (k : Nat) (hk : k < (pix l).length) : F (l.drop ((pix l)[k] + 1)) = F (restP l (k + 1)) := by
 rw [fold_skip F hF l (l.drop ((pix l)[k] + 1)) ((pix l)[k] + 1) rfl]
 have h := (pix_next l l 0 k hk (by simp)).1
 unfold restP pz
 rw [show ((pixF (l.drop ((pix l)[k] + 1)) ((pix l)[k] + 1))[0]?) = (pix l)[k + 1]? from h]
theorem pix_dots {l : List Dt} {k : Nat} (hk : k < (pix l).length) : (l[(pix l)[k]]'(pix_lt hk)).dots = false := (pix_next l l 0 k hk (by simp)).2.2
theorem rest_cons {l : List Dt} {k : Nat} (hk : k < (pix l).length) : restP l k = l[(pix l)[k]]'(pix_lt hk) :: l.drop ((pix l)[k] + 1) := by
 unfold restP pz
 rw [List.getElem?_eq_getElem hk, Option.getD_some]
 exact List.drop_eq_getElem_cons (pix_lt hk)
theorem rest_end (l : List Dt) : restP l (pix l).length = [] := by
 unfold restP pz
 rw [List.getElem?_eq_none (Nat.le_refl _), Option.getD_none, List.drop_length]
mutual
/-- The greatest depth of the variables in d, which stands within so many dots; none: it may not stand so. -/
def Dt.dpst (bs : List Bd) : Dt → Int → Option Int
 | .mk k t ms l p, n => match fpos bs (.mk k t ms l p) with
  | some i => if ((bs[i]?).getD bNone).deep = 0 ∨ ((bs[i]?).getD bNone).deep = n then some ((bs[i]?).getD bNone).deep else none
  | none => if (Dt.mk k t ms l p).dots = true ∨ (k = 4 ∧ strays l true = true) then none else dpsts bs l n 0
def dpsts (bs : List Bd) : List Dt → Int → Int → Option Int
 | [], _, m => some m
 | d :: r, n, m => if d.dots = true then dpsts bs r n m else match d.dpst bs (if nxtDots r = true then n + 1 else n) with
  | none => none
  | some q => if nxtDots r = true ∧ q < (if nxtDots r = true then n + 1 else n) then none else dpsts bs r n (max m q)
end
theorem dpst_mk (bs : List Bd) (k : Int) (t : ByteArray) (ms : List Int) (l : List Dt) (p : Int) (n : Int) : (Dt.mk k t ms l p).dpst bs n = match fpos bs (.mk k t ms l p) with
  | some i => if ((bs[i]?).getD bNone).deep = 0 ∨ ((bs[i]?).getD bNone).deep = n then some ((bs[i]?).getD bNone).deep else none
  | none => if (Dt.mk k t ms l p).dots = true ∨ (k = 4 ∧ strays l true = true) then none else dpsts bs l n 0 := by rw [Dt.dpst]
theorem dpsts_cons (bs : List Bd) (d : Dt) (r : List Dt) (n m : Int) : dpsts bs (d :: r) n m = if d.dots = true then dpsts bs r n m else match d.dpst bs (if nxtDots r = true then n + 1 else n) with
  | none => none
  | some q => if nxtDots r = true ∧ q < (if nxtDots r = true then n + 1 else n) then none else dpsts bs r n (max m q) := by rw [dpsts]
theorem dpsts_dots (bs : List Bd) (n m : Int) (d : Dt) (r : List Dt) (h : d.dots = true) : dpsts bs (d :: r) n m = dpsts bs r n m := by rw [dpsts_cons, if_pos h]
end Go.Proofs.Ytecljchifebljaa
