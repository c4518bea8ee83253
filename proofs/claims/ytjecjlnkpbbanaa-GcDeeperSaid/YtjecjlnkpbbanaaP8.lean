/- Objects. -/
import Derived.Test.YtjecjlnkpbbanaaAP
import Derived.Test.YtjecjlnkpbbanaaP4
namespace Go.Proofs.Ytjecjlnkpbbanaa
open Go Go.RowKit
set_option linter.unusedVariables false
set_option linter.unusedSimpArgs false
/-- All addresses, rising. -/
def adrs (os : List Ob) : List Int := (List.range os.length).map (fun i => (adr os i : Int))
theorem adrs_len (os : List Ob) : (adrs os).length = os.length := by simp [adrs]
theorem adrs_get {os : List Ob} {i : Nat} (h : i < (adrs os).length) : (adrs os)[i] = adr os i := by simp [adrs]
theorem ivs_take {l : List Int} {k : Nat} (h : k < l.length) : (l.take (k + 1)).map (Value.int .i64) = (l.take k).map (Value.int .i64) ++ [.int .i64 l[k]] := by
  rw [List.take_succ_eq_append_getElem h, List.map_append]; rfl
def ObInv (os : List Ob) (w : World) (v av : Value) (wr : World) : Prop :=
  ∃ k : Nat, k ≤ os.length ∧ av = .int .i64 (adr os k : Nat) ∧ wr.ownsRow w.heap.size 3 1 v k (((adrs os).take k).map (Value.int .i64)) ∧ Below w.heap.size w wr
theorem total_len (l : List Ob) : l.length ≤ total l := by
  induction l with
  | nil => simp
  | cons o l ih => simp only [List.length_cons, total, Ob.size]; omega
set_option maxHeartbeats 8000000 in
set_option maxRecDepth 100000 in
theorem objects_o {w : World} {b : Nat} {G : Option Nat} {os : List Ob} {m : Nat} (h : HpO w b G os m) :
    Calls Try.prog 21 #[.pointer (some ⟨b, 0, none⟩)] w (RetI (adrs os) w) := by
  have hbl := h.1.lt
  have HH := Lib.hid h
  have F48 := Lib.hid (fun W (hb : Below w.heap.size w W) => end_any (h.below hb).1)
  rw [wds_length] at F48
  have htm := h.2.2.2
  have hol := total_len os
  clear h
  have H0 : Hid (ObInv os w (.slice none 0 0) (.int .i64 0) w) := ⟨0, Nat.zero_le _, rfl, World.ownsRow_nil _ _ _ _, Below.refl _ _⟩
  go_enter Try.func21, Try.ntmps21
  go_wp2_with fail
  go_loopw [3, 4] (fun v av wr => ObInv os w v av wr) (fun _ av _ => total os - (intOf av).toNat)
  case atStart => exact H0.out
  case round =>
    clear H0
    obtain ⟨k, hk, rfl, hown, hbel⟩ := hrel
    have hsz := hbel.size
    have HO := Lib.hid hown
    have HB := Lib.hid hbel
    have F := Lib.hid (F48.out wr hbel)
    obtain ⟨ao, cap, hv3⟩ : ∃ ao cap, u3 = .slice ao k cap := by
      rcases hown.2 with ⟨rfl, h0⟩ | ⟨g, cap, cur, rfl, _⟩
      · exact ⟨none, 0, by rw [h0]⟩
      · exact ⟨_, _, rfl⟩
    clear hown hbel
    by_cases hkn : k < os.length
    · have hk9 : k + 1 ≤ 1000000000 := by omega
      have hlt := adr_le hkn
      have hnx := adr_next hkn
      have hos : os[k].size = os[k].body.length + 1 := rfl
      have hok := HH.out.2.1 _ (List.getElem_mem hkn)
      have hb2 := hok.b2
      obtain ⟨a, ha⟩ : ∃ a, a = adr os k := ⟨_, rfl⟩
      obtain ⟨N, hN⟩ : ∃ N, N = total os := ⟨_, rfl⟩
      have q1 : decide ((a : Int) < (N : Int)) = true := decide_eq_true (by omega)
      have hwh := wds_head hkn
      rw [← ha] at hwh hnx hlt ⊢
      rw [← hN] at F htm hlt
      have hje : ∀ hh : a < (wds os).length, (wds os)[a]'hh = os[k].head := fun _ => (List.getElem?_eq_some_iff.1 hwh).2
      have HJE := Lib.hid hje
      have hwl := wds_length os
      rw [← hN] at hwl
      obtain ⟨sz, hsz9⟩ : ∃ sz, sz = os[k].size := ⟨_, rfl⟩
      have F49 := Lib.hid (fun W => size_any os[k].tag os[k].np os[k].nn sz (by omega) W)
      have HHD : Hid (os[k].head.t = os[k].tag ∧ os[k].head.p = os[k].np ∧ os[k].head.n = os[k].nn ∧ os[k].head.s = sz) := ⟨rfl, rfl, rfl, hsz9.symm⟩
      rw [← hsz9] at hnx hlt hos
      generalize os[k].tag = ta at F49 HHD
      generalize os[k].np = pa at F49 HHD
      generalize os[k].nn = na at F49 HHD
      have HST : Hid (∀ v' w9, w9.ownsRow w.heap.size 3 1 v' (k + 1) ((((adrs os).take k).map (Value.int .i64)) ++ [.int .i64 (a : Nat)]) → Below w.heap.size w w9 → ObInv os w v' (.int .i64 ((a : Int) + (sz : Int))) w9) := by
        intro v' w9 h1 h2
        refine ⟨k + 1, hkn, by rw [hnx]; push_cast; rfl, ?_, h2⟩
        have hka : k < (adrs os).length := by rw [adrs_len]; exact hkn
        rw [ivs_take hka, adrs_get hka, ← ha]
        exact h1
      have HSR := Lib.hid (fun (W : World) => srcA_one (d := .int .i64 (a : Nat)) (T := 3) (alloc_at W (.cells #[.int .i64 (a : Nat)] 3)) rfl 1)
      have HWL := Lib.hid hwl
      have hsz2 : w.heap.size ≤ (wr.alloc (.cells #[.int .i64 (a : Nat)] 3)).heap.size := by simp; omega
      have HO2 := Lib.hid (HO.out.alloc (.cells #[.int .i64 (a : Nat)] 3))
      have HB2 := Lib.hid (HB.out.alloc hsz (.cells #[.int .i64 (a : Nat)] 3))
      have hvlt : ∀ x, u3.ownBlock = some x → w.heap.size ≤ x := fun x hx => (HO.out.lt x hx).1
      have HVL := Lib.hid hvlt
      subst hv3
      have haN : (a : Int) < (N : Int) := by omega
      have HHL : Hid (a + sz ≤ N) := hlt
      have hszb : sz ≤ 200 := by omega
      have hszp : 1 ≤ sz := by omega
      have HNN := Lib.hid hN.symm
      clear hwh hje hok hvlt ha hN hsz9 hnx hlt hwl HO hos hb2
      go_wp2_with fail
      refine F.out.mono ?_
      rintro e w2 ⟨rfl, rfl⟩
      clear F
      go_wp2_with (refine wpList_wantedR (by rfl) fun K hK => ?_; refine wp_appI (Operand.tmp 23) (Operand.tmp 25) rfl w.heap.size (.slice ao k cap) k _ rfl HO2.out (.slice (some ⟨wr.heap.size, 0, none⟩) 1 1) rfl 1 _ (HSR.out wr) (by omega) hsz2 ?_; intro v' w9 hown9 hg9 hv9; have HB9 := Lib.hid (HB2.out.grown hg9 hsz2 (fun x hx => HVL.out x hx)); have HM := Lib.hid (HST.out v' w9 hown9 HB9.out); clear hown9 hg9 hv9 HST HO2; obtain ⟨aw, capw, hc0, _, _, hcap, hc⟩ := (HH.out.1.below HB9.out).cell; obtain ⟨g, rfl, hG, _, c0, c1, c2, c3, c4⟩ := hc a (by rw [HWL.out]; omega); rw [HJE.out, HHD.out.1] at c0; rw [HJE.out, HHD.out.2.1] at c1; rw [HJE.out, HHD.out.2.2.1] at c2; rw [HJE.out, HHD.out.2.2.2] at c3; rw [HWL.out] at hc0 hcap; clear hc c4 hG; refine hK _ _ ?_; clear hK K)
      refine (F49.out _).mono ?_
      rintro e w5 ⟨rfl, hb5⟩
      have HR5 : Hid (ObInv os w v' (.int .i64 ((a : Int) + (sz : Int))) w5) := by
        obtain ⟨k', h1, h2, h3, h4⟩ := HM.out
        refine ⟨k', h1, h2, ⟨h3.1, ?_⟩, h4.trans (hb5.mono h4.size)⟩
        rcases h3.2 with h | ⟨g1, cap1, cur1, e1, h5, h6, r⟩
        · exact .inl h
        · exact .inr ⟨g1, cap1, cur1, e1, h5, (hb5.block _ (Array.getElem?_eq_some_iff.1 h6).1).trans h6, r⟩
      have hm : Hid (a + sz ≤ N) := HHL.out
      clear hb5 HM c0 c1 c2 c3 hc0
      go_wp2_with fail
      go_roundw
      case rel => exact HR5.out
      case measure => rw [HNN.out]; simp [intOf]; have := hm.out; omega
    · have hkn2 : k = os.length := by omega
      obtain ⟨N, hN⟩ : ∃ N, N = total os := ⟨_, rfl⟩
      have e2 : adr os k = N := by rw [hkn2, adr_all, hN]
      rw [e2]
      rw [← hN] at F
      have q1 : decide ((N : Int) < (N : Int)) = false := decide_eq_false (by omega)
      have HE : Hid (wr.ownsRow w.heap.size 3 1 u3 (adrs os).length ((adrs os).map (Value.int .i64))) := by
        have := HO.out
        rw [List.take_of_length_le (by rw [adrs_len]; omega), hkn2, ← adrs_len] at this
        exact this
      clear hkn2 e2 hN HO
      subst hv3
      go_wp2_with fail
      refine F.out.mono ?_
      rintro e w2 ⟨rfl, rfl⟩
      clear F
      go_wp2_with fail
      go_ret
      exact ⟨_, rfl, HE.out, HB.out⟩
end Go.Proofs.Ytjecjlnkpbbanaa
