/- GcAll, walked. -/
import Derived.Test.YtkekekdkfjjifaaY9
import Derived.Test.YtkekekdkfjjifaaZU
import Derived.Test.YtkekekdkfjjifaaL23
import Derived.Test.YtkekekdkfjjifaaZD
import Derived.Test.YtkekekdkfjjifaaZS
namespace Go.Proofs.Ytkekekdkfjjifaa
open Go Go.RowKit
set_option linter.unusedVariables false
set_option linter.unusedSimpArgs false
def GaI (W0 : World) (iv : Value) (wr : World) : Prop := ∃ i : Nat, i ≤ 3 ∧ iv = .int .i64 (i : Int) ∧ Below W0.heap.size W0 wr
/-- The law's three rows. -/
def GaR (W : World) (g : Nat) : Prop := ∀ i, i < 3 → ∃ (ao : Option Addr) (c : Nat) (ls : List Int), W.cell? ⟨g, i, none⟩ = some (.slice ao ls.length c) ∧ IsS W (.slice ao ls.length c) ls ∧ ls.length ≤ 1000 ∧ ∀ r ∈ ls, I64 r
theorem GaR.make {W : World} {ro ro2 : Option Addr} {rc rc2 : Nat} {rs rs2 : List Int} (h1 : IsS W (.slice ro rs.length rc) rs) (h2 : IsS W (.slice ro2 rs2.length rc2) rs2) (l1 : rs.length ≤ 1000) (l2 : rs2.length ≤ 1000) (b1 : ∀ r ∈ rs, I64 r) (b2 : ∀ r ∈ rs2, I64 r) :
    GaR (W.alloc (.cells #[.slice ro rs.length rc, .slice ro2 rs2.length rc2, .slice none 0 0] 22)) W.heap.size := by
  have hb : Below W.heap.size W (W.alloc (.cells #[.slice ro rs.length rc, .slice ro2 rs2.length rc2, .slice none 0 0] 22)) := (Below.refl _ _).alloc (Nat.le_refl _) _
  have ha := alloc_at W (.cells #[.slice ro rs.length rc, .slice ro2 rs2.length rc2, .slice none 0 0] 22)
  intro i hi
  rcases i with _ | _ | _ | i
  · exact ⟨ro, rc, rs, by rw [cell_of_row _ _ _ _ _ _ ha]; rfl, h1.below hb, l1, b1⟩
  · exact ⟨ro2, rc2, rs2, by rw [cell_of_row _ _ _ _ _ _ ha]; rfl, h2.below hb, l2, b2⟩
  · exact ⟨none, 0, [], by rw [cell_of_row _ _ _ _ _ _ ha]; rfl, nil_isS _, by simp, by simp⟩
  · omega
theorem GaR.make2 {w2 w5 : World} {ro o5 : Option Addr} {rc c5 n : Nat} {rs : List Int} {raw : Int} (hn : n = rs.length) (hrs : IsS w2 (.slice ro n rc) rs) (hb : Below w2.heap.size w2 w5)
    (h1 : w5.ownsRow w2.heap.size 3 1 (.slice o5 (0 + n + 1) c5) (0 + n + 1) ([] ++ rs.map (Value.int .i64) ++ [.int .i64 raw])) (hl : n ≤ 6) (hi : ∀ r ∈ rs, I64 r) (hr : I64 raw) :
    GaR (w5.alloc (.cells #[.slice ro n rc, .slice o5 (n + 1) c5, .slice none 0 0] 22)) w5.heap.size := by
  subst hn
  have e : 0 + rs.length + 1 = (rs ++ [raw]).length := by rw [List.length_append, List.length_singleton, Nat.zero_add]
  have e2 : ([] ++ rs.map (Value.int .i64) ++ [.int .i64 raw] : List Value) = (rs ++ [raw]).map (Value.int .i64) := by rw [List.nil_append, List.map_append]; rfl
  rw [e, e2] at h1
  have e3 : rs.length + 1 = (rs ++ [raw]).length := by rw [List.length_append, List.length_singleton]
  rw [e3]
  refine GaR.make (hrs.below hb) (own_isS h1) (by omega) (by rw [← e]; omega) hi (fun r h => ?_)
  rcases List.mem_append.1 h with h | h
  · exact hi r h
  · rw [List.mem_singleton.1 h]; exact hr
/-- Both new heaps. -/
theorem Pr.made {B w6 w7 : World} {b2 y : Nat} {G2 : Option Nat} {C2 : Nat → Nat} {qs2 : List Nat} {os : List Ob} {m : Nat} (h : HL B w6 b2 G2 os m) (hb : Below w6.heap.size w6 w7) (hr : RhW w7 y C2 qs2 os m) (hl : ∀ k, C2 k ≠ 0 → w6.heap.size ≤ k) : Pr B w7 b2 y G2 C2 qs2 os m := by
  have h1 := h.hp.1.lt
  have h2 := h.hp.1.glt
  have h3 := h.bel.size
  refine ⟨h.below hb, hr.strong h.hp.2.2.1, ?_, fun k hk => ?_, fun k hk => by have := hl k hk; omega⟩
  · apply Classical.byContradiction; intro e; have := hl _ e; omega
  · apply Classical.byContradiction; intro e; have := hl _ e; have := (h2 k hk).1; omega
set_option maxHeartbeats 16000000 in
set_option maxRecDepth 100000 in
theorem all_walk (a : Option Addr) (len cap : Nat) (zs : List Int) (a2 : Option Addr) (len2 cap2 : Nat) (zs2 : List Int) (deep raw : Int) (w : World) (hA : IsRow .i64 w a len cap zs) (hA2 : IsRow .i64 w a2 len2 cap2 zs2) (hd : I64 deep) (hraw : I64 raw) :
    Calls Try.prog 3 #[.slice a len cap, .slice a2 len2 cap2, .int .i64 deep, .int .i64 raw] w (RetV (.bool true) w) := by
  have HA := Lib.hid hA.arg
  have HA2 := Lib.hid hA2.arg
  have HRAW := Lib.hid hraw
  have HD9 := Lib.hid hd
  clear hA hA2 zs zs2 hd hraw
  go_enter Try.func3, Try.ntmps3
  go_wp2_with fail
  refine (known_any w).mono ?_
  rintro e wk ⟨rfl, hbk⟩
  have HBK := Lib.hid hbk
  clear hbk
  go_wp2_with fail
  refine (both_any a len cap wk (HA.out.below HBK.out)).mono ?_
  rintro e w1 ⟨b, x, G, C, qs, os, rfl, hp⟩
  have HP := Lib.hid (hp.base HBK.out)
  clear hp HA
  obtain ⟨dp, hdp, -, hw14⟩ := within_at14 deep 21 HD9.out (by omega) (by omega) w1
  have F14 := Lib.hid hw14
  have hdp20 : dp ≤ 20 := by omega
  clear hw14 HD9
  go_wp2_with fail
  refine F14.out.mono ?_
  rintro e w1' ⟨rfl, rfl⟩
  clear F14
  go_wp2_with fail
  refine (roots_any HP.out.rh a2 len2 cap2 (HA2.out.below HP.out.hl.bel)).mono ?_
  rintro e w2 ⟨ro, rc, rs, rfl, hown, hrl, hrv, hb2⟩
  have HP2 := Lib.hid (HP.out.below hb2)
  have HRS := Lib.hid (own_isS hown)
  have hmt : total os ≤ 1000000 := by have := HP.out.hl.hp.2.2.2.2; have := HP.out.hl.hp.2.2.2.1; omega
  have HRB : Hid (∀ r ∈ rs, I64 r) := fun r hr => by have := vd_lt (hrv r hr); unfold I64; omega
  obtain ⟨n, hn⟩ : ∃ n, n = rs.length := ⟨_, rfl⟩
  rw [← hn] at HRS hrl ⊢
  have HN := Lib.hid hn
  clear hown hrv hb2 HP HA2 hmt hn
  have hA3 : Below w2.heap.size w2 (w2.alloc (.cells #[] 3)) := (Below.refl _ _).alloc (Nat.le_refl _) _
  have HE3 := Lib.hid (none_made3 (Nat.le_refl w2.heap.size))
  have HSR3 := Lib.hid (isS_srcA (HRS.out.below hA3))
  rw [← HN.out] at HSR3
  have hsz3 : w2.heap.size ≤ (w2.alloc (.cells #[] 3)).heap.size := hA3.size
  have hn9 : 0 + n ≤ 1000000000 := by omega
  have hn10 : 0 + n + 1 ≤ 1000000000 := by omega
  have HA3 := Lib.hid hA3
  clear hA3
  go_wp2_with (first | (refine wpList_wantedR (by rfl) fun K hK => ?_; refine wp_appI (Operand.tmp 36) (Operand.tmp 37) rfl w2.heap.size (.slice (some ⟨w2.heap.size, 0, none⟩) 0 0) 0 [] rfl HE3.out (.slice ro n rc) rfl n _ HSR3.out hn9 hsz3 ?_; intro v3 w3 hown3 hg3 hv3; have HO3 := Lib.hid hown3; have HB3 := Lib.hid (HA3.out.grown hg3 hsz3 (fun k hk => Nat.le_of_eq (Option.some.inj hk))); clear hown3 hg3 hv3 HE3 HSR3; have hA4 : Below w3.heap.size w3 (w3.alloc (.cells #[.int .i64 raw] 3)) := (Below.refl _ _).alloc (Nat.le_refl _) _; have HSR4 := Lib.hid (srcA_one (d := .int .i64 raw) (T := 3) (alloc_at w3 (.cells #[.int .i64 raw] 3)) rfl 1); have HO4 := Lib.hid (own_below HO3.out hA4); have HB4 := Lib.hid (HB3.out.trans (hA4.mono HB3.out.size)); have hsz4 : w2.heap.size ≤ (w3.alloc (.cells #[.int .i64 raw] 3)).heap.size := HB4.out.size; clear hA4; refine hK _ _ ?_; clear hK K) | (refine wpList_wantedR (by rfl) fun K hK => ?_; refine wp_appI (Operand.tmp 38) (Operand.tmp 40) rfl w2.heap.size v3 (0 + n) _ rfl HO4.out (.slice (some ⟨w3.heap.size, 0, none⟩) 1 1) rfl 1 _ HSR4.out hn10 hsz4 ?_; intro v5 w5 hown5 hg5 hv5; have HO5 := Lib.hid hown5; have HB5 := Lib.hid (HB4.out.grown hg5 hsz4 (fun k hk => (HO4.out.lt k hk).1)); clear hown5 hg5 hv5 HO4 HSR4 HO3; obtain ⟨o5, c5, rfl⟩ := own_sform HO5.out; have HGA := Lib.hid (GaR.make2 HN.out HRS.out HB5.out HO5.out hrl HRB.out HRAW.out); have HPW : Hid (Pr w (w5.alloc (.cells #[.slice ro n rc, .slice o5 (n + 1) c5, .slice none 0 0] 22)) b x G C qs os 300) := HP2.out.below (HB5.out.trans (((Below.refl _ _).alloc (Nat.le_refl _) _).mono HB5.out.size)); clear HO5 HB5 HB4 HB3 HA3 HRS; refine hK _ _ ?_; clear hK K))
  generalize w5.alloc (.cells #[.slice ro n rc, .slice o5 (n + 1) c5, .slice none 0 0] 22) = W0 at HGA HPW ⊢
  generalize w5.heap.size = g at HGA ⊢
  have H0 : Hid (GaI W0 (.int .i64 0) W0) := ⟨0, by omega, rfl, Below.refl _ _⟩
  clear HP2 hn9 hn10 hsz3 hsz4 HRB HRAW
  go_loopw [14] (fun iv wr => GaI W0 iv wr) (fun iv _ => 3 - (intOf iv).toNat)
  case atStart => exact H0.out
  case round =>
    clear H0
    obtain ⟨i, hi, rfl, hbel⟩ := hrel
    have HB := Lib.hid hbel
    clear hbel
    by_cases hi3 : i < 3
    · have q1 : decide ((i : Int) < 3) = true := decide_eq_true (by omega)
      obtain ⟨ao, c, ls, ci0, hIs, hll, hlb⟩ := HGA.out i hi3
      obtain ⟨N, hN⟩ : ∃ N, N = ls.length := ⟨_, rfl⟩
      rw [← hN] at ci0 hIs hll
      have HNN := Lib.hid hN
      have ci := (Fr.of_below (F := fun _ => False) HB.out).cell9 (fun e => e) ci0
      have HIS := Lib.hid (hIs.below HB.out)
      have HLB := Lib.hid hlb
      have HPR := Lib.hid (HPW.out.below HB.out)
      have hA4 : Below wr.heap.size wr (wr.alloc (.cells #[] 3)) := (Below.refl _ _).alloc (Nat.le_refl _) _
      have HA4 := Lib.hid hA4
      have HE4 := Lib.hid (none_made3 (Nat.le_refl wr.heap.size))
      have HSR4 := Lib.hid (isS_srcA (HIS.out.below hA4))
      rw [← HNN.out] at HSR4
      have hsz4 : wr.heap.size ≤ (wr.alloc (.cells #[] 3)).heap.size := hA4.size
      have hn9 : 0 + N ≤ 1000000000 := by omega
      have ci4 := (Fr.of_below (F := fun _ => False) hA4).cell9 (fun e => e) ci
      clear hA4 ci0 hIs hlb hN
      go_wp2_with (refine wpList_wantedR (by rfl) fun K hK => ?_; refine wp_appI (Operand.tmp 49) (Operand.tmp 53) rfl wr.heap.size (.slice (some ⟨wr.heap.size, 0, none⟩) 0 0) 0 [] rfl HE4.out (.slice ao N c) rfl N _ HSR4.out hn9 hsz4 ?_; intro v5 w5 hown5 hg5 hv5; have HO5 := Lib.hid hown5; have HB5 := Lib.hid (HA4.out.grown hg5 hsz4 (fun k hk => Nat.le_of_eq (Option.some.inj hk))); clear hown5 hg5 hv5 HE4 HSR4; refine hK _ _ ?_; clear hK K)
      have ho5 : w5.ownsRow wr.heap.size 3 1 v5 ls.length (ls.map (Value.int .i64)) := by have h1 := HO5.out; rw [List.nil_append, Nat.zero_add, HNN.out] at h1; exact h1
      have HI5 := Lib.hid (own_isS ho5)
      have HAP := Lib.hid (apart_own (b := b) (G := G) ho5 HPR.out.hl.hp.1.lt (fun k hk => (HPR.out.hl.hp.1.glt k hk).1))
      have HP5 := Lib.hid (HPR.out.below HB5.out)
      have HIS5 := Lib.hid (HIS.out.below HB5.out)
      have hbw5 := HB.out.trans (HB5.out.mono HB.out.size)
      have HBW5 := Lib.hid hbw5
      have ci5 := (Fr.of_below (F := fun _ => False) HB5.out).cell9 (fun e => e) ci
      clear ho5 hbw5 HO5 hsz4 hn9 ci4 ci HA4 HIS HPR
      cases hok : okR os ls with
      | true =>
        have F16 := Lib.hid (collect_yes HP5.out.hl.hp dp hdp20 v5 ls HI5.out HAP.out (by rw [← HNN.out]; omega) (okR_vd hok))
        have HOK := Lib.hid hok
        clear HI5 HAP hok
        go_wp2_with fail
        refine F16.out.mono ?_
        rintro e w6 hr
        obtain ⟨b6, g6, G6, rfl, ha6, hb6, -, -⟩ := HP5.out.hl.gc hr
        obtain ⟨h6, -, hi6, -⟩ := ha6
        rw [← HNN.out]
        have H6 := Lib.hid h6
        have hrl6 : (gcR os dp ls).length = N := by unfold gcR; rw [List.length_map, ← HNN.out]
        have HI6 : Hid (IsS w6 (.slice (some ⟨g6, 0, none⟩) N N) (gcR os dp ls)) := by rw [← hrl6]; exact block_isS hi6
        have HRL := Lib.hid hrl6
        have HP6 := Lib.hid (HP5.out.below hb6)
        have ci6 := (Fr.of_below (F := fun _ => False) hb6).cell9 (fun e => e) ci5
        have F17 := Lib.hid (rcollect_r HP6.out.rh dp hdp20 (.slice ao N c) ls (HIS5.out.below hb6) (by rw [← HNN.out]; omega))
        have HB6 := Lib.hid (HBW5.out.trans (hb6.mono HBW5.out.size))
        clear hr h6 hi6 hb6 hrl6 F16 ci5 HP5 HIS5 HBW5
        go_wp2_with fail
        refine F17.out.mono ?_
        rintro e w7 hr
        obtain ⟨y, C2, qs2, ao7, c7, rfl, hrw, hown7, hb7, hlow⟩ := hr.1 HOK.out
        rw [← HNN.out]
        have H7 := Lib.hid (Pr.made H6.out hb7 hrw hlow)
        have HI67 := Lib.hid (HI6.out.below hb7)
        have HI7 := Lib.hid (own_isS hown7)
        rw [← HNN.out] at HI7
        have F18 := Lib.hid (ints_eq HI67.out HI7.out (by rw [HRL.out]; omega))
        have HB7 := Lib.hid (HB6.out.trans (hb7.mono HB6.out.size))
        clear hr hrw hown7 hb7 hlow F17 H6 HI6 HP6 ci6 HB6
        go_wp2_with fail
        refine F18.out.mono ?_
        rintro e w8 ⟨rfl, hb8⟩
        have H8 := Lib.hid (H7.out.below hb8)
        have HB8 := Lib.hid (HB7.out.trans (hb8.mono HB7.out.size))
        have F19 := Lib.hid (same_r H8.out)
        clear hb8 F18 H7 HB7
        go_wp2_with fail
        refine F19.out.mono ?_
        rintro e w9 ⟨rfl, hb9⟩
        have HREL : Hid (GaI W0 (.int .i64 ((i : Int) + 1)) w9) := ⟨i + 1, by omega, by go_num, HB8.out.trans (hb9.mono HB8.out.size)⟩
        clear hb9 F19 H8 HB8
        go_wp2_with fail
        go_roundw
        case rel => exact HREL.out
        case measure => simp [intOf]; omega
      | false =>
        have F16 := Lib.hid (collect_no HP5.out.hl.hp dp hdp20 v5 ls HI5.out (by rw [← HNN.out]; omega) HLB.out hok)
        have HOK := Lib.hid hok
        clear HI5 HAP hok
        go_wp2_with fail
        refine F16.out.mono ?_
        rintro e w6 ⟨rfl, hb6⟩
        have HP6 := Lib.hid (HP5.out.below hb6)
        have ci6 := (Fr.of_below (F := fun _ => False) hb6).cell9 (fun e => e) ci5
        have F17 := Lib.hid (rcollect_r HP6.out.rh dp hdp20 (.slice ao N c) ls (HIS5.out.below hb6) (by rw [← HNN.out]; omega))
        have HB6 := Lib.hid (HBW5.out.trans (hb6.mono HBW5.out.size))
        clear hb6 F16 ci5 HP5 HIS5 HBW5
        go_wp2_with fail
        refine F17.out.mono ?_
        rintro e w7 hr
        obtain ⟨rfl, hb7⟩ := hr.2 HOK.out
        have F18 := Lib.hid (ints_eq (nil_isS w7) (nil_isS w7) (by simp))
        have HB7 := Lib.hid (HB6.out.trans (hb7.mono HB6.out.size))
        clear hr hb7 F17 HP6 ci6 HB6
        go_wp2_with fail
        refine F18.out.mono ?_
        rintro e w8 ⟨rfl, hb8⟩
        have HREL : Hid (GaI W0 (.int .i64 ((i : Int) + 1)) w8) := ⟨i + 1, by omega, by go_num, HB7.out.trans (hb8.mono HB7.out.size)⟩
        clear hb8 F18 HB7
        go_wp2_with fail
        go_roundw
        case rel => exact HREL.out
        case measure => simp [intOf]; omega
    · have q1 : decide ((i : Int) < 3) = false := decide_eq_false (by omega)
      have HPR := Lib.hid (HPW.out.below HB.out)
      have F19 := Lib.hid (same_r HPR.out)
      go_wp2_with fail
      refine F19.out.mono ?_
      rintro e w9 ⟨rfl, hb9⟩
      have HBF := Lib.hid (HPR.out.hl.bel.trans (hb9.mono HPR.out.hl.bel.size))
      clear hb9 F19
      go_wp2_with fail
      go_ret
      exact ⟨rfl, HBF.out⟩
end Go.Proofs.Ytkekekdkfjjifaa
