/- The walk of CoreBinds. -/
import Derived.Test.YtpkcoplpfenliaaCF
import Derived.Test.YtpkcoplpfenliaaS1
namespace Go.Proofs.Ytpkcoplpfenliaa
open Go.RowKit Go.BigM
set_option linter.unusedVariables false
set_option linter.unusedSimpArgs false
abbrev vC : Et := .mk 5 ⟨#[99]⟩ [] []
def ab : List ByteArray := [⟨#[97]⟩, ⟨#[98]⟩]
theorem vC_at (S : Nat → Prop) (W : World) : Et.At S W vC #[.int .i64 5, .string ⟨#[99]⟩, .slice none 0 0, .slice none 0 0] := by
  rw [EAt_mk]; exact ⟨_, _, rfl, .inl ⟨rfl, rfl⟩, .inl ⟨rfl, rfl⟩⟩
theorem three_atE {S : Nat → Prop} {w : World} {t0 t1 t2 : Et} {c0 c1 c2 : Array Value} {g : Nat} (hg : S g) (h0 : Et.At S w t0 c0) (h1 : Et.At S w t1 c1) (h2 : Et.At S w t2 c2) (e0 : c0.size = 4) (e1 : c1.size = 4) (e2 : c2.size = 4) (hr : w.heap[g]? = some (.cells (c0 ++ c1 ++ c2) 28 (0, 0))) : AAt S w (.slice (some ⟨g, 0, none⟩) 3 3) [t0, t1, t2] := by
  refine .inr ⟨g, 0, 3, _, (0, 0), rfl, hg, hr, ?_, Nat.le_refl _⟩
  unfold Ets.At
  refine ⟨⟨c0, fun i hi => ?_, h0⟩, ?_⟩
  · rw [Nat.zero_add, Array.getElem?_append_left (by simp; omega), Array.getElem?_append_left (by omega)]
  unfold Ets.At
  refine ⟨⟨c1, fun i hi => ?_, h1⟩, ?_⟩
  · rw [Array.getElem?_append_left (by simp; omega), Array.getElem?_append_right (by omega)]
    congr 1; omega
  unfold Ets.At
  refine ⟨⟨c2, fun i hi => ?_, h2⟩, by unfold Ets.At; trivial⟩
  rw [Array.getElem?_append_right (by simp; omega)]
  congr 1; simp; omega
theorem let_at {W : World} {x y : Et} {c1 c2 : Array Value} {S T : Nat → Prop} {gN gP : Nat} (hx : Et.At S W x c1) (hy : Et.At T W y c2) (e1 : c1.size = 4) (e2 : c2.size = 4) (hN : W.heap[gN]? = some (.cells (tcells ab) 9 (0, 0))) (hP : W.heap[gP]? = some (.cells (c1 ++ c2 ++ #[.int .i64 5, .string ⟨#[99]⟩, .slice none 0 0, .slice none 0 0]) 28 (0, 0))) :
    Et.At (fun _ => True) W (.mk 9 ⟨#[]⟩ ab [x, y, vC]) #[.int .i64 9, .string ⟨#[]⟩, .slice (some ⟨gN, 0, none⟩) 2 2, .slice (some ⟨gP, 0, none⟩) 3 3] := by
  rw [EAt_mk]
  refine ⟨_, _, rfl, .inr ⟨gN, 0, 2, tcells ab, (0, 0), rfl, trivial, hN, fun j hj => by rw [Nat.zero_add]; exact tcells_at ab j hj, Nat.le_refl _⟩, ?_⟩
  exact three_atE trivial (Et.At.mono (fun _ _ => trivial) _ _ hx) (Et.At.mono (fun _ _ => trivial) _ _ hy) (vC_at _ _) e1 e2 rfl hP
theorem let_frB (x y : Et) (s : ByteArray) : (Et.mk 9 ⟨#[]⟩ ab [x, y, vC]).fr s ↔ (x.fr s ∨ y.fr s ∨ ⟨#[99]⟩ = s) ∧ s ∉ ab := by
  rw [fr_mk]; simp [Et.frs, fr_mk]
theorem app_frB (x y : Et) (s : ByteArray) : (Et.mk 7 ⟨#[]⟩ [] [x, y]).fr s ↔ x.fr s ∨ y.fr s := by
  rw [fr_mk]; simp [Et.frs]
theorem let_right {x y : Et} (hx : x.right num = true) (hy : y.right num = true) : (Et.mk 9 ⟨#[]⟩ ab [x, y, vC]).right num = true := by
  have hv : vC.right num = true := by rw [right_mk]; simp [shapeB, textB, namesB, partsB, Et.rights, Lib.toList_data]
  have ho : Once ab := by
    refine ⟨fun s hs => ?_, ?_⟩
    · simp [ab] at hs; rcases hs with rfl | rfl <;> decide
    · simp [ab]
  rw [right_mk]
  simp [shapeB, textB, namesB, partsB, Et.rights, hx, hy, hv, ho, Lib.toList_data]
  simp [ab]
theorem let_list {x y : Et} {L : List ByteArray} (hs : Srt L) (hL : ∀ s, s ∈ L ↔ (Et.mk 9 ⟨#[]⟩ ab [x, y, vC]).fr s) (hx : ∀ s, x.fr s → s ∈ abc) (hy : ∀ s, y.fr s → s ∈ abc) : L = [⟨#[99]⟩] := by
  refine srt_ext hs (by simp [Srt]) (fun s => ?_)
  rw [hL, let_frB]
  constructor
  · rintro ⟨h, hn⟩
    have hc : s ∈ abc := by
      rcases h with h | h | rfl
      · exact hx s h
      · exact hy s h
      · simp [abc]
    simp [abc] at hc
    simp [ab] at hn
    rcases hc with rfl | rfl | rfl
    · exact absurd rfl hn.1
    · exact absurd rfl hn.2
    · simp
  · intro h
    simp at h; subst h
    exact ⟨.inr (.inr rfl), by simp [ab]⟩
theorem wsum (a b : Nat) (ha : a ≤ 1000) (hb : b ≤ 1000) : IntKind.i64.wrap ((a : Int) + (b : Int)) = (a : Int) + (b : Int) ∧ IntKind.i64.wrap ((a : Int) + (b : Int) + 2) = (a : Int) + (b : Int) + 2 := by
  have h1 : (0 : Int) ≤ (a : Int) + (b : Int) := by omega
  have h2 : (a : Int) + (b : Int) ≤ 2000 := by omega
  generalize (a : Int) + (b : Int) = x at h1 h2 ⊢
  rw [IntKind.wrap_i64, IntKind.wrap_i64]
  constructor <;> omega
theorem let_fine {x y : Et} (hx : x.fine) (hy : y.fine) : (Et.mk 9 ⟨#[]⟩ ab [x, y, vC]).fine := by
  rw [fine_mk]
  refine ⟨by decide, by simp [ab], fun s hs => ?_, fun e he => ?_⟩
  · simp [ab] at hs; rcases hs with rfl | rfl <;> decide
  · simp at he
    rcases he with rfl | rfl | rfl
    · exact hx
    · exact hy
    · rw [fine_mk]; exact ⟨by decide, by simp, by simp, by simp⟩
theorem app_fine {x y : Et} (hx : x.fine) (hy : y.fine) : (Et.mk 7 ⟨#[]⟩ [] [x, y]).fine := by
  rw [fine_mk]
  refine ⟨by decide, by simp, by simp, fun e he => ?_⟩
  simp at he
  rcases he with rfl | rfl
  · exact hx
  · exact hy
theorem app_at {W : World} {x y : Et} {c1 c2 : Array Value} {S T : Nat → Prop} {g : Nat} (hx : Et.At S W x c1) (hy : Et.At T W y c2) (e1 : c1.size = 4) (e2 : c2.size = 4) (hP : W.heap[g]? = some (.cells (c1 ++ c2) 28 (0, 0))) :
    Et.At (fun _ => True) W (.mk 7 ⟨#[]⟩ [] [x, y]) #[.int .i64 7, .string ⟨#[]⟩, .slice none 0 0, .slice (some ⟨g, 0, none⟩) 2 2] := by
  rw [EAt_mk]
  exact ⟨_, _, rfl, .inl ⟨rfl, rfl⟩, two_at trivial (Et.At.mono (fun _ _ => trivial) _ _ hx) (Et.At.mono (fun _ _ => trivial) _ _ hy) e1 e2 hP⟩
def CbInv (w : World) (n : Nat) (iv : Value) (wr : World) : Prop := ∃ i : Nat, i ≤ n ∧ iv = .int .i64 (i : Int) ∧ Below w.heap.size w wr
set_option maxHeartbeats 8000000 in
set_option maxRecDepth 100000 in
theorem binds_walk (l : List Rw) (ao0 : Option Addr) (cap : Nat) (lm : List Rw) (am0 : Option Addr) (capm : Nat) (n : Int) (w : World) (hR : RsAt w ao0 l) (hRm : RsAt w am0 lm) (hn : I64 n) : Calls Try.prog 9 #[.slice ao0 l.length cap, .slice am0 lm.length capm, .int .i64 n] w (RetBool true w) := by
  have K0 := Lib.hid (fun w => known_any w)
  have HR := Lib.hid hR
  have HRm := Lib.hid hRm
  clear hR hRm
  go_enter Try.func9, Try.ntmps9
  go_wp2_with fail
  refine (K0.out _).mono ?_
  rintro e w1 ⟨rfl, hb1⟩
  have HB1 := Lib.hid hb1
  have HFE := Lib.hid (few_any l ao0 cap w1 (HR.out.below hb1))
  have HFEm := Lib.hid (few_any lm am0 capm w1 (HRm.out.below hb1))
  clear hb1
  go_wp2_with fail
  refine HFE.out.mono ?_
  rintro e w2 ⟨r, rfl, hr, rfl⟩
  cases r with
  | false =>
    go_wp2_with fail
    go_ret
    exact ⟨rfl, HB1.out⟩
  | true =>
    have hcn := hr rfl
    clear hr
    go_wp2_with fail
    refine HFEm.out.mono ?_
    rintro e w2 ⟨r, rfl, hr, rfl⟩
    cases r with
    | false =>
      go_wp2_with fail
      go_ret
      exact ⟨rfl, HB1.out⟩
    | true =>
      have hcm := hr rfl
      clear hr HFE HFEm
      have CST : ∀ W : World, W.alloc (.cells #[.string ⟨#[97]⟩, .string ⟨#[98]⟩, .string ⟨#[99]⟩] 9) = W.alloc (.cells (tcells abc) 9) := fun _ => rfl
      have HCS := Lib.hid CST
      clear CST
      go_upto_region 6 with fail
      rw [HCS.out]
      have A7 := (Below.refl w1.heap.size w1).alloc (Nat.le_refl _) (.cells (tcells abc) 9)
      have HN7 : Hid (NAt (fun x => x = w1.heap.size) (w1.alloc (.cells (tcells abc) 9)) (.slice (some ⟨w1.heap.size, 0, none⟩) 3 3) abc) := .inr ⟨w1.heap.size, 0, 3, tcells abc, (0, 0), rfl, rfl, alloc_at _ _, fun j hj => by rw [Nat.zero_add]; exact tcells_at abc j hj, Nat.le_refl _⟩
      have HB7 := Lib.hid (HB1.out.trans (A7.mono HB1.out.size))
      have hgl7 : w1.heap.size < (w1.alloc (.cells (tcells abc) 9)).heap.size := by simp
      have hw1 := HB1.out.size
      generalize w1.alloc (.cells (tcells abc) 9) = W7 at HN7 HB7 hgl7 ⊢
      generalize w1.heap.size = gsc at HN7 hgl7 hw1 ⊢
      clear A7
      go_upto_region 7 with fail
      have A8 := (Below.refl W7.heap.size W7).alloc (Nat.le_refl _) (.cells #[.int .i64 0] 42)
      have HMK8 : Hid (Mk (W7.alloc (.cells #[.int .i64 0] 42)) W7.heap.size 0) := alloc_at W7 _
      have HN8 := Lib.hid (HN7.out.keeps (Keeps.of_below A8))
      have HB8 := Lib.hid (HB7.out.trans (A8.mono HB7.out.size))
      have hgl8 : W7.heap.size < (W7.alloc (.cells #[.int .i64 0] 42)).heap.size := by simp
      have hw7 := HB7.out.size
      generalize W7.alloc (.cells #[.int .i64 0] 42) = W8 at HMK8 HN8 HB8 hgl8 ⊢
      generalize W7.heap.size = gm at HMK8 hgl7 hgl8 hw7 ⊢
      clear A8 HN7 HB7 HCS
      have HM1 := Lib.hid (make_any (Rw.mk 6 n l).cnt (Rw.mk 6 n l) (Nat.le_refl _) w W8 gm 0 abc (.slice (some ⟨gsc, 0, none⟩) 3 3) ⟨HB8.out, hw7, HMK8.out, HN8.out.mono (fun x hx => by omega), abc_good, by simp [abc]⟩ (by simp only [Rw.cnt]; omega) ao0 cap HR.out (show I64 6 from ⟨by decide, by decide⟩) hn)
      simp only [Rw.num, Rw.at_, Rw.parts] at HM1
      go_wp2_with fail
      refine HM1.out.mono ?_
      rintro e w9 ⟨cs, x, m1, rfl, hatx, hMx, hszx, hm1, hmk9, hbut9⟩
      simp only [Rw.cnt] at hszx hm1
      obtain ⟨k1, t1, nv1, av1, rfl, o11, o21⟩ := EAt_form hatx
      have HB9 := Lib.hid (HB8.out.trans (hbut9.toBelow HB8.out.size hw7))
      have HN9 := Lib.hid (HN8.out.keeps (hbut9.keeps (fun x hx => by omega)))
      have HX9 := Lib.hid hatx
      have HMX := Lib.hid hMx
      have h89 := hbut9.size
      have HM2 := Lib.hid (make_any (Rw.mk 9 n lm).cnt (Rw.mk 9 n lm) (Nat.le_refl _) w w9 gm m1 abc (.slice (some ⟨gsc, 0, none⟩) 3 3) ⟨HB9.out, hw7, hmk9, HN9.out.mono (fun x hx => by omega), abc_good, by simp [abc]⟩ (by simp only [Rw.cnt]; omega) am0 capm HRm.out (show I64 9 from ⟨by decide, by decide⟩) hn)
      simp only [Rw.num, Rw.at_, Rw.parts] at HM2
      clear hatx hMx hbut9 hmk9 HM1 HN8 HB8 HMK8
      go_wp2_with fail
      refine HM2.out.mono ?_
      rintro e w10 ⟨cs, y, m2, rfl, haty, hMy, hszy, -, -, hbut10⟩
      simp only [Rw.cnt] at hszy
      obtain ⟨k2, t2, nv2, av2, rfl, o12, o22⟩ := EAt_form haty
      have z1 : (#[.int .i64 k1, .string t1, nv1, av1] : Array Value).all (·.oneCell') = true := by simp [Value.oneCell'] at o11 o21 ⊢; exact ⟨o11, o21⟩
      have z2 : (#[.int .i64 k2, .string t2, nv2, av2] : Array Value).all (·.oneCell') = true := by simp [Value.oneCell'] at o12 o22 ⊢; exact ⟨o12, o22⟩
      have HB10 := Lib.hid (HB9.out.trans (hbut10.toBelow HB9.out.size hw7))
      have HN10 := Lib.hid (HN9.out.keeps (hbut10.keeps (fun x hx => by omega)))
      have HX10 := Lib.hid (Et.At.keeps (hbut10.keeps (fun x hx => by have : W8.heap.size ≤ x := hx; omega)) _ _ HX9.out)
      have HY10 := Lib.hid haty
      have HMY := Lib.hid hMy
      clear haty hMy hbut10 HM2 HN9 HB9 HX9
      obtain ⟨W11, g9, g10, hW11, hg9, hg10, hA11, hr9, hr10⟩ : ∃ W11 g9 g10, W11 = (((w10.alloc (.cells Z4 28)).alloc (.cells Z4 28)).setRow w10.heap.size #[.int .i64 k1, .string t1, nv1, av1]).setRow (w10.heap.size + 1) #[.int .i64 k2, .string t2, nv2, av2] ∧ g9 = w10.heap.size ∧ g10 = w10.heap.size + 1 ∧ Below w10.heap.size w10 W11 ∧ W11.heap[g9]? = some (.cells #[.int .i64 k1, .string t1, nv1, av1] 28 (0, 0)) ∧ W11.heap[g10]? = some (.cells #[.int .i64 k2, .string t2, nv2, av2] 28 (0, 0)) := by
        have b1 := (Below.refl w10.heap.size w10).alloc (Nat.le_refl _) (.cells Z4 28)
        have b2 := b1.alloc b1.size (.cells Z4 28)
        have s1 : (w10.alloc (.cells Z4 28)).heap.size = w10.heap.size + 1 := by simp
        have r1 : ((w10.alloc (.cells Z4 28)).alloc (.cells Z4 28)).heap[w10.heap.size]? = some (.cells Z4 28 (0, 0)) := (Lib.alloc_old _ _ _ (by rw [s1]; omega)).trans (alloc_at w10 _)
        have r2 : ((w10.alloc (.cells Z4 28)).alloc (.cells Z4 28)).heap[w10.heap.size + 1]? = some (.cells Z4 28 (0, 0)) := by have h := alloc_at (w10.alloc (.cells Z4 28)) (.cells Z4 28); rw [s1] at h; exact h
        have r3 := setRow_heap ((w10.alloc (.cells Z4 28)).alloc (.cells Z4 28)) w10.heap.size Z4 #[.int .i64 k1, .string t1, nv1, av1] 28 (0, 0) r1
        refine ⟨_, _, _, rfl, rfl, rfl, Below.setRowUp (Below.setRowUp b2 _ _ (Nat.le_refl _)) _ _ (by omega), ?_, ?_⟩
        · rw [setRow_other _ _ _ _ (by omega)]; exact r3
        · exact setRow_heap _ _ Z4 _ 28 _ (by rw [setRow_other _ _ _ _ (by omega)]; exact r2)
      have q1 : Hid (((w10.alloc (.cells Z4 28)).alloc (.cells Z4 28)).heap[w10.heap.size]? = some (.cells Z4 28 (0, 0))) := (Lib.alloc_old _ _ _ (by simp)).trans (alloc_at w10 _)
      have q2 : Hid ((((w10.alloc (.cells Z4 28)).alloc (.cells Z4 28)).setRow w10.heap.size #[.int .i64 k1, .string t1, nv1, av1]).heap[w10.heap.size + 1]? = some (.cells Z4 28 (0, 0))) := by
        show _ = _
        rw [setRow_other _ _ _ _ (by omega)]
        have h := alloc_at (w10.alloc (.cells Z4 28)) (.cells Z4 28)
        have s1 : (w10.alloc (.cells Z4 28)).heap.size = w10.heap.size + 1 := by simp
        rw [s1] at h; exact h
      have HW11 := Lib.hid hW11.symm
      clear hW11
      go_upto_region 8 with (first | (refine wpList_store_row rfl 28 _ _ rfl w10.heap.size #[.int .i64 k1, .string t1, nv1, av1] rfl rfl 28 Z4 q1.out info28 rfl z1 ?_) | (refine wpList_store_row rfl 28 _ _ rfl (w10.heap.size + 1) #[.int .i64 k2, .string t2, nv2, av2] rfl rfl 28 Z4 q2.out info28 rfl z2 ?_))
      try simp only [Act.put]
      rw [HW11.out]
      simp only [← hg10]
      simp only [← hg9]
      clear hg9 hg10 q1 q2 HW11
      have HB11 := Lib.hid (HB10.out.trans (hA11.mono HB10.out.size))
      have HN11 := Lib.hid (HN10.out.keeps (Keeps.of_below hA11))
      have HX11 := Lib.hid (Et.At.keeps (Keeps.of_below hA11) _ _ HX10.out)
      have HY11 := Lib.hid (Et.At.keeps (Keeps.of_below hA11) _ _ HY10.out)
      have HR9 := Lib.hid hr9
      have HR10 := Lib.hid hr10
      clear hA11 hr9 hr10 HB10 HN10 HX10 HY10
      have HSX : Hid (Below W11.heap.size W11 W11.drew) := (Below.refl _ _).drew
      have HCX : Hid (∀ w', Below W11.heap.size W11 w' → w'.cell? ⟨g9, 0, none⟩ = some (.int .i64 k1) ∧ w'.cell? ⟨g9, 1, none⟩ = some (.string t1) ∧ w'.cell? ⟨g9, 2, none⟩ = some nv1 ∧ w'.cell? ⟨g9, 3, none⟩ = some av1) := fun w' hw' => EB.cell w' g9 k1 t1 _ _ (row_below hw' HR9.out)
      have HCY : Hid (∀ w', Below W11.heap.size W11 w' → w'.cell? ⟨g10, 0, none⟩ = some (.int .i64 k2) ∧ w'.cell? ⟨g10, 1, none⟩ = some (.string t2) ∧ w'.cell? ⟨g10, 2, none⟩ = some nv2 ∧ w'.cell? ⟨g10, 3, none⟩ = some av2) := fun w' hw' => EB.cell w' g10 k2 t2 _ _ (row_below hw' HR10.out)
      have HVA := Lib.hid (fun w => var_any ⟨#[99]⟩ w)
      obtain ⟨sx, hsx⟩ : ∃ sx : Nat, sx = x.size := ⟨_, rfl⟩
      obtain ⟨sy, hsy⟩ : ∃ sy : Nat, sy = y.size := ⟨_, rfl⟩
      have HREST : Hid (∀ (W : World) (gN gP gL : Nat), Below W11.heap.size W11 W → W.heap[gN]? = some (.cells (tcells ab) 9 (0, 0)) → W.heap[gP]? = some (.cells (#[.int .i64 k1, .string t1, nv1, av1] ++ #[.int .i64 k2, .string t2, nv2, av2] ++ #[.int .i64 5, .string ⟨#[99]⟩, .slice none 0 0, .slice none 0 0]) 28 (0, 0)) → W.heap[gL]? = some (.cells Z4 28 (0, 0)) → W11.heap.size ≤ gL → gN ≠ gL → gP ≠ gL →
        Below W11.heap.size W11 (W.setRow gL #[.int .i64 9, .string ⟨#[]⟩, .slice (some ⟨gN, 0, none⟩) 2 2, .slice (some ⟨gP, 0, none⟩) 3 3]) ∧ EB (W.setRow gL #[.int .i64 9, .string ⟨#[]⟩, .slice (some ⟨gN, 0, none⟩) 2 2, .slice (some ⟨gP, 0, none⟩) 3 3]) gL 9 ⟨#[]⟩ (.slice (some ⟨gN, 0, none⟩) 2 2) (.slice (some ⟨gP, 0, none⟩) 3 3) ∧
        Et.At (fun _ => True) (W.setRow gL #[.int .i64 9, .string ⟨#[]⟩, .slice (some ⟨gN, 0, none⟩) 2 2, .slice (some ⟨gP, 0, none⟩) 3 3]) (.mk 9 ⟨#[]⟩ ab [x, y, vC]) #[.int .i64 9, .string ⟨#[]⟩, .slice (some ⟨gN, 0, none⟩) 2 2, .slice (some ⟨gP, 0, none⟩) 3 3]) := by
        show ∀ (W : World) (gN gP gL : Nat), _ → _ → _ → _ → _ → _ → _ → _
        intro W gN gP gL hb h1 h2 h3 h4 h5 h6
        have hk : ∀ {S : Nat → Prop} (R : Array Value), (∀ x, S x → x ≠ gL) → Keeps S W (W.setRow gL R) := fun {S} R hS x c T fz hx hxx _ => ⟨fz, by rw [setRow_other W gL x _ (hS x hx)]; exact hxx⟩
        refine ⟨Below.setRowUp hb _ _ h4, setRow_heap W _ _ _ 28 _ h3, ?_⟩
        refine let_at (Et.At.keeps (hk _ fun x hx => by have := hx.2; omega) _ _ (Et.At.keeps (Keeps.of_below hb) _ _ (Et.At.bound _ _ HX11.out))) (Et.At.keeps (hk _ fun x hx => by have := hx.2; omega) _ _ (Et.At.keeps (Keeps.of_below hb) _ _ (Et.At.bound _ _ HY11.out))) rfl rfl (by rw [setRow_other W gL _ _ h5]; exact h1) (by rw [setRow_other W gL _ _ h6]; exact h2)
      rename_i K hK
      have REST : ∀ (u16 u17 u18 u19 u20 u21 u22 u23 u24 u25 u26 u27 u28 u29 u30 u31 u32 u33 u34 u35 u36 u37 u38 u39 u40 u41 u42 u43 u44 u45 u46 : Value) (WF : World) (gN gP gL : Nat), (Below W11.heap.size W11 WF ∧ EB WF gL 9 ⟨#[]⟩ (.slice (some ⟨gN, 0, none⟩) 2 2) (.slice (some ⟨gP, 0, none⟩) 3 3) ∧ Et.At (fun _ => True) WF (Et.mk 9 ⟨#[]⟩ ab [x, y, vC]) #[.int .i64 9, .string ⟨#[]⟩, .slice (some ⟨gN, 0, none⟩) 2 2, .slice (some ⟨gP, 0, none⟩) 3 3]) → K ⟨#[.slice ao0 l.length cap, .slice am0 lm.length capm, .int .i64 n, undef, undef, undef, .bool false, .slice (some ⟨gsc, 0, none⟩) 3 3, .pointer (some ⟨gm, 0, none⟩), .pointer (some ⟨g9, 0, none⟩), .pointer (some ⟨g10, 0, none⟩), .pointer (some ⟨gL, 0, none⟩), undef, undef, undef, undef, u16, u17, u18, u19, u20, u21, u22, u23, u24, u25, u26, u27, u28, u29, u30, u31, u32, u33, u34, u35, u36, u37, u38, u39, u40, u41, u42, u43, u44, u45, u46, undef, undef, undef, undef, undef, undef, undef, undef, undef, undef, undef, undef, undef, undef, undef, undef, undef, undef, undef, undef, undef, undef, undef, undef, undef, undef, undef, undef, undef, undef, undef, undef, undef, undef, undef, undef, undef, undef, undef, undef, undef, undef, undef, undef, undef, undef, undef, undef, undef, undef, undef, undef, undef, undef, undef, undef, undef, undef, undef, undef, undef, undef, undef], []⟩ WF := by
        intro u16 u17 u18 u19 u20 u21 u22 u23 u24 u25 u26 u27 u28 u29 u30 u31 u32 u33 u34 u35 u36 u37 u38 u39 u40 u41 u42 u43 u44 u45 u46 WF gN gP gL hh
        refine hK _ _ ?_
        clear hK K HREST HCX HCY HVA hsx hsy
        obtain ⟨hb, heb, hat⟩ := hh
        have HBF := Lib.hid (HB11.out.trans (hb.mono HB11.out.size))
        have HXF := Lib.hid (Et.At.keeps (Keeps.of_below hb) _ _ HX11.out)
        have HYF := Lib.hid (Et.At.keeps (Keeps.of_below hb) _ _ HY11.out)
        have HEXF : Hid (EB WF g9 k1 t1 nv1 av1) := row_below hb HR9.out
        have HEYF : Hid (EB WF g10 k2 t2 nv2 av2) := row_below hb HR10.out
        have HELF := Lib.hid heb
        have HNF := Lib.hid (HN11.out.keeps (Keeps.of_below hb))
        have HFL := Lib.hid (free_any _ (let_fine HMX.out.fine HMY.out.fine) (by simp only [Et.size, Et.sizes]; omega) _ _ WF hat)
        have HLF := Lib.hid hat
        clear hb heb hat HN11 HX11 HY11 HR9 HR10 HB11
        go_wp2_with (refine wpList_load_row rfl 28 _ rfl gL rfl 28 #[.int .i64 9, .string ⟨#[]⟩, .slice (some ⟨gN, 0, none⟩) 2 2, .slice (some ⟨gP, 0, none⟩) 3 3] (0, 0) _ HELF.out Try.underlying28 rfl info28 ?_)
        refine HFL.out.mono ?_
        rintro e w12 ⟨v12, L, rfl, f1, f2, f3, hb12⟩
        obtain rfl : L = [⟨#[99]⟩] := let_list f2 f3 HMX.out.free HMY.out.free
        obtain ⟨fo, fc, rfl⟩ := f1.form
        have HFL1 := Lib.hid f1
        have HB12 := Lib.hid (HBF.out.trans (hb12.mono HBF.out.size))
        have HX12 := Lib.hid (Et.At.keeps (Keeps.of_below hb12) _ _ HXF.out)
        have HY12 := Lib.hid (Et.At.keeps (Keeps.of_below hb12) _ _ HYF.out)
        have HEX12 : Hid (EB w12 g9 k1 t1 nv1 av1) := row_below hb12 HEXF.out
        have HEY12 : Hid (EB w12 g10 k2 t2 nv2 av2) := row_below hb12 HEYF.out
        have HEL12 : Hid (EB w12 gL 9 ⟨#[]⟩ (.slice (some ⟨gN, 0, none⟩) 2 2) (.slice (some ⟨gP, 0, none⟩) 3 3)) := row_below hb12 HELF.out
        have HN12 := Lib.hid (HNF.out.keeps (Keeps.of_below hb12))
        have HL12 := Lib.hid (Et.At.keeps (Keeps.of_below hb12) _ _ HLF.out)
        clear f1 f2 f3 hb12 HFL HXF HYF HEXF HEYF HELF HNF HLF HBF
        simp only [List.length_cons, List.length_nil, Nat.zero_add] at *
        go_wp2_with fail
        go_loopw [13] (fun iv wr => CbInv w12 1 iv wr) (fun iv _ => 1 - (intOf iv).toNat)
        case atStart => exact ⟨0, Nat.zero_le _, rfl, Below.refl _ _⟩
        case round =>
          obtain ⟨i, hi, rfl, hbi⟩ := hrel
          have HBI := Lib.hid hbi
          clear hbi
          by_cases hlt : i < 1
          · obtain rfl : i = 0 := by omega
            obtain ⟨gf, of_, rfl, -, e0⟩ := (HFL1.out.keeps (Keeps.of_below HBI.out)).get 0 (by simp)
            have e1 : wr.cell? ⟨gf, of_, none⟩ = some (.string ⟨#[99]⟩) := e0
            have HNX : Hid (CbInv w12 1 (.int .i64 1) wr) := ⟨1, Nat.le_refl _, rfl, HBI.out⟩
            clear e0
            go_wp2_with fail
            go_roundw
            case rel => exact HNX.out
            case measure => simp [intOf]
          · obtain rfl : i = 1 := by omega
            clear hlt hi
            have b0 := HBI.out
            have HXA := Lib.hid (Et.At.keeps (Keeps.of_below b0) _ _ HX12.out)
            have HYA := Lib.hid (Et.At.keeps (Keeps.of_below b0) _ _ HY12.out)
            have HEXA : Hid (EB wr g9 k1 t1 nv1 av1) := row_below b0 HEX12.out
            have HEYA : Hid (EB wr g10 k2 t2 nv2 av2) := row_below b0 HEY12.out
            have HBA := Lib.hid (HB12.out.trans (b0.mono HB12.out.size))
            have A1 := Lib.hid ((Below.refl wr.heap.size wr).alloc (Nat.le_refl _) (.cells #[.int .i64 k1, .string t1, nv1, av1, .int .i64 k2, .string t2, nv2, av2] 28))
            have hap := app_at (g := wr.heap.size) (Et.At.keeps (Keeps.of_below A1.out) _ _ HXA.out) (Et.At.keeps (Keeps.of_below A1.out) _ _ HYA.out) rfl rfl (alloc_at wr (.cells #[.int .i64 k1, .string t1, nv1, av1, .int .i64 k2, .string t2, nv2, av2] 28))
            have HFA := Lib.hid (free_any _ (app_fine HMX.out.fine HMY.out.fine) (by simp only [Et.size, Et.sizes]; omega) _ _ _ hap)
            clear hap b0
            go_wp2_with (first | (refine wpList_load_row rfl 28 _ rfl g9 rfl 28 #[.int .i64 k1, .string t1, nv1, av1] (0, 0) _ HEXA.out Try.underlying28 rfl info28 ?_) | (refine wpList_load_row rfl 28 _ rfl g10 rfl 28 #[.int .i64 k2, .string t2, nv2, av2] (0, 0) _ HEYA.out Try.underlying28 rfl info28 ?_))
            refine HFA.out.mono ?_
            rintro e w15 ⟨v15, L2, rfl, f1, f2, f3, hb15⟩
            have b1 : Below w12.heap.size w12 w15 := HBI.out.trans ((A1.out.trans (hb15.mono A1.out.size)).mono HBI.out.size)
            obtain ⟨fo2, fc2, rfl⟩ := f1.form
            have HV15 := Lib.hid f1
            have HF15 : Hid (∀ s, s ∈ L2 ↔ x.fr s ∨ y.fr s) := fun s => (f3 s).trans (app_frB x y s)
            have HB15 := Lib.hid (HB12.out.trans (b1.mono HB12.out.size))
            have HX15 := Lib.hid (Et.At.keeps (Keeps.of_below b1) _ _ HX12.out)
            have HY15 := Lib.hid (Et.At.keeps (Keeps.of_below b1) _ _ HY12.out)
            have HL15 := Lib.hid (Et.At.keeps (Keeps.of_below b1) _ _ HL12.out)
            have HEX15 : Hid (EB w15 g9 k1 t1 nv1 av1) := row_below b1 HEX12.out
            have HEY15 : Hid (EB w15 g10 k2 t2 nv2 av2) := row_below b1 HEY12.out
            have HEL15 : Hid (EB w15 gL 9 ⟨#[]⟩ (.slice (some ⟨gN, 0, none⟩) 2 2) (.slice (some ⟨gP, 0, none⟩) 3 3)) := row_below b1 HEL12.out
            have HN15 := Lib.hid (HN12.out.keeps (Keeps.of_below b1))
            have hl2 : L2.length ≤ 100000 := by have := abc_len f2 (fun s hs => (HF15.out s |>.1 hs).elim (HMX.out.free s) (HMY.out.free s)); omega
            clear f1 f2 f3 hb15 b1 A1 HFA HBI HXA HYA HEXA HEYA HBA HX12 HY12 HL12 HEX12 HEY12 HEL12 HN12 HB12 HFL1
            go_wp2_with fail
            go_loopw [15] (fun iv wr => CbInv w15 3 iv wr) (fun iv _ => 3 - (intOf iv).toNat)
            case atStart => exact ⟨0, Nat.zero_le _, rfl, Below.refl _ _⟩
            case round =>
              obtain ⟨i, hi, rfl, hbi⟩ := hrel
              have HBI := Lib.hid hbi
              clear hbi
              have b0 := HBI.out
              have HXB := Lib.hid (Et.At.keeps (Keeps.of_below b0) _ _ HX15.out)
              have HYB := Lib.hid (Et.At.keeps (Keeps.of_below b0) _ _ HY15.out)
              have HLB := Lib.hid (Et.At.keeps (Keeps.of_below b0) _ _ HL15.out)
              have HEXB : Hid (EB wr g9 k1 t1 nv1 av1) := row_below b0 HEX15.out
              have HEYB : Hid (EB wr g10 k2 t2 nv2 av2) := row_below b0 HEY15.out
              have HELB : Hid (EB wr gL 9 ⟨#[]⟩ (.slice (some ⟨gN, 0, none⟩) 2 2) (.slice (some ⟨gP, 0, none⟩) 3 3)) := row_below b0 HEL15.out
              have HS0 : Hid (Below wr.heap.size wr wr.drew) := (Below.refl _ _).drew
              have HCX : Hid (∀ w', Below wr.heap.size wr w' → w'.cell? ⟨g9, 0, none⟩ = some (.int .i64 k1) ∧ w'.cell? ⟨g9, 1, none⟩ = some (.string t1) ∧ w'.cell? ⟨g9, 2, none⟩ = some nv1 ∧ w'.cell? ⟨g9, 3, none⟩ = some av1) := fun w' hw' => EB.cell w' g9 k1 t1 _ _ (row_below hw' HEXB.out)
              have HCY : Hid (∀ w', Below wr.heap.size wr w' → w'.cell? ⟨g10, 0, none⟩ = some (.int .i64 k2) ∧ w'.cell? ⟨g10, 1, none⟩ = some (.string t2) ∧ w'.cell? ⟨g10, 2, none⟩ = some nv2 ∧ w'.cell? ⟨g10, 3, none⟩ = some av2) := fun w' hw' => EB.cell w' g10 k2 t2 _ _ (row_below hw' HEYB.out)
              by_cases hlt : i < 3
              · have q1 : decide ((i : Int) < (3 : Int)) = true := decide_eq_true (by omega)
                have p1 : ¬ ((3 : Int) ≤ (i : Int)) := by omega
                obtain ⟨s, hs, hsin, hs100, -⟩ := abc_get i hlt
                obtain ⟨g5, o5, e5, -, e0⟩ := (HN15.out.keeps (Keeps.of_below b0)).get i hlt
                injection e5 with e5
                injection e5 with e6 e7
                subst e6 e7
                have e1 : wr.cell? ⟨gsc, 0 + i, none⟩ = some (.string s) := by
                  rw [e0, ← hs]
                  congr 2
                  rw [List.getD_eq_getElem?_getD, List.getElem?_eq_getElem hlt]; rfl
                rw [Nat.zero_add] at e1
                have HIN1 := Lib.hid (in_any s L2 _ _ wr.drew ((HV15.out.keeps (Keeps.of_below b0)).keeps (Keeps.of_below HS0.out)) hl2)
                have HFX : Hid (∀ w', Below wr.heap.size wr w' → Calls Try.prog 22 #[.agg #[.int .i64 k1, .string t1, nv1, av1]] w' (RetFree x w')) := fun w' hw' => free_any x HMX.out.fine (by omega) _ _ w' (Et.At.keeps (Keeps.of_below hw') _ _ HXB.out)
                have HFY : Hid (∀ w', Below wr.heap.size wr w' → Calls Try.prog 22 #[.agg #[.int .i64 k2, .string t2, nv2, av2]] w' (RetFree y w')) := fun w' hw' => free_any y HMY.out.fine (by omega) _ _ w' (Et.At.keeps (Keeps.of_below hw') _ _ HYB.out)
                have HNX : Hid (∀ W, Below wr.heap.size wr W → CbInv w15 3 (.int .i64 ((i : Int) + 1)) W) := fun W h => ⟨i + 1, by omega, by go_num, HBI.out.trans (h.mono HBI.out.size)⟩
                clear e0 hs b0 HXB HYB HLB HEXB HEYB HELB
                have H3 := Lib.hid (HF15.out s)
                go_upto_region 19 with fail
                by_cases hx : x.fr s
                · rw [show decide (s ∈ L2) = true from decide_eq_true (H3.out.2 (.inl hx))] at HIN1
                  refine wp_region_noPanic ?_
                  refine wp_region_held_drew (S := Below wr.heap.size wr) (by kernel_rfl) HS0.out (fun hHeld => ?_)
                  generalize wr.drew = X0 at HS0 HIN1 hHeld ⊢
                  refine wpAnyH_take (i := 0) (v := Value.slice fo2 L2.length fc2) rfl (by kernel_rfl) (by kernel_rfl) (by kernel_rfl) (fun _ _ _ h => h) (Or.inl ⟨rfl, fun w' hw' => ?_⟩) hHeld ?_
                  · go_simp
                  simp only [List.getElem_toArray, List.getElem_cons_succ, List.getElem_cons_zero, Act.put, List.setIfInBounds_toArray, List.set_cons_zero, List.set_cons_succ]
                  refine wpAnyH_take (i := 1) (v := Value.slice (some ⟨gsc, 0, none⟩) 3 3) rfl (by kernel_rfl) (by kernel_rfl) (by kernel_rfl) (fun _ _ _ h => h) (Or.inl ⟨rfl, fun w' hw' => ?_⟩) hHeld ?_
                  · go_simp
                  simp only [List.getElem_toArray, List.getElem_cons_succ, List.getElem_cons_zero, Act.put, List.setIfInBounds_toArray, List.set_cons_zero, List.set_cons_succ]
                  refine wpAnyH_take (i := 2) (v := Value.int .i64 (i : Int)) rfl (by kernel_rfl) (by kernel_rfl) (by kernel_rfl) (fun _ _ _ h => h) (Or.inl ⟨rfl, fun w' hw' => ?_⟩) hHeld ?_
                  · go_simp
                  simp only [List.getElem_toArray, List.getElem_cons_succ, List.getElem_cons_zero, Act.put, List.setIfInBounds_toArray, List.set_cons_zero, List.set_cons_succ]
                  refine wpAnyH_take (i := 3) (v := Value.pointer (some ⟨gsc, i, none⟩)) rfl (by kernel_rfl) (by kernel_rfl) (by kernel_rfl) (fun _ _ _ h => h) (Or.inl ⟨rfl, fun w' hw' => ?_⟩) hHeld ?_
                  · go_simp
                  simp only [List.getElem_toArray, List.getElem_cons_succ, List.getElem_cons_zero, Act.put, List.setIfInBounds_toArray, List.set_cons_zero, List.set_cons_succ]
                  refine wpAnyH_take (i := 4) (v := Value.string s) rfl (by kernel_rfl) (by kernel_rfl) (by kernel_rfl) (fun _ _ _ h => h) (Or.inl ⟨rfl, fun w' hw' => ?_⟩) hHeld ?_
                  · have q9 := cell_below hw' e1; go_simp
                  simp only [List.getElem_toArray, List.getElem_cons_succ, List.getElem_cons_zero, Act.put, List.setIfInBounds_toArray, List.set_cons_zero, List.set_cons_succ]
                  refine wpAnyH_take (i := 8) (v := Value.slice (some ⟨gsc, 0, none⟩) 3 3) rfl (by kernel_rfl) (by kernel_rfl) (by kernel_rfl) (fun _ _ _ h => h) (Or.inl ⟨rfl, fun w' hw' => ?_⟩) hHeld ?_
                  · go_simp
                  simp only [List.getElem_toArray, List.getElem_cons_succ, List.getElem_cons_zero, Act.put, List.setIfInBounds_toArray, List.set_cons_zero, List.set_cons_succ]
                  refine wpAnyH_take (i := 9) (v := Value.int .i64 (i : Int)) rfl (by kernel_rfl) (by kernel_rfl) (by kernel_rfl) (fun _ _ _ h => h) (Or.inl ⟨rfl, fun w' hw' => ?_⟩) hHeld ?_
                  · go_simp
                  simp only [List.getElem_toArray, List.getElem_cons_succ, List.getElem_cons_zero, Act.put, List.setIfInBounds_toArray, List.set_cons_zero, List.set_cons_succ]
                  refine wpAnyH_take (i := 10) (v := Value.pointer (some ⟨gsc, i, none⟩)) rfl (by kernel_rfl) (by kernel_rfl) (by kernel_rfl) (fun _ _ _ h => h) (Or.inl ⟨rfl, fun w' hw' => ?_⟩) hHeld ?_
                  · go_simp
                  simp only [List.getElem_toArray, List.getElem_cons_succ, List.getElem_cons_zero, Act.put, List.setIfInBounds_toArray, List.set_cons_zero, List.set_cons_succ]
                  refine wpAnyH_take (i := 11) (v := Value.string s) rfl (by kernel_rfl) (by kernel_rfl) (by kernel_rfl) (fun _ _ _ h => h) (Or.inl ⟨rfl, fun w' hw' => ?_⟩) hHeld ?_
                  · have q9 := cell_below hw' e1; go_simp
                  simp only [List.getElem_toArray, List.getElem_cons_succ, List.getElem_cons_zero, Act.put, List.setIfInBounds_toArray, List.set_cons_zero, List.set_cons_succ]
                  refine wpAnyH_take (i := 6) (v := Value.agg #[.int .i64 k1, .string t1, nv1, av1]) rfl (by kernel_rfl) (by kernel_rfl) (by kernel_rfl) (fun _ _ _ h => h) (Or.inl ⟨rfl, fun w' hw' => ?_⟩) hHeld ?_
                  · obtain ⟨d0, d1, d2, d3⟩ := HCX.out w' hw'; go_simp
                  simp only [List.getElem_toArray, List.getElem_cons_succ, List.getElem_cons_zero, Act.put, List.setIfInBounds_toArray, List.set_cons_zero, List.set_cons_succ]
                  refine wpAnyH_ready (rs := [5]) (by kernel_rfl) (by simp) ?_
                  refine (AllReadyH.cons rfl (fun K hK => ?_) AllReadyH.nil)
                  go_simp
                  refine HIN1.out.mono ?_
                  rintro r u ⟨rfl, rfl⟩
                  refine hK.out _ _ HS0.out (fun hHeld => ?_)
                  clear hK K
                  try simp only [List.getElem_toArray, List.getElem_cons_succ, List.getElem_cons_zero, Act.put, List.setIfInBounds_toArray, List.set_cons_zero, List.set_cons_succ]
                  refine wpAnyH_ready (rs := [7]) (by kernel_rfl) (by simp) ?_
                  refine (AllReadyH.cons rfl (fun K hK => ?_) AllReadyH.nil)
                  go_simp
                  refine (HFX.out _ HS0.out).mono ?_
                  rintro r wf7 ⟨v7, M7, rfl, a1, a2, a3, hb⟩
                  have HS7 := Lib.hid (HS0.out.trans (hb.mono HS0.out.size))
                  obtain ⟨fo7, fc7, rfl⟩ := a1.form
                  have HIN7 := Lib.hid (in_any s M7 _ _ wf7 a1 (by have := abc_len a2 (fun z hz => HMX.out.free z ((a3 z).1 hz)); omega))
                  rw [show decide (s ∈ M7) = true from decide_eq_true ((a3 s).2 hx)] at HIN7
                  clear a1 a2 a3 hb
                  refine hK.out _ _ HS7.out (fun hHeld => ?_)
                  clear hK K
                  try simp only [List.getElem_toArray, List.getElem_cons_succ, List.getElem_cons_zero, Act.put, List.setIfInBounds_toArray, List.set_cons_zero, List.set_cons_succ]
                  refine wpAnyH_ready (rs := [12]) (by kernel_rfl) (by simp) ?_
                  refine (AllReadyH.cons rfl (fun K hK => ?_) AllReadyH.nil)
                  go_simp
                  refine HIN7.out.mono ?_
                  rintro r u ⟨rfl, rfl⟩
                  refine hK.out _ _ HS7.out (fun hHeld => ?_)
                  clear hK K
                  try simp only [List.getElem_toArray, List.getElem_cons_succ, List.getElem_cons_zero, Act.put, List.setIfInBounds_toArray, List.set_cons_zero, List.set_cons_succ]
                  refine wpAnyH_take (i := 13) (v := Value.bool true) rfl (by kernel_rfl) (by kernel_rfl) (by kernel_rfl) (fun _ _ _ h => h) (Or.inl ⟨rfl, fun w' hw' => ?_⟩) hHeld ?_
                  · go_simp
                  simp only [List.getElem_toArray, List.getElem_cons_succ, List.getElem_cons_zero, Act.put, List.setIfInBounds_toArray, List.set_cons_zero, List.set_cons_succ]
                  refine wpAnyH_take (i := 14) (v := undef) rfl (by kernel_rfl) (by kernel_rfl) (by kernel_rfl) (fun _ _ _ h => h) (Or.inr ⟨rfl, rfl⟩) hHeld ?_
                  simp only [List.getElem_toArray, List.getElem_cons_succ, List.getElem_cons_zero, Act.put, List.setIfInBounds_toArray, List.set_cons_zero, List.set_cons_succ]
                  refine wpAnyH_take (i := 15) (v := undef) rfl (by kernel_rfl) (by kernel_rfl) (by kernel_rfl) (fun _ _ _ h => h) (Or.inr ⟨rfl, rfl⟩) hHeld ?_
                  simp only [List.getElem_toArray, List.getElem_cons_succ, List.getElem_cons_zero, Act.put, List.setIfInBounds_toArray, List.set_cons_zero, List.set_cons_succ]
                  refine wpAnyH_take (i := 16) (v := undef) rfl (by kernel_rfl) (by kernel_rfl) (by kernel_rfl) (fun _ _ _ h => h) (Or.inr ⟨rfl, rfl⟩) hHeld ?_
                  simp only [List.getElem_toArray, List.getElem_cons_succ, List.getElem_cons_zero, Act.put, List.setIfInBounds_toArray, List.set_cons_zero, List.set_cons_succ]
                  refine wpAnyH_take (i := 17) (v := undef) rfl (by kernel_rfl) (by kernel_rfl) (by kernel_rfl) (fun _ _ _ h => h) (Or.inr ⟨rfl, rfl⟩) hHeld ?_
                  simp only [List.getElem_toArray, List.getElem_cons_succ, List.getElem_cons_zero, Act.put, List.setIfInBounds_toArray, List.set_cons_zero, List.set_cons_succ]
                  refine wpAnyH_take (i := 18) (v := undef) rfl (by kernel_rfl) (by kernel_rfl) (by kernel_rfl) (fun _ _ _ h => h) (Or.inr ⟨rfl, rfl⟩) hHeld ?_
                  simp only [List.getElem_toArray, List.getElem_cons_succ, List.getElem_cons_zero, Act.put, List.setIfInBounds_toArray, List.set_cons_zero, List.set_cons_succ]
                  refine wpAnyH_take (i := 19) (v := undef) rfl (by kernel_rfl) (by kernel_rfl) (by kernel_rfl) (fun _ _ _ h => h) (Or.inr ⟨rfl, rfl⟩) hHeld ?_
                  simp only [List.getElem_toArray, List.getElem_cons_succ, List.getElem_cons_zero, Act.put, List.setIfInBounds_toArray, List.set_cons_zero, List.set_cons_succ]
                  refine wpAnyH_take (i := 20) (v := undef) rfl (by kernel_rfl) (by kernel_rfl) (by kernel_rfl) (fun _ _ _ h => h) (Or.inr ⟨rfl, rfl⟩) hHeld ?_
                  simp only [List.getElem_toArray, List.getElem_cons_succ, List.getElem_cons_zero, Act.put, List.setIfInBounds_toArray, List.set_cons_zero, List.set_cons_succ]
                  refine wpAnyH_take (i := 21) (v := Value.bool true) rfl (by kernel_rfl) (by kernel_rfl) (by kernel_rfl) (fun _ _ _ h => h) (Or.inl ⟨rfl, fun w' hw' => ?_⟩) hHeld ?_
                  · go_simp
                  simp only [List.getElem_toArray, List.getElem_cons_succ, List.getElem_cons_zero, Act.put, List.setIfInBounds_toArray, List.set_cons_zero, List.set_cons_succ]
                  refine wpAnyH_take (i := 22) (v := Value.bool false) rfl (by kernel_rfl) (by kernel_rfl) (by kernel_rfl) (fun _ _ _ h => h) (Or.inl ⟨rfl, fun w' hw' => ?_⟩) hHeld ?_
                  · go_simp
                  simp only [List.getElem_toArray, List.getElem_cons_succ, List.getElem_cons_zero, Act.put, List.setIfInBounds_toArray, List.set_cons_zero, List.set_cons_succ]
                  refine wpAnyH_done (by kernel_rfl) ?_ _
                  refine NoPanic.normal ?_
                  clear hHeld
                  have HN9 := Lib.hid (HNX.out _ HS7.out)
                  go_wp2_with fail
                  go_roundw
                  case rel => exact HN9.out
                  case measure => simp [intOf]; omega
                · by_cases hy : y.fr s
                  · rw [show decide (s ∈ L2) = true from decide_eq_true (H3.out.2 (.inr hy))] at HIN1
                    refine wp_region_noPanic ?_
                    refine wp_region_held_drew (S := Below wr.heap.size wr) (by kernel_rfl) HS0.out (fun hHeld => ?_)
                    generalize wr.drew = X0 at HS0 HIN1 hHeld ⊢
                    refine wpAnyH_take (i := 0) (v := Value.slice fo2 L2.length fc2) rfl (by kernel_rfl) (by kernel_rfl) (by kernel_rfl) (fun _ _ _ h => h) (Or.inl ⟨rfl, fun w' hw' => ?_⟩) hHeld ?_
                    · go_simp
                    simp only [List.getElem_toArray, List.getElem_cons_succ, List.getElem_cons_zero, Act.put, List.setIfInBounds_toArray, List.set_cons_zero, List.set_cons_succ]
                    refine wpAnyH_take (i := 1) (v := Value.slice (some ⟨gsc, 0, none⟩) 3 3) rfl (by kernel_rfl) (by kernel_rfl) (by kernel_rfl) (fun _ _ _ h => h) (Or.inl ⟨rfl, fun w' hw' => ?_⟩) hHeld ?_
                    · go_simp
                    simp only [List.getElem_toArray, List.getElem_cons_succ, List.getElem_cons_zero, Act.put, List.setIfInBounds_toArray, List.set_cons_zero, List.set_cons_succ]
                    refine wpAnyH_take (i := 2) (v := Value.int .i64 (i : Int)) rfl (by kernel_rfl) (by kernel_rfl) (by kernel_rfl) (fun _ _ _ h => h) (Or.inl ⟨rfl, fun w' hw' => ?_⟩) hHeld ?_
                    · go_simp
                    simp only [List.getElem_toArray, List.getElem_cons_succ, List.getElem_cons_zero, Act.put, List.setIfInBounds_toArray, List.set_cons_zero, List.set_cons_succ]
                    refine wpAnyH_take (i := 3) (v := Value.pointer (some ⟨gsc, i, none⟩)) rfl (by kernel_rfl) (by kernel_rfl) (by kernel_rfl) (fun _ _ _ h => h) (Or.inl ⟨rfl, fun w' hw' => ?_⟩) hHeld ?_
                    · go_simp
                    simp only [List.getElem_toArray, List.getElem_cons_succ, List.getElem_cons_zero, Act.put, List.setIfInBounds_toArray, List.set_cons_zero, List.set_cons_succ]
                    refine wpAnyH_take (i := 4) (v := Value.string s) rfl (by kernel_rfl) (by kernel_rfl) (by kernel_rfl) (fun _ _ _ h => h) (Or.inl ⟨rfl, fun w' hw' => ?_⟩) hHeld ?_
                    · have q9 := cell_below hw' e1; go_simp
                    simp only [List.getElem_toArray, List.getElem_cons_succ, List.getElem_cons_zero, Act.put, List.setIfInBounds_toArray, List.set_cons_zero, List.set_cons_succ]
                    refine wpAnyH_take (i := 8) (v := Value.slice (some ⟨gsc, 0, none⟩) 3 3) rfl (by kernel_rfl) (by kernel_rfl) (by kernel_rfl) (fun _ _ _ h => h) (Or.inl ⟨rfl, fun w' hw' => ?_⟩) hHeld ?_
                    · go_simp
                    simp only [List.getElem_toArray, List.getElem_cons_succ, List.getElem_cons_zero, Act.put, List.setIfInBounds_toArray, List.set_cons_zero, List.set_cons_succ]
                    refine wpAnyH_take (i := 9) (v := Value.int .i64 (i : Int)) rfl (by kernel_rfl) (by kernel_rfl) (by kernel_rfl) (fun _ _ _ h => h) (Or.inl ⟨rfl, fun w' hw' => ?_⟩) hHeld ?_
                    · go_simp
                    simp only [List.getElem_toArray, List.getElem_cons_succ, List.getElem_cons_zero, Act.put, List.setIfInBounds_toArray, List.set_cons_zero, List.set_cons_succ]
                    refine wpAnyH_take (i := 10) (v := Value.pointer (some ⟨gsc, i, none⟩)) rfl (by kernel_rfl) (by kernel_rfl) (by kernel_rfl) (fun _ _ _ h => h) (Or.inl ⟨rfl, fun w' hw' => ?_⟩) hHeld ?_
                    · go_simp
                    simp only [List.getElem_toArray, List.getElem_cons_succ, List.getElem_cons_zero, Act.put, List.setIfInBounds_toArray, List.set_cons_zero, List.set_cons_succ]
                    refine wpAnyH_take (i := 11) (v := Value.string s) rfl (by kernel_rfl) (by kernel_rfl) (by kernel_rfl) (fun _ _ _ h => h) (Or.inl ⟨rfl, fun w' hw' => ?_⟩) hHeld ?_
                    · have q9 := cell_below hw' e1; go_simp
                    simp only [List.getElem_toArray, List.getElem_cons_succ, List.getElem_cons_zero, Act.put, List.setIfInBounds_toArray, List.set_cons_zero, List.set_cons_succ]
                    refine wpAnyH_take (i := 6) (v := Value.agg #[.int .i64 k1, .string t1, nv1, av1]) rfl (by kernel_rfl) (by kernel_rfl) (by kernel_rfl) (fun _ _ _ h => h) (Or.inl ⟨rfl, fun w' hw' => ?_⟩) hHeld ?_
                    · obtain ⟨d0, d1, d2, d3⟩ := HCX.out w' hw'; go_simp
                    simp only [List.getElem_toArray, List.getElem_cons_succ, List.getElem_cons_zero, Act.put, List.setIfInBounds_toArray, List.set_cons_zero, List.set_cons_succ]
                    refine wpAnyH_ready (rs := [5]) (by kernel_rfl) (by simp) ?_
                    refine (AllReadyH.cons rfl (fun K hK => ?_) AllReadyH.nil)
                    go_simp
                    refine HIN1.out.mono ?_
                    rintro r u ⟨rfl, rfl⟩
                    refine hK.out _ _ HS0.out (fun hHeld => ?_)
                    clear hK K
                    try simp only [List.getElem_toArray, List.getElem_cons_succ, List.getElem_cons_zero, Act.put, List.setIfInBounds_toArray, List.set_cons_zero, List.set_cons_succ]
                    refine wpAnyH_ready (rs := [7]) (by kernel_rfl) (by simp) ?_
                    refine (AllReadyH.cons rfl (fun K hK => ?_) AllReadyH.nil)
                    go_simp
                    refine (HFX.out _ HS0.out).mono ?_
                    rintro r wf7 ⟨v7, M7, rfl, a1, a2, a3, hb⟩
                    have HS7 := Lib.hid (HS0.out.trans (hb.mono HS0.out.size))
                    obtain ⟨fo7, fc7, rfl⟩ := a1.form
                    have HIN7 := Lib.hid (in_any s M7 _ _ wf7 a1 (by have := abc_len a2 (fun z hz => HMX.out.free z ((a3 z).1 hz)); omega))
                    rw [show decide (s ∈ M7) = false from decide_eq_false (fun h => hx ((a3 s).1 h))] at HIN7
                    clear a1 a2 a3 hb
                    refine hK.out _ _ HS7.out (fun hHeld => ?_)
                    clear hK K
                    try simp only [List.getElem_toArray, List.getElem_cons_succ, List.getElem_cons_zero, Act.put, List.setIfInBounds_toArray, List.set_cons_zero, List.set_cons_succ]
                    refine wpAnyH_ready (rs := [12]) (by kernel_rfl) (by simp) ?_
                    refine (AllReadyH.cons rfl (fun K hK => ?_) AllReadyH.nil)
                    go_simp
                    refine HIN7.out.mono ?_
                    rintro r u ⟨rfl, rfl⟩
                    refine hK.out _ _ HS7.out (fun hHeld => ?_)
                    clear hK K
                    try simp only [List.getElem_toArray, List.getElem_cons_succ, List.getElem_cons_zero, Act.put, List.setIfInBounds_toArray, List.set_cons_zero, List.set_cons_succ]
                    refine wpAnyH_take (i := 13) (v := Value.bool false) rfl (by kernel_rfl) (by kernel_rfl) (by kernel_rfl) (fun _ _ _ h => h) (Or.inl ⟨rfl, fun w' hw' => ?_⟩) hHeld ?_
                    · go_simp
                    simp only [List.getElem_toArray, List.getElem_cons_succ, List.getElem_cons_zero, Act.put, List.setIfInBounds_toArray, List.set_cons_zero, List.set_cons_succ]
                    refine wpAnyH_take (i := 14) (v := Value.agg #[.int .i64 k2, .string t2, nv2, av2]) rfl (by kernel_rfl) (by kernel_rfl) (by kernel_rfl) (fun _ _ _ h => h) (Or.inl ⟨rfl, fun w' hw' => ?_⟩) hHeld ?_
                    · obtain ⟨d0, d1, d2, d3⟩ := HCY.out w' hw'; go_simp
                    simp only [List.getElem_toArray, List.getElem_cons_succ, List.getElem_cons_zero, Act.put, List.setIfInBounds_toArray, List.set_cons_zero, List.set_cons_succ]
                    refine wpAnyH_take (i := 16) (v := Value.slice (some ⟨gsc, 0, none⟩) 3 3) rfl (by kernel_rfl) (by kernel_rfl) (by kernel_rfl) (fun _ _ _ h => h) (Or.inl ⟨rfl, fun w' hw' => ?_⟩) hHeld ?_
                    · go_simp
                    simp only [List.getElem_toArray, List.getElem_cons_succ, List.getElem_cons_zero, Act.put, List.setIfInBounds_toArray, List.set_cons_zero, List.set_cons_succ]
                    refine wpAnyH_take (i := 17) (v := Value.int .i64 (i : Int)) rfl (by kernel_rfl) (by kernel_rfl) (by kernel_rfl) (fun _ _ _ h => h) (Or.inl ⟨rfl, fun w' hw' => ?_⟩) hHeld ?_
                    · go_simp
                    simp only [List.getElem_toArray, List.getElem_cons_succ, List.getElem_cons_zero, Act.put, List.setIfInBounds_toArray, List.set_cons_zero, List.set_cons_succ]
                    refine wpAnyH_take (i := 18) (v := Value.pointer (some ⟨gsc, i, none⟩)) rfl (by kernel_rfl) (by kernel_rfl) (by kernel_rfl) (fun _ _ _ h => h) (Or.inl ⟨rfl, fun w' hw' => ?_⟩) hHeld ?_
                    · go_simp
                    simp only [List.getElem_toArray, List.getElem_cons_succ, List.getElem_cons_zero, Act.put, List.setIfInBounds_toArray, List.set_cons_zero, List.set_cons_succ]
                    refine wpAnyH_take (i := 19) (v := Value.string s) rfl (by kernel_rfl) (by kernel_rfl) (by kernel_rfl) (fun _ _ _ h => h) (Or.inl ⟨rfl, fun w' hw' => ?_⟩) hHeld ?_
                    · have q9 := cell_below hw' e1; go_simp
                    simp only [List.getElem_toArray, List.getElem_cons_succ, List.getElem_cons_zero, Act.put, List.setIfInBounds_toArray, List.set_cons_zero, List.set_cons_succ]
                    refine wpAnyH_ready (rs := [15]) (by kernel_rfl) (by simp) ?_
                    refine (AllReadyH.cons rfl (fun K hK => ?_) AllReadyH.nil)
                    go_simp
                    refine (HFY.out _ HS7.out).mono ?_
                    rintro r wf15 ⟨v15, M15, rfl, a1, a2, a3, hb⟩
                    have HS15 := Lib.hid (HS7.out.trans (hb.mono HS7.out.size))
                    obtain ⟨fo15, fc15, rfl⟩ := a1.form
                    have HIN15 := Lib.hid (in_any s M15 _ _ wf15 a1 (by have := abc_len a2 (fun z hz => HMY.out.free z ((a3 z).1 hz)); omega))
                    rw [show decide (s ∈ M15) = true from decide_eq_true ((a3 s).2 hy)] at HIN15
                    clear a1 a2 a3 hb
                    refine hK.out _ _ HS15.out (fun hHeld => ?_)
                    clear hK K
                    try simp only [List.getElem_toArray, List.getElem_cons_succ, List.getElem_cons_zero, Act.put, List.setIfInBounds_toArray, List.set_cons_zero, List.set_cons_succ]
                    refine wpAnyH_ready (rs := [20]) (by kernel_rfl) (by simp) ?_
                    refine (AllReadyH.cons rfl (fun K hK => ?_) AllReadyH.nil)
                    go_simp
                    refine HIN15.out.mono ?_
                    rintro r u ⟨rfl, rfl⟩
                    refine hK.out _ _ HS15.out (fun hHeld => ?_)
                    clear hK K
                    try simp only [List.getElem_toArray, List.getElem_cons_succ, List.getElem_cons_zero, Act.put, List.setIfInBounds_toArray, List.set_cons_zero, List.set_cons_succ]
                    refine wpAnyH_take (i := 21) (v := Value.bool true) rfl (by kernel_rfl) (by kernel_rfl) (by kernel_rfl) (fun _ _ _ h => h) (Or.inl ⟨rfl, fun w' hw' => ?_⟩) hHeld ?_
                    · go_simp
                    simp only [List.getElem_toArray, List.getElem_cons_succ, List.getElem_cons_zero, Act.put, List.setIfInBounds_toArray, List.set_cons_zero, List.set_cons_succ]
                    refine wpAnyH_take (i := 22) (v := Value.bool false) rfl (by kernel_rfl) (by kernel_rfl) (by kernel_rfl) (fun _ _ _ h => h) (Or.inl ⟨rfl, fun w' hw' => ?_⟩) hHeld ?_
                    · go_simp
                    simp only [List.getElem_toArray, List.getElem_cons_succ, List.getElem_cons_zero, Act.put, List.setIfInBounds_toArray, List.set_cons_zero, List.set_cons_succ]
                    refine wpAnyH_done (by kernel_rfl) ?_ _
                    refine NoPanic.normal ?_
                    clear hHeld
                    have HN9 := Lib.hid (HNX.out _ HS15.out)
                    go_wp2_with fail
                    go_roundw
                    case rel => exact HN9.out
                    case measure => simp [intOf]; omega
                  · rw [show decide (s ∈ L2) = false from decide_eq_false (fun h => (H3.out.1 h).elim hx hy)] at HIN1
                    refine wp_region_noPanic ?_
                    refine wp_region_held_drew (S := Below wr.heap.size wr) (by kernel_rfl) HS0.out (fun hHeld => ?_)
                    generalize wr.drew = X0 at HS0 HIN1 hHeld ⊢
                    refine wpAnyH_take (i := 0) (v := Value.slice fo2 L2.length fc2) rfl (by kernel_rfl) (by kernel_rfl) (by kernel_rfl) (fun _ _ _ h => h) (Or.inl ⟨rfl, fun w' hw' => ?_⟩) hHeld ?_
                    · go_simp
                    simp only [List.getElem_toArray, List.getElem_cons_succ, List.getElem_cons_zero, Act.put, List.setIfInBounds_toArray, List.set_cons_zero, List.set_cons_succ]
                    refine wpAnyH_take (i := 1) (v := Value.slice (some ⟨gsc, 0, none⟩) 3 3) rfl (by kernel_rfl) (by kernel_rfl) (by kernel_rfl) (fun _ _ _ h => h) (Or.inl ⟨rfl, fun w' hw' => ?_⟩) hHeld ?_
                    · go_simp
                    simp only [List.getElem_toArray, List.getElem_cons_succ, List.getElem_cons_zero, Act.put, List.setIfInBounds_toArray, List.set_cons_zero, List.set_cons_succ]
                    refine wpAnyH_take (i := 2) (v := Value.int .i64 (i : Int)) rfl (by kernel_rfl) (by kernel_rfl) (by kernel_rfl) (fun _ _ _ h => h) (Or.inl ⟨rfl, fun w' hw' => ?_⟩) hHeld ?_
                    · go_simp
                    simp only [List.getElem_toArray, List.getElem_cons_succ, List.getElem_cons_zero, Act.put, List.setIfInBounds_toArray, List.set_cons_zero, List.set_cons_succ]
                    refine wpAnyH_take (i := 3) (v := Value.pointer (some ⟨gsc, i, none⟩)) rfl (by kernel_rfl) (by kernel_rfl) (by kernel_rfl) (fun _ _ _ h => h) (Or.inl ⟨rfl, fun w' hw' => ?_⟩) hHeld ?_
                    · go_simp
                    simp only [List.getElem_toArray, List.getElem_cons_succ, List.getElem_cons_zero, Act.put, List.setIfInBounds_toArray, List.set_cons_zero, List.set_cons_succ]
                    refine wpAnyH_take (i := 4) (v := Value.string s) rfl (by kernel_rfl) (by kernel_rfl) (by kernel_rfl) (fun _ _ _ h => h) (Or.inl ⟨rfl, fun w' hw' => ?_⟩) hHeld ?_
                    · have q9 := cell_below hw' e1; go_simp
                    simp only [List.getElem_toArray, List.getElem_cons_succ, List.getElem_cons_zero, Act.put, List.setIfInBounds_toArray, List.set_cons_zero, List.set_cons_succ]
                    refine wpAnyH_take (i := 8) (v := Value.slice (some ⟨gsc, 0, none⟩) 3 3) rfl (by kernel_rfl) (by kernel_rfl) (by kernel_rfl) (fun _ _ _ h => h) (Or.inl ⟨rfl, fun w' hw' => ?_⟩) hHeld ?_
                    · go_simp
                    simp only [List.getElem_toArray, List.getElem_cons_succ, List.getElem_cons_zero, Act.put, List.setIfInBounds_toArray, List.set_cons_zero, List.set_cons_succ]
                    refine wpAnyH_take (i := 9) (v := Value.int .i64 (i : Int)) rfl (by kernel_rfl) (by kernel_rfl) (by kernel_rfl) (fun _ _ _ h => h) (Or.inl ⟨rfl, fun w' hw' => ?_⟩) hHeld ?_
                    · go_simp
                    simp only [List.getElem_toArray, List.getElem_cons_succ, List.getElem_cons_zero, Act.put, List.setIfInBounds_toArray, List.set_cons_zero, List.set_cons_succ]
                    refine wpAnyH_take (i := 10) (v := Value.pointer (some ⟨gsc, i, none⟩)) rfl (by kernel_rfl) (by kernel_rfl) (by kernel_rfl) (fun _ _ _ h => h) (Or.inl ⟨rfl, fun w' hw' => ?_⟩) hHeld ?_
                    · go_simp
                    simp only [List.getElem_toArray, List.getElem_cons_succ, List.getElem_cons_zero, Act.put, List.setIfInBounds_toArray, List.set_cons_zero, List.set_cons_succ]
                    refine wpAnyH_take (i := 11) (v := Value.string s) rfl (by kernel_rfl) (by kernel_rfl) (by kernel_rfl) (fun _ _ _ h => h) (Or.inl ⟨rfl, fun w' hw' => ?_⟩) hHeld ?_
                    · have q9 := cell_below hw' e1; go_simp
                    simp only [List.getElem_toArray, List.getElem_cons_succ, List.getElem_cons_zero, Act.put, List.setIfInBounds_toArray, List.set_cons_zero, List.set_cons_succ]
                    refine wpAnyH_take (i := 6) (v := Value.agg #[.int .i64 k1, .string t1, nv1, av1]) rfl (by kernel_rfl) (by kernel_rfl) (by kernel_rfl) (fun _ _ _ h => h) (Or.inl ⟨rfl, fun w' hw' => ?_⟩) hHeld ?_
                    · obtain ⟨d0, d1, d2, d3⟩ := HCX.out w' hw'; go_simp
                    simp only [List.getElem_toArray, List.getElem_cons_succ, List.getElem_cons_zero, Act.put, List.setIfInBounds_toArray, List.set_cons_zero, List.set_cons_succ]
                    refine wpAnyH_ready (rs := [5]) (by kernel_rfl) (by simp) ?_
                    refine (AllReadyH.cons rfl (fun K hK => ?_) AllReadyH.nil)
                    go_simp
                    refine HIN1.out.mono ?_
                    rintro r u ⟨rfl, rfl⟩
                    refine hK.out _ _ HS0.out (fun hHeld => ?_)
                    clear hK K
                    try simp only [List.getElem_toArray, List.getElem_cons_succ, List.getElem_cons_zero, Act.put, List.setIfInBounds_toArray, List.set_cons_zero, List.set_cons_succ]
                    refine wpAnyH_ready (rs := [7]) (by kernel_rfl) (by simp) ?_
                    refine (AllReadyH.cons rfl (fun K hK => ?_) AllReadyH.nil)
                    go_simp
                    refine (HFX.out _ HS0.out).mono ?_
                    rintro r wf7 ⟨v7, M7, rfl, a1, a2, a3, hb⟩
                    have HS7 := Lib.hid (HS0.out.trans (hb.mono HS0.out.size))
                    obtain ⟨fo7, fc7, rfl⟩ := a1.form
                    have HIN7 := Lib.hid (in_any s M7 _ _ wf7 a1 (by have := abc_len a2 (fun z hz => HMX.out.free z ((a3 z).1 hz)); omega))
                    rw [show decide (s ∈ M7) = false from decide_eq_false (fun h => hx ((a3 s).1 h))] at HIN7
                    clear a1 a2 a3 hb
                    refine hK.out _ _ HS7.out (fun hHeld => ?_)
                    clear hK K
                    try simp only [List.getElem_toArray, List.getElem_cons_succ, List.getElem_cons_zero, Act.put, List.setIfInBounds_toArray, List.set_cons_zero, List.set_cons_succ]
                    refine wpAnyH_ready (rs := [12]) (by kernel_rfl) (by simp) ?_
                    refine (AllReadyH.cons rfl (fun K hK => ?_) AllReadyH.nil)
                    go_simp
                    refine HIN7.out.mono ?_
                    rintro r u ⟨rfl, rfl⟩
                    refine hK.out _ _ HS7.out (fun hHeld => ?_)
                    clear hK K
                    try simp only [List.getElem_toArray, List.getElem_cons_succ, List.getElem_cons_zero, Act.put, List.setIfInBounds_toArray, List.set_cons_zero, List.set_cons_succ]
                    refine wpAnyH_take (i := 13) (v := Value.bool false) rfl (by kernel_rfl) (by kernel_rfl) (by kernel_rfl) (fun _ _ _ h => h) (Or.inl ⟨rfl, fun w' hw' => ?_⟩) hHeld ?_
                    · go_simp
                    simp only [List.getElem_toArray, List.getElem_cons_succ, List.getElem_cons_zero, Act.put, List.setIfInBounds_toArray, List.set_cons_zero, List.set_cons_succ]
                    refine wpAnyH_take (i := 14) (v := Value.agg #[.int .i64 k2, .string t2, nv2, av2]) rfl (by kernel_rfl) (by kernel_rfl) (by kernel_rfl) (fun _ _ _ h => h) (Or.inl ⟨rfl, fun w' hw' => ?_⟩) hHeld ?_
                    · obtain ⟨d0, d1, d2, d3⟩ := HCY.out w' hw'; go_simp
                    simp only [List.getElem_toArray, List.getElem_cons_succ, List.getElem_cons_zero, Act.put, List.setIfInBounds_toArray, List.set_cons_zero, List.set_cons_succ]
                    refine wpAnyH_take (i := 16) (v := Value.slice (some ⟨gsc, 0, none⟩) 3 3) rfl (by kernel_rfl) (by kernel_rfl) (by kernel_rfl) (fun _ _ _ h => h) (Or.inl ⟨rfl, fun w' hw' => ?_⟩) hHeld ?_
                    · go_simp
                    simp only [List.getElem_toArray, List.getElem_cons_succ, List.getElem_cons_zero, Act.put, List.setIfInBounds_toArray, List.set_cons_zero, List.set_cons_succ]
                    refine wpAnyH_take (i := 17) (v := Value.int .i64 (i : Int)) rfl (by kernel_rfl) (by kernel_rfl) (by kernel_rfl) (fun _ _ _ h => h) (Or.inl ⟨rfl, fun w' hw' => ?_⟩) hHeld ?_
                    · go_simp
                    simp only [List.getElem_toArray, List.getElem_cons_succ, List.getElem_cons_zero, Act.put, List.setIfInBounds_toArray, List.set_cons_zero, List.set_cons_succ]
                    refine wpAnyH_take (i := 18) (v := Value.pointer (some ⟨gsc, i, none⟩)) rfl (by kernel_rfl) (by kernel_rfl) (by kernel_rfl) (fun _ _ _ h => h) (Or.inl ⟨rfl, fun w' hw' => ?_⟩) hHeld ?_
                    · go_simp
                    simp only [List.getElem_toArray, List.getElem_cons_succ, List.getElem_cons_zero, Act.put, List.setIfInBounds_toArray, List.set_cons_zero, List.set_cons_succ]
                    refine wpAnyH_take (i := 19) (v := Value.string s) rfl (by kernel_rfl) (by kernel_rfl) (by kernel_rfl) (fun _ _ _ h => h) (Or.inl ⟨rfl, fun w' hw' => ?_⟩) hHeld ?_
                    · have q9 := cell_below hw' e1; go_simp
                    simp only [List.getElem_toArray, List.getElem_cons_succ, List.getElem_cons_zero, Act.put, List.setIfInBounds_toArray, List.set_cons_zero, List.set_cons_succ]
                    refine wpAnyH_ready (rs := [15]) (by kernel_rfl) (by simp) ?_
                    refine (AllReadyH.cons rfl (fun K hK => ?_) AllReadyH.nil)
                    go_simp
                    refine (HFY.out _ HS7.out).mono ?_
                    rintro r wf15 ⟨v15, M15, rfl, a1, a2, a3, hb⟩
                    have HS15 := Lib.hid (HS7.out.trans (hb.mono HS7.out.size))
                    obtain ⟨fo15, fc15, rfl⟩ := a1.form
                    have HIN15 := Lib.hid (in_any s M15 _ _ wf15 a1 (by have := abc_len a2 (fun z hz => HMY.out.free z ((a3 z).1 hz)); omega))
                    rw [show decide (s ∈ M15) = false from decide_eq_false (fun h => hy ((a3 s).1 h))] at HIN15
                    clear a1 a2 a3 hb
                    refine hK.out _ _ HS15.out (fun hHeld => ?_)
                    clear hK K
                    try simp only [List.getElem_toArray, List.getElem_cons_succ, List.getElem_cons_zero, Act.put, List.setIfInBounds_toArray, List.set_cons_zero, List.set_cons_succ]
                    refine wpAnyH_ready (rs := [20]) (by kernel_rfl) (by simp) ?_
                    refine (AllReadyH.cons rfl (fun K hK => ?_) AllReadyH.nil)
                    go_simp
                    refine HIN15.out.mono ?_
                    rintro r u ⟨rfl, rfl⟩
                    refine hK.out _ _ HS15.out (fun hHeld => ?_)
                    clear hK K
                    try simp only [List.getElem_toArray, List.getElem_cons_succ, List.getElem_cons_zero, Act.put, List.setIfInBounds_toArray, List.set_cons_zero, List.set_cons_succ]
                    refine wpAnyH_take (i := 21) (v := Value.bool false) rfl (by kernel_rfl) (by kernel_rfl) (by kernel_rfl) (fun _ _ _ h => h) (Or.inl ⟨rfl, fun w' hw' => ?_⟩) hHeld ?_
                    · go_simp
                    simp only [List.getElem_toArray, List.getElem_cons_succ, List.getElem_cons_zero, Act.put, List.setIfInBounds_toArray, List.set_cons_zero, List.set_cons_succ]
                    refine wpAnyH_take (i := 22) (v := Value.bool false) rfl (by kernel_rfl) (by kernel_rfl) (by kernel_rfl) (fun _ _ _ h => h) (Or.inl ⟨rfl, fun w' hw' => ?_⟩) hHeld ?_
                    · go_simp
                    simp only [List.getElem_toArray, List.getElem_cons_succ, List.getElem_cons_zero, Act.put, List.setIfInBounds_toArray, List.set_cons_zero, List.set_cons_succ]
                    refine wpAnyH_done (by kernel_rfl) ?_ _
                    refine NoPanic.normal ?_
                    clear hHeld
                    have HN9 := Lib.hid (HNX.out _ HS15.out)
                    go_wp2_with fail
                    go_roundw
                    case rel => exact HN9.out
                    case measure => simp [intOf]; omega
              · obtain rfl : i = 3 := by omega
                have HCL : Hid (∀ w', Below wr.heap.size wr w' → w'.cell? ⟨gL, 0, none⟩ = some (.int .i64 9) ∧ w'.cell? ⟨gL, 1, none⟩ = some (.string ⟨#[]⟩) ∧ w'.cell? ⟨gL, 2, none⟩ = some (.slice (some ⟨gN, 0, none⟩) 2 2) ∧ w'.cell? ⟨gL, 3, none⟩ = some (.slice (some ⟨gP, 0, none⟩) 3 3)) := fun w' hw' => EB.cell w' gL 9 ⟨#[]⟩ _ _ (row_below hw' HELB.out)
                obtain ⟨sx, hsx⟩ : ∃ sx : Nat, sx = x.size := ⟨_, rfl⟩
                obtain ⟨sy, hsy⟩ : ∃ sy : Nat, sy = y.size := ⟨_, rfl⟩
                have HRL : Hid (∀ w', Below wr.heap.size wr w' → Calls Try.prog 15 #[.agg #[.int .i64 9, .string ⟨#[]⟩, .slice (some ⟨gN, 0, none⟩) 2 2, .slice (some ⟨gP, 0, none⟩) 3 3]] w' (RetBool true w')) := by
                  intro w' hw'
                  have h := right_any2 (Et.mk 9 ⟨#[]⟩ ab [x, y, vC]) _ _ w' (Et.At.keeps (Keeps.of_below hw') _ _ HLB.out) (by simp only [Et.size, Et.sizes]; omega) (let_fine HMX.out.fine HMY.out.fine)
                  rw [let_right HMX.out.right HMY.out.right] at h
                  exact h
                have HZL : Hid (∀ w', Below wr.heap.size wr w' → Calls Try.prog 24 #[.agg #[.int .i64 9, .string ⟨#[]⟩, .slice (some ⟨gN, 0, none⟩) 2 2, .slice (some ⟨gP, 0, none⟩) 3 3]] w' (RetInt ((sx : Int) + (sy : Int) + 2) w')) := by
                  intro w' hw'
                  have h := size_any 100000 (Nat.le_refl _) (Et.mk 9 ⟨#[]⟩ ab [x, y, vC]) (by simp only [Et.size, Et.sizes]; omega) _ _ w' (Et.At.keeps (Keeps.of_below hw') _ _ HLB.out)
                  rw [show (((Et.mk 9 ⟨#[]⟩ ab [x, y, vC]).size : Nat) : Int) = (sx : Int) + (sy : Int) + 2 from by simp only [Et.size, Et.sizes]; omega] at h
                  exact h
                have HZX : Hid (∀ w', Below wr.heap.size wr w' → Calls Try.prog 24 #[.agg #[.int .i64 k1, .string t1, nv1, av1]] w' (RetInt (sx : Int) w')) := by
                  intro w' hw'
                  have h := size_any 100000 (Nat.le_refl _) x (by omega) _ _ w' (Et.At.keeps (Keeps.of_below hw') _ _ HXB.out)
                  rw [← hsx] at h
                  exact h
                have HZY : Hid (∀ w', Below wr.heap.size wr w' → Calls Try.prog 24 #[.agg #[.int .i64 k2, .string t2, nv2, av2]] w' (RetInt (sy : Int) w')) := by
                  intro w' hw'
                  have h := size_any 100000 (Nat.le_refl _) y (by omega) _ _ w' (Et.At.keeps (Keeps.of_below hw') _ _ HYB.out)
                  rw [← hsy] at h
                  exact h
                have hww := wsum sx sy (by omega) (by omega)
                have HWA := Lib.hid hww.1
                have HWB := Lib.hid hww.2
                clear hww
                have HBZ := Lib.hid (HB15.out.trans (HBI.out.mono HB15.out.size))
                clear b0 HLB HXB HYB HEXB HEYB HELB hlt hi hszx hszy hsx hsy hm1 hcn hcm hl2
                go_upto_region 21 with fail
                refine wp_region_noPanic ?_
                refine wp_region_held_drew (S := Below wr.heap.size wr) (by kernel_rfl) HS0.out (fun hHeld => ?_)
                generalize wr.drew = X0 at HS0 hHeld ⊢
                refine wpAnyH_take (i := 0) (v := Value.slice fo 1 fc) rfl (by kernel_rfl) (by kernel_rfl) (by kernel_rfl) (fun _ _ _ h => h) (Or.inl ⟨rfl, fun w' hw' => ?_⟩) hHeld ?_
                · go_simp
                simp only [List.getElem_toArray, List.getElem_cons_succ, List.getElem_cons_zero, Act.put, List.setIfInBounds_toArray, List.set_cons_zero, List.set_cons_succ]
                refine wpAnyH_take (i := 1) (v := Value.int .i64 1) rfl (by kernel_rfl) (by kernel_rfl) (by kernel_rfl) (fun _ _ _ h => h) (Or.inl ⟨rfl, fun w' hw' => ?_⟩) hHeld ?_
                · go_simp
                simp only [List.getElem_toArray, List.getElem_cons_succ, List.getElem_cons_zero, Act.put, List.setIfInBounds_toArray, List.set_cons_zero, List.set_cons_succ]
                refine wpAnyH_take (i := 2) (v := Value.bool true) rfl (by kernel_rfl) (by kernel_rfl) (by kernel_rfl) (fun _ _ _ h => h) (Or.inl ⟨rfl, fun w' hw' => ?_⟩) hHeld ?_
                · go_simp
                simp only [List.getElem_toArray, List.getElem_cons_succ, List.getElem_cons_zero, Act.put, List.setIfInBounds_toArray, List.set_cons_zero, List.set_cons_succ]
                refine wpAnyH_take (i := 3) (v := Value.bool true) rfl (by kernel_rfl) (by kernel_rfl) (by kernel_rfl) (fun _ _ _ h => h) (Or.inl ⟨rfl, fun w' hw' => ?_⟩) hHeld ?_
                · go_simp
                simp only [List.getElem_toArray, List.getElem_cons_succ, List.getElem_cons_zero, Act.put, List.setIfInBounds_toArray, List.set_cons_zero, List.set_cons_succ]
                refine wpAnyH_take (i := 4) (v := Value.agg #[.int .i64 9, .string ⟨#[]⟩, .slice (some ⟨gN, 0, none⟩) 2 2, .slice (some ⟨gP, 0, none⟩) 3 3]) rfl (by kernel_rfl) (by kernel_rfl) (by kernel_rfl) (fun _ _ _ h => h) (Or.inl ⟨rfl, fun w' hw' => ?_⟩) hHeld ?_
                · obtain ⟨d0, d1, d2, d3⟩ := HCL.out w' hw'; go_simp
                simp only [List.getElem_toArray, List.getElem_cons_succ, List.getElem_cons_zero, Act.put, List.setIfInBounds_toArray, List.set_cons_zero, List.set_cons_succ]
                refine wpAnyH_ready (rs := [5]) (by kernel_rfl) (by simp) ?_
                refine (AllReadyH.cons rfl (fun K hK => ?_) AllReadyH.nil)
                go_simp
                refine (HRL.out _ HS0.out).mono ?_
                rintro r z5 ⟨rfl, hb⟩
                have HZ5 := Lib.hid (HS0.out.trans (hb.mono HS0.out.size))
                clear hb
                refine hK.out _ _ HZ5.out (fun hHeld => ?_)
                clear hK K
                try simp only [List.getElem_toArray, List.getElem_cons_succ, List.getElem_cons_zero, Act.put, List.setIfInBounds_toArray, List.set_cons_zero, List.set_cons_succ]
                refine wpAnyH_take (i := 6) (v := Value.bool true) rfl (by kernel_rfl) (by kernel_rfl) (by kernel_rfl) (fun _ _ _ h => h) (Or.inl ⟨rfl, fun w' hw' => ?_⟩) hHeld ?_
                · go_simp
                simp only [List.getElem_toArray, List.getElem_cons_succ, List.getElem_cons_zero, Act.put, List.setIfInBounds_toArray, List.set_cons_zero, List.set_cons_succ]
                refine wpAnyH_take (i := 7) (v := Value.bool true) rfl (by kernel_rfl) (by kernel_rfl) (by kernel_rfl) (fun _ _ _ h => h) (Or.inl ⟨rfl, fun w' hw' => ?_⟩) hHeld ?_
                · go_simp
                simp only [List.getElem_toArray, List.getElem_cons_succ, List.getElem_cons_zero, Act.put, List.setIfInBounds_toArray, List.set_cons_zero, List.set_cons_succ]
                refine wpAnyH_take (i := 8) (v := Value.agg #[.int .i64 9, .string ⟨#[]⟩, .slice (some ⟨gN, 0, none⟩) 2 2, .slice (some ⟨gP, 0, none⟩) 3 3]) rfl (by kernel_rfl) (by kernel_rfl) (by kernel_rfl) (fun _ _ _ h => h) (Or.inl ⟨rfl, fun w' hw' => ?_⟩) hHeld ?_
                · obtain ⟨d0, d1, d2, d3⟩ := HCL.out w' hw'; go_simp
                simp only [List.getElem_toArray, List.getElem_cons_succ, List.getElem_cons_zero, Act.put, List.setIfInBounds_toArray, List.set_cons_zero, List.set_cons_succ]
                refine wpAnyH_take (i := 10) (v := Value.agg #[.int .i64 k1, .string t1, nv1, av1]) rfl (by kernel_rfl) (by kernel_rfl) (by kernel_rfl) (fun _ _ _ h => h) (Or.inl ⟨rfl, fun w' hw' => ?_⟩) hHeld ?_
                · obtain ⟨d0, d1, d2, d3⟩ := HCX.out w' hw'; go_simp
                simp only [List.getElem_toArray, List.getElem_cons_succ, List.getElem_cons_zero, Act.put, List.setIfInBounds_toArray, List.set_cons_zero, List.set_cons_succ]
                refine wpAnyH_take (i := 12) (v := Value.agg #[.int .i64 k2, .string t2, nv2, av2]) rfl (by kernel_rfl) (by kernel_rfl) (by kernel_rfl) (fun _ _ _ h => h) (Or.inl ⟨rfl, fun w' hw' => ?_⟩) hHeld ?_
                · obtain ⟨d0, d1, d2, d3⟩ := HCY.out w' hw'; go_simp
                simp only [List.getElem_toArray, List.getElem_cons_succ, List.getElem_cons_zero, Act.put, List.setIfInBounds_toArray, List.set_cons_zero, List.set_cons_succ]
                refine wpAnyH_ready (rs := [9]) (by kernel_rfl) (by simp) ?_
                refine (AllReadyH.cons rfl (fun K hK => ?_) AllReadyH.nil)
                go_simp
                refine (HZL.out _ HZ5.out).mono ?_
                rintro r z9 ⟨rfl, hb⟩
                have HZ9 := Lib.hid (HZ5.out.trans (hb.mono HZ5.out.size))
                clear hb
                refine hK.out _ _ HZ9.out (fun hHeld => ?_)
                clear hK K
                try simp only [List.getElem_toArray, List.getElem_cons_succ, List.getElem_cons_zero, Act.put, List.setIfInBounds_toArray, List.set_cons_zero, List.set_cons_succ]
                refine wpAnyH_ready (rs := [11]) (by kernel_rfl) (by simp) ?_
                refine (AllReadyH.cons rfl (fun K hK => ?_) AllReadyH.nil)
                go_simp
                refine (HZX.out _ HZ9.out).mono ?_
                rintro r z11 ⟨rfl, hb⟩
                have HZ11 := Lib.hid (HZ9.out.trans (hb.mono HZ9.out.size))
                clear hb
                refine hK.out _ _ HZ11.out (fun hHeld => ?_)
                clear hK K
                try simp only [List.getElem_toArray, List.getElem_cons_succ, List.getElem_cons_zero, Act.put, List.setIfInBounds_toArray, List.set_cons_zero, List.set_cons_succ]
                refine wpAnyH_ready (rs := [13]) (by kernel_rfl) (by simp) ?_
                refine (AllReadyH.cons rfl (fun K hK => ?_) AllReadyH.nil)
                go_simp
                refine (HZY.out _ HZ11.out).mono ?_
                rintro r z13 ⟨rfl, hb⟩
                have HZ13 := Lib.hid (HZ11.out.trans (hb.mono HZ11.out.size))
                clear hb
                refine hK.out _ _ HZ13.out (fun hHeld => ?_)
                clear hK K
                try simp only [List.getElem_toArray, List.getElem_cons_succ, List.getElem_cons_zero, Act.put, List.setIfInBounds_toArray, List.set_cons_zero, List.set_cons_succ]
                refine wpAnyH_take (i := 14) (v := Value.int .i64 ((sx : Int) + (sy : Int))) rfl (by kernel_rfl) (by kernel_rfl) (by kernel_rfl) (fun _ _ _ h => h) (Or.inl ⟨rfl, fun w' hw' => ?_⟩) hHeld ?_
                · go_simp; exact HWA.out
                simp only [List.getElem_toArray, List.getElem_cons_succ, List.getElem_cons_zero, Act.put, List.setIfInBounds_toArray, List.set_cons_zero, List.set_cons_succ]
                refine wpAnyH_take (i := 15) (v := Value.int .i64 ((sx : Int) + (sy : Int) + 2)) rfl (by kernel_rfl) (by kernel_rfl) (by kernel_rfl) (fun _ _ _ h => h) (Or.inl ⟨rfl, fun w' hw' => ?_⟩) hHeld ?_
                · go_simp; exact HWB.out
                simp only [List.getElem_toArray, List.getElem_cons_succ, List.getElem_cons_zero, Act.put, List.setIfInBounds_toArray, List.set_cons_zero, List.set_cons_succ]
                refine wpAnyH_take (i := 16) (v := Value.bool true) rfl (by kernel_rfl) (by kernel_rfl) (by kernel_rfl) (fun _ _ _ h => h) (Or.inl ⟨rfl, fun w' hw' => ?_⟩) hHeld ?_
                · go_simp
                simp only [List.getElem_toArray, List.getElem_cons_succ, List.getElem_cons_zero, Act.put, List.setIfInBounds_toArray, List.set_cons_zero, List.set_cons_succ]
                refine wpAnyH_take (i := 17) (v := Value.bool true) rfl (by kernel_rfl) (by kernel_rfl) (by kernel_rfl) (fun _ _ _ h => h) (Or.inl ⟨rfl, fun w' hw' => ?_⟩) hHeld ?_
                · go_simp
                simp only [List.getElem_toArray, List.getElem_cons_succ, List.getElem_cons_zero, Act.put, List.setIfInBounds_toArray, List.set_cons_zero, List.set_cons_succ]
                refine wpAnyH_take (i := 18) (v := Value.bool true) rfl (by kernel_rfl) (by kernel_rfl) (by kernel_rfl) (fun _ _ _ h => h) (Or.inl ⟨rfl, fun w' hw' => ?_⟩) hHeld ?_
                · go_simp
                simp only [List.getElem_toArray, List.getElem_cons_succ, List.getElem_cons_zero, Act.put, List.setIfInBounds_toArray, List.set_cons_zero, List.set_cons_succ]
                refine wpAnyH_done (by kernel_rfl) ?_ _
                refine NoPanic.normal ?_
                clear hHeld
                have HFIN := Lib.hid (HBZ.out.trans (HZ13.out.mono HBZ.out.size))
                go_wp2_with fail
                go_ret
                exact ⟨rfl, HFIN.out⟩
      clear hK
      have HRR := Lib.hid REST
      clear REST
      refine wp_region_noPanic ?_
      refine wp_region_held_drew (S := Below W11.heap.size W11) (by kernel_rfl) HSX.out (fun hHeld => ?_)
      generalize W11.drew = X0 at HSX hHeld ⊢
      refine wpAnyH_take (i := 1) (v := Value.agg #[.int .i64 k1, .string t1, nv1, av1]) rfl (by kernel_rfl) (by kernel_rfl) (by kernel_rfl) (fun _ _ _ h => h) (Or.inl ⟨rfl, fun w' hw' => ?_⟩) hHeld ?_
      · obtain ⟨d0, d1, d2, d3⟩ := HCX.out w' hw'; go_simp
      simp only [List.getElem_toArray, List.getElem_cons_succ, List.getElem_cons_zero, Act.put, List.setIfInBounds_toArray, List.set_cons_zero, List.set_cons_succ]
      refine wpAnyH_take (i := 2) (v := Value.agg #[.int .i64 k2, .string t2, nv2, av2]) rfl (by kernel_rfl) (by kernel_rfl) (by kernel_rfl) (fun _ _ _ h => h) (Or.inl ⟨rfl, fun w' hw' => ?_⟩) hHeld ?_
      · obtain ⟨d0, d1, d2, d3⟩ := HCY.out w' hw'; go_simp
      simp only [List.getElem_toArray, List.getElem_cons_succ, List.getElem_cons_zero, Act.put, List.setIfInBounds_toArray, List.set_cons_zero, List.set_cons_succ]
      refine wpAnyH_ready (rs := [0, 3, 6]) (by kernel_rfl) (by simp) ?_
      refine (AllReadyH.cons rfl (fun K hK => ?_) (AllReadyH.cons rfl (fun K hK => ?_) (AllReadyH.cons rfl (fun K hK => ?_) AllReadyH.nil)))
      · skip
        go_simp
        have HS0 : Hid (Below W11.heap.size W11 (X0.alloc (.cells #[.string ⟨#[97]⟩, .string ⟨#[98]⟩] 9))) := HSX.out.alloc HSX.out.size _
        have A0 := Lib.hid ((Below.refl X0.heap.size X0).alloc (Nat.le_refl _) (.cells #[.string ⟨#[97]⟩, .string ⟨#[98]⟩] 9))
        have HNN0 : Hid ((X0.alloc (.cells #[.string ⟨#[97]⟩, .string ⟨#[98]⟩] 9)).heap[X0.heap.size]? = some (.cells (tcells ab) 9 (0, 0))) := alloc_at X0 _
        have hh0 : W11.heap.size ≤ X0.heap.size := HSX.out.size
        refine hK.out _ _ HS0.out (fun hHeld => ?_)
        clear hK K
        try simp only [List.getElem_toArray, List.getElem_cons_succ, List.getElem_cons_zero, Act.put, List.setIfInBounds_toArray, List.set_cons_zero, List.set_cons_succ]
        generalize X0.alloc (.cells #[.string ⟨#[97]⟩, .string ⟨#[98]⟩] 9) = w0 at HS0 A0 HNN0 hHeld ⊢
        have hlt0 : X0.heap.size < w0.heap.size := (Array.getElem?_eq_some_iff.1 HNN0.out).1
        obtain ⟨gN, he0⟩ : ∃ gN, gN = X0.heap.size := ⟨_, rfl⟩
        rw [← he0] at HNN0 hh0
        simp only [← he0]
        have hhN := hh0
        clear he0 hlt0
        have HNN := HNN0
        refine wpAnyH_ready (rs := [3, 6]) (by kernel_rfl) (by simp) ?_
        refine (AllReadyH.cons rfl (fun K hK => ?_) (AllReadyH.cons rfl (fun K hK => ?_) AllReadyH.nil))
        · skip
          go_simp
          refine (HVA.out _).mono ?_
          rintro r w3 ⟨rfl, hb3⟩
          have A3 := Lib.hid hb3
          have HS3 := Lib.hid (HS0.out.trans (hb3.mono HS0.out.size))
          clear hb3
          refine hK.out _ _ HS3.out (fun hHeld => ?_)
          clear hK K
          try simp only [List.getElem_toArray, List.getElem_cons_succ, List.getElem_cons_zero, Act.put, List.setIfInBounds_toArray, List.set_cons_zero, List.set_cons_succ]
          have HNN := Lib.hid (row_below A3.out HNN.out)
          refine wpAnyH_ready (rs := [4, 6]) (by kernel_rfl) (by simp) ?_
          refine (AllReadyH.cons rfl (fun K hK => ?_) (AllReadyH.cons rfl (fun K hK => ?_) AllReadyH.nil))
          · skip
            go_simp
            have HS4 : Hid (Below W11.heap.size W11 (w3.alloc (.cells #[.int .i64 k1, .string t1, nv1, av1, .int .i64 k2, .string t2, nv2, av2, .int .i64 5, .string ⟨#[99]⟩, .slice none 0 0, .slice none 0 0] 28))) := HS3.out.alloc HS3.out.size _
            have A4 := Lib.hid ((Below.refl w3.heap.size w3).alloc (Nat.le_refl _) (.cells #[.int .i64 k1, .string t1, nv1, av1, .int .i64 k2, .string t2, nv2, av2, .int .i64 5, .string ⟨#[99]⟩, .slice none 0 0, .slice none 0 0] 28))
            have HPP4 : Hid ((w3.alloc (.cells #[.int .i64 k1, .string t1, nv1, av1, .int .i64 k2, .string t2, nv2, av2, .int .i64 5, .string ⟨#[99]⟩, .slice none 0 0, .slice none 0 0] 28)).heap[w3.heap.size]? = some (.cells (#[.int .i64 k1, .string t1, nv1, av1] ++ #[.int .i64 k2, .string t2, nv2, av2] ++ #[.int .i64 5, .string ⟨#[99]⟩, .slice none 0 0, .slice none 0 0]) 28 (0, 0))) := alloc_at w3 (.cells #[.int .i64 k1, .string t1, nv1, av1, .int .i64 k2, .string t2, nv2, av2, .int .i64 5, .string ⟨#[99]⟩, .slice none 0 0, .slice none 0 0] 28)
            have hh4 : W11.heap.size ≤ w3.heap.size := HS3.out.size
            refine hK.out _ _ HS4.out (fun hHeld => ?_)
            clear hK K
            try simp only [List.getElem_toArray, List.getElem_cons_succ, List.getElem_cons_zero, Act.put, List.setIfInBounds_toArray, List.set_cons_zero, List.set_cons_succ]
            generalize w3.alloc (.cells #[.int .i64 k1, .string t1, nv1, av1, .int .i64 k2, .string t2, nv2, av2, .int .i64 5, .string ⟨#[99]⟩, .slice none 0 0, .slice none 0 0] 28) = w4 at HS4 A4 HPP4 hHeld ⊢
            have hlt4 : w3.heap.size < w4.heap.size := (Array.getElem?_eq_some_iff.1 HPP4.out).1
            have hl_gN4 : gN < w3.heap.size := (Array.getElem?_eq_some_iff.1 HNN.out).1
            obtain ⟨gP, he4⟩ : ∃ gP, gP = w3.heap.size := ⟨_, rfl⟩
            rw [← he4] at HPP4 hh4
            simp only [← he4]
            have hhP := hh4
            clear he4 hlt4 hl_gN4
            have HPP := HPP4
            have HNN := Lib.hid (row_below A4.out HNN.out)
            refine wpAnyH_take (i := 5) (v := Value.agg #[.int .i64 9, .string ⟨#[]⟩, .slice (some ⟨gN, 0, none⟩) 2 2, .slice (some ⟨gP, 0, none⟩) 3 3]) rfl (by kernel_rfl) (by kernel_rfl) (by kernel_rfl) (fun _ _ _ h => h) (Or.inl ⟨rfl, fun w' hw' => ?_⟩) hHeld ?_
            · go_simp
            simp only [List.getElem_toArray, List.getElem_cons_succ, List.getElem_cons_zero, Act.put, List.setIfInBounds_toArray, List.set_cons_zero, List.set_cons_succ]
            refine wpAnyH_ready (rs := [6]) (by kernel_rfl) (by simp) ?_
            refine (AllReadyH.cons rfl (fun K hK => ?_) AllReadyH.nil)
            go_simp
            have HS6 : Hid (Below W11.heap.size W11 (w4.alloc (.cells Z4 28))) := HS4.out.alloc HS4.out.size _
            have A6 := Lib.hid ((Below.refl w4.heap.size w4).alloc (Nat.le_refl _) (.cells Z4 28))
            have HLL6 : Hid ((w4.alloc (.cells Z4 28)).heap[w4.heap.size]? = some (.cells Z4 28 (0, 0))) := alloc_at w4 _
            have hh6 : W11.heap.size ≤ w4.heap.size := HS4.out.size
            refine hK.out _ _ HS6.out (fun hHeld => ?_)
            clear hK K
            try simp only [List.getElem_toArray, List.getElem_cons_succ, List.getElem_cons_zero, Act.put, List.setIfInBounds_toArray, List.set_cons_zero, List.set_cons_succ]
            generalize w4.alloc (.cells Z4 28) = w6 at HS6 A6 HLL6 hHeld ⊢
            have hlt6 : w4.heap.size < w6.heap.size := (Array.getElem?_eq_some_iff.1 HLL6.out).1
            have hl_gN6 : gN < w4.heap.size := (Array.getElem?_eq_some_iff.1 HNN.out).1
            have hl_gP6 : gP < w4.heap.size := (Array.getElem?_eq_some_iff.1 HPP.out).1
            obtain ⟨gL, he6⟩ : ∃ gL, gL = w4.heap.size := ⟨_, rfl⟩
            rw [← he6] at HLL6 hh6
            simp only [← he6]
            have hNL : gN ≠ gL := by omega
            have hPL : gP ≠ gL := by omega
            have hhL := hh6
            clear he6 hlt6 hl_gN6 hl_gP6
            have HLL := HLL6
            have HNN := Lib.hid (row_below A6.out HNN.out)
            have HPP := Lib.hid (row_below A6.out HPP.out)
            refine wpAnyH_ready (rs := [7]) (by kernel_rfl) (by simp) ?_
            refine (AllReadyH.cons rfl (fun K hK => ?_) AllReadyH.nil)
            have hone7 : (#[.int .i64 9, .string ⟨#[]⟩, .slice (some ⟨gN, 0, none⟩) 2 2, .slice (some ⟨gP, 0, none⟩) 3 3] : Array Value).all (·.oneCell') = true := by simp [Value.oneCell']
            have HS7 : Hid (Below W11.heap.size W11 (w6.setRow gL #[.int .i64 9, .string ⟨#[]⟩, .slice (some ⟨gN, 0, none⟩) 2 2, .slice (some ⟨gP, 0, none⟩) 3 3])) := Below.setRowUp HS6.out _ _ hhL
            have HFN := Lib.hid (HREST.out w6 gN gP gL HS6.out HNN.out HPP.out HLL.out hhL hNL hPL)
            refine wp_store_row 28 _ _ rfl gL #[.int .i64 9, .string ⟨#[]⟩, .slice (some ⟨gN, 0, none⟩) 2 2, .slice (some ⟨gP, 0, none⟩) 3 3] (by go_simp) rfl 28 Z4 HLL.out info28 rfl hone7 ?_
            refine hK.out _ _ HS7.out (fun hHeld => ?_)
            clear hK K
            try simp only [List.getElem_toArray, List.getElem_cons_succ, List.getElem_cons_zero, Act.put, List.setIfInBounds_toArray, List.set_cons_zero, List.set_cons_succ]
            refine wpAnyH_done (by kernel_rfl) ?_ _
            refine NoPanic.normal ?_
            clear hHeld
            exact HRR.out _ _ _ _ _ _ _ _ _ _ _ _ _ _ _ _ _ _ _ _ _ _ _ _ _ _ _ _ _ _ _ _ gN gP gL HFN.out
          · skip
            go_simp
            have HS6 : Hid (Below W11.heap.size W11 (w3.alloc (.cells Z4 28))) := HS3.out.alloc HS3.out.size _
            have A6 := Lib.hid ((Below.refl w3.heap.size w3).alloc (Nat.le_refl _) (.cells Z4 28))
            have HLL6 : Hid ((w3.alloc (.cells Z4 28)).heap[w3.heap.size]? = some (.cells Z4 28 (0, 0))) := alloc_at w3 _
            have hh6 : W11.heap.size ≤ w3.heap.size := HS3.out.size
            refine hK.out _ _ HS6.out (fun hHeld => ?_)
            clear hK K
            try simp only [List.getElem_toArray, List.getElem_cons_succ, List.getElem_cons_zero, Act.put, List.setIfInBounds_toArray, List.set_cons_zero, List.set_cons_succ]
            generalize w3.alloc (.cells Z4 28) = w6 at HS6 A6 HLL6 hHeld ⊢
            have hlt6 : w3.heap.size < w6.heap.size := (Array.getElem?_eq_some_iff.1 HLL6.out).1
            have hl_gN6 : gN < w3.heap.size := (Array.getElem?_eq_some_iff.1 HNN.out).1
            obtain ⟨gL, he6⟩ : ∃ gL, gL = w3.heap.size := ⟨_, rfl⟩
            rw [← he6] at HLL6 hh6
            simp only [← he6]
            have hNL : gN ≠ gL := by omega
            have hhL := hh6
            clear he6 hlt6 hl_gN6
            have HLL := HLL6
            have HNN := Lib.hid (row_below A6.out HNN.out)
            refine wpAnyH_ready (rs := [4]) (by kernel_rfl) (by simp) ?_
            refine (AllReadyH.cons rfl (fun K hK => ?_) AllReadyH.nil)
            go_simp
            have HS4 : Hid (Below W11.heap.size W11 (w6.alloc (.cells #[.int .i64 k1, .string t1, nv1, av1, .int .i64 k2, .string t2, nv2, av2, .int .i64 5, .string ⟨#[99]⟩, .slice none 0 0, .slice none 0 0] 28))) := HS6.out.alloc HS6.out.size _
            have A4 := Lib.hid ((Below.refl w6.heap.size w6).alloc (Nat.le_refl _) (.cells #[.int .i64 k1, .string t1, nv1, av1, .int .i64 k2, .string t2, nv2, av2, .int .i64 5, .string ⟨#[99]⟩, .slice none 0 0, .slice none 0 0] 28))
            have HPP4 : Hid ((w6.alloc (.cells #[.int .i64 k1, .string t1, nv1, av1, .int .i64 k2, .string t2, nv2, av2, .int .i64 5, .string ⟨#[99]⟩, .slice none 0 0, .slice none 0 0] 28)).heap[w6.heap.size]? = some (.cells (#[.int .i64 k1, .string t1, nv1, av1] ++ #[.int .i64 k2, .string t2, nv2, av2] ++ #[.int .i64 5, .string ⟨#[99]⟩, .slice none 0 0, .slice none 0 0]) 28 (0, 0))) := alloc_at w6 (.cells #[.int .i64 k1, .string t1, nv1, av1, .int .i64 k2, .string t2, nv2, av2, .int .i64 5, .string ⟨#[99]⟩, .slice none 0 0, .slice none 0 0] 28)
            have hh4 : W11.heap.size ≤ w6.heap.size := HS6.out.size
            refine hK.out _ _ HS4.out (fun hHeld => ?_)
            clear hK K
            try simp only [List.getElem_toArray, List.getElem_cons_succ, List.getElem_cons_zero, Act.put, List.setIfInBounds_toArray, List.set_cons_zero, List.set_cons_succ]
            generalize w6.alloc (.cells #[.int .i64 k1, .string t1, nv1, av1, .int .i64 k2, .string t2, nv2, av2, .int .i64 5, .string ⟨#[99]⟩, .slice none 0 0, .slice none 0 0] 28) = w4 at HS4 A4 HPP4 hHeld ⊢
            have hlt4 : w6.heap.size < w4.heap.size := (Array.getElem?_eq_some_iff.1 HPP4.out).1
            have hl_gN4 : gN < w6.heap.size := (Array.getElem?_eq_some_iff.1 HNN.out).1
            have hl_gL4 : gL < w6.heap.size := (Array.getElem?_eq_some_iff.1 HLL.out).1
            obtain ⟨gP, he4⟩ : ∃ gP, gP = w6.heap.size := ⟨_, rfl⟩
            rw [← he4] at HPP4 hh4
            simp only [← he4]
            have hPL : gP ≠ gL := by omega
            have hhP := hh4
            clear he4 hlt4 hl_gN4 hl_gL4
            have HPP := HPP4
            have HNN := Lib.hid (row_below A4.out HNN.out)
            have HLL := Lib.hid (row_below A4.out HLL.out)
            refine wpAnyH_take (i := 5) (v := Value.agg #[.int .i64 9, .string ⟨#[]⟩, .slice (some ⟨gN, 0, none⟩) 2 2, .slice (some ⟨gP, 0, none⟩) 3 3]) rfl (by kernel_rfl) (by kernel_rfl) (by kernel_rfl) (fun _ _ _ h => h) (Or.inl ⟨rfl, fun w' hw' => ?_⟩) hHeld ?_
            · go_simp
            simp only [List.getElem_toArray, List.getElem_cons_succ, List.getElem_cons_zero, Act.put, List.setIfInBounds_toArray, List.set_cons_zero, List.set_cons_succ]
            refine wpAnyH_ready (rs := [7]) (by kernel_rfl) (by simp) ?_
            refine (AllReadyH.cons rfl (fun K hK => ?_) AllReadyH.nil)
            have hone7 : (#[.int .i64 9, .string ⟨#[]⟩, .slice (some ⟨gN, 0, none⟩) 2 2, .slice (some ⟨gP, 0, none⟩) 3 3] : Array Value).all (·.oneCell') = true := by simp [Value.oneCell']
            have HS7 : Hid (Below W11.heap.size W11 (w4.setRow gL #[.int .i64 9, .string ⟨#[]⟩, .slice (some ⟨gN, 0, none⟩) 2 2, .slice (some ⟨gP, 0, none⟩) 3 3])) := Below.setRowUp HS4.out _ _ hhL
            have HFN := Lib.hid (HREST.out w4 gN gP gL HS4.out HNN.out HPP.out HLL.out hhL hNL hPL)
            refine wp_store_row 28 _ _ rfl gL #[.int .i64 9, .string ⟨#[]⟩, .slice (some ⟨gN, 0, none⟩) 2 2, .slice (some ⟨gP, 0, none⟩) 3 3] (by go_simp) rfl 28 Z4 HLL.out info28 rfl hone7 ?_
            refine hK.out _ _ HS7.out (fun hHeld => ?_)
            clear hK K
            try simp only [List.getElem_toArray, List.getElem_cons_succ, List.getElem_cons_zero, Act.put, List.setIfInBounds_toArray, List.set_cons_zero, List.set_cons_succ]
            refine wpAnyH_done (by kernel_rfl) ?_ _
            refine NoPanic.normal ?_
            clear hHeld
            exact HRR.out _ _ _ _ _ _ _ _ _ _ _ _ _ _ _ _ _ _ _ _ _ _ _ _ _ _ _ _ _ _ _ _ gN gP gL HFN.out
        · skip
          go_simp
          have HS6 : Hid (Below W11.heap.size W11 (w0.alloc (.cells Z4 28))) := HS0.out.alloc HS0.out.size _
          have A6 := Lib.hid ((Below.refl w0.heap.size w0).alloc (Nat.le_refl _) (.cells Z4 28))
          have HLL6 : Hid ((w0.alloc (.cells Z4 28)).heap[w0.heap.size]? = some (.cells Z4 28 (0, 0))) := alloc_at w0 _
          have hh6 : W11.heap.size ≤ w0.heap.size := HS0.out.size
          refine hK.out _ _ HS6.out (fun hHeld => ?_)
          clear hK K
          try simp only [List.getElem_toArray, List.getElem_cons_succ, List.getElem_cons_zero, Act.put, List.setIfInBounds_toArray, List.set_cons_zero, List.set_cons_succ]
          generalize w0.alloc (.cells Z4 28) = w6 at HS6 A6 HLL6 hHeld ⊢
          have hlt6 : w0.heap.size < w6.heap.size := (Array.getElem?_eq_some_iff.1 HLL6.out).1
          have hl_gN6 : gN < w0.heap.size := (Array.getElem?_eq_some_iff.1 HNN.out).1
          obtain ⟨gL, he6⟩ : ∃ gL, gL = w0.heap.size := ⟨_, rfl⟩
          rw [← he6] at HLL6 hh6
          simp only [← he6]
          have hNL : gN ≠ gL := by omega
          have hhL := hh6
          clear he6 hlt6 hl_gN6
          have HLL := HLL6
          have HNN := Lib.hid (row_below A6.out HNN.out)
          refine wpAnyH_ready (rs := [3]) (by kernel_rfl) (by simp) ?_
          refine (AllReadyH.cons rfl (fun K hK => ?_) AllReadyH.nil)
          go_simp
          refine (HVA.out _).mono ?_
          rintro r w3 ⟨rfl, hb3⟩
          have A3 := Lib.hid hb3
          have HS3 := Lib.hid (HS6.out.trans (hb3.mono HS6.out.size))
          clear hb3
          refine hK.out _ _ HS3.out (fun hHeld => ?_)
          clear hK K
          try simp only [List.getElem_toArray, List.getElem_cons_succ, List.getElem_cons_zero, Act.put, List.setIfInBounds_toArray, List.set_cons_zero, List.set_cons_succ]
          have HNN := Lib.hid (row_below A3.out HNN.out)
          have HLL := Lib.hid (row_below A3.out HLL.out)
          refine wpAnyH_ready (rs := [4]) (by kernel_rfl) (by simp) ?_
          refine (AllReadyH.cons rfl (fun K hK => ?_) AllReadyH.nil)
          go_simp
          have HS4 : Hid (Below W11.heap.size W11 (w3.alloc (.cells #[.int .i64 k1, .string t1, nv1, av1, .int .i64 k2, .string t2, nv2, av2, .int .i64 5, .string ⟨#[99]⟩, .slice none 0 0, .slice none 0 0] 28))) := HS3.out.alloc HS3.out.size _
          have A4 := Lib.hid ((Below.refl w3.heap.size w3).alloc (Nat.le_refl _) (.cells #[.int .i64 k1, .string t1, nv1, av1, .int .i64 k2, .string t2, nv2, av2, .int .i64 5, .string ⟨#[99]⟩, .slice none 0 0, .slice none 0 0] 28))
          have HPP4 : Hid ((w3.alloc (.cells #[.int .i64 k1, .string t1, nv1, av1, .int .i64 k2, .string t2, nv2, av2, .int .i64 5, .string ⟨#[99]⟩, .slice none 0 0, .slice none 0 0] 28)).heap[w3.heap.size]? = some (.cells (#[.int .i64 k1, .string t1, nv1, av1] ++ #[.int .i64 k2, .string t2, nv2, av2] ++ #[.int .i64 5, .string ⟨#[99]⟩, .slice none 0 0, .slice none 0 0]) 28 (0, 0))) := alloc_at w3 (.cells #[.int .i64 k1, .string t1, nv1, av1, .int .i64 k2, .string t2, nv2, av2, .int .i64 5, .string ⟨#[99]⟩, .slice none 0 0, .slice none 0 0] 28)
          have hh4 : W11.heap.size ≤ w3.heap.size := HS3.out.size
          refine hK.out _ _ HS4.out (fun hHeld => ?_)
          clear hK K
          try simp only [List.getElem_toArray, List.getElem_cons_succ, List.getElem_cons_zero, Act.put, List.setIfInBounds_toArray, List.set_cons_zero, List.set_cons_succ]
          generalize w3.alloc (.cells #[.int .i64 k1, .string t1, nv1, av1, .int .i64 k2, .string t2, nv2, av2, .int .i64 5, .string ⟨#[99]⟩, .slice none 0 0, .slice none 0 0] 28) = w4 at HS4 A4 HPP4 hHeld ⊢
          have hlt4 : w3.heap.size < w4.heap.size := (Array.getElem?_eq_some_iff.1 HPP4.out).1
          have hl_gN4 : gN < w3.heap.size := (Array.getElem?_eq_some_iff.1 HNN.out).1
          have hl_gL4 : gL < w3.heap.size := (Array.getElem?_eq_some_iff.1 HLL.out).1
          obtain ⟨gP, he4⟩ : ∃ gP, gP = w3.heap.size := ⟨_, rfl⟩
          rw [← he4] at HPP4 hh4
          simp only [← he4]
          have hPL : gP ≠ gL := by omega
          have hhP := hh4
          clear he4 hlt4 hl_gN4 hl_gL4
          have HPP := HPP4
          have HNN := Lib.hid (row_below A4.out HNN.out)
          have HLL := Lib.hid (row_below A4.out HLL.out)
          refine wpAnyH_take (i := 5) (v := Value.agg #[.int .i64 9, .string ⟨#[]⟩, .slice (some ⟨gN, 0, none⟩) 2 2, .slice (some ⟨gP, 0, none⟩) 3 3]) rfl (by kernel_rfl) (by kernel_rfl) (by kernel_rfl) (fun _ _ _ h => h) (Or.inl ⟨rfl, fun w' hw' => ?_⟩) hHeld ?_
          · go_simp
          simp only [List.getElem_toArray, List.getElem_cons_succ, List.getElem_cons_zero, Act.put, List.setIfInBounds_toArray, List.set_cons_zero, List.set_cons_succ]
          refine wpAnyH_ready (rs := [7]) (by kernel_rfl) (by simp) ?_
          refine (AllReadyH.cons rfl (fun K hK => ?_) AllReadyH.nil)
          have hone7 : (#[.int .i64 9, .string ⟨#[]⟩, .slice (some ⟨gN, 0, none⟩) 2 2, .slice (some ⟨gP, 0, none⟩) 3 3] : Array Value).all (·.oneCell') = true := by simp [Value.oneCell']
          have HS7 : Hid (Below W11.heap.size W11 (w4.setRow gL #[.int .i64 9, .string ⟨#[]⟩, .slice (some ⟨gN, 0, none⟩) 2 2, .slice (some ⟨gP, 0, none⟩) 3 3])) := Below.setRowUp HS4.out _ _ hhL
          have HFN := Lib.hid (HREST.out w4 gN gP gL HS4.out HNN.out HPP.out HLL.out hhL hNL hPL)
          refine wp_store_row 28 _ _ rfl gL #[.int .i64 9, .string ⟨#[]⟩, .slice (some ⟨gN, 0, none⟩) 2 2, .slice (some ⟨gP, 0, none⟩) 3 3] (by go_simp) rfl 28 Z4 HLL.out info28 rfl hone7 ?_
          refine hK.out _ _ HS7.out (fun hHeld => ?_)
          clear hK K
          try simp only [List.getElem_toArray, List.getElem_cons_succ, List.getElem_cons_zero, Act.put, List.setIfInBounds_toArray, List.set_cons_zero, List.set_cons_succ]
          refine wpAnyH_done (by kernel_rfl) ?_ _
          refine NoPanic.normal ?_
          clear hHeld
          exact HRR.out _ _ _ _ _ _ _ _ _ _ _ _ _ _ _ _ _ _ _ _ _ _ _ _ _ _ _ _ _ _ _ _ gN gP gL HFN.out
      · skip
        go_simp
        refine (HVA.out _).mono ?_
        rintro r w3 ⟨rfl, hb3⟩
        have A3 := Lib.hid hb3
        have HS3 := Lib.hid (HSX.out.trans (hb3.mono HSX.out.size))
        clear hb3
        refine hK.out _ _ HS3.out (fun hHeld => ?_)
        clear hK K
        try simp only [List.getElem_toArray, List.getElem_cons_succ, List.getElem_cons_zero, Act.put, List.setIfInBounds_toArray, List.set_cons_zero, List.set_cons_succ]
        refine wpAnyH_ready (rs := [0, 4, 6]) (by kernel_rfl) (by simp) ?_
        refine (AllReadyH.cons rfl (fun K hK => ?_) (AllReadyH.cons rfl (fun K hK => ?_) (AllReadyH.cons rfl (fun K hK => ?_) AllReadyH.nil)))
        · skip
          go_simp
          have HS0 : Hid (Below W11.heap.size W11 (w3.alloc (.cells #[.string ⟨#[97]⟩, .string ⟨#[98]⟩] 9))) := HS3.out.alloc HS3.out.size _
          have A0 := Lib.hid ((Below.refl w3.heap.size w3).alloc (Nat.le_refl _) (.cells #[.string ⟨#[97]⟩, .string ⟨#[98]⟩] 9))
          have HNN0 : Hid ((w3.alloc (.cells #[.string ⟨#[97]⟩, .string ⟨#[98]⟩] 9)).heap[w3.heap.size]? = some (.cells (tcells ab) 9 (0, 0))) := alloc_at w3 _
          have hh0 : W11.heap.size ≤ w3.heap.size := HS3.out.size
          refine hK.out _ _ HS0.out (fun hHeld => ?_)
          clear hK K
          try simp only [List.getElem_toArray, List.getElem_cons_succ, List.getElem_cons_zero, Act.put, List.setIfInBounds_toArray, List.set_cons_zero, List.set_cons_succ]
          generalize w3.alloc (.cells #[.string ⟨#[97]⟩, .string ⟨#[98]⟩] 9) = w0 at HS0 A0 HNN0 hHeld ⊢
          have hlt0 : w3.heap.size < w0.heap.size := (Array.getElem?_eq_some_iff.1 HNN0.out).1
          obtain ⟨gN, he0⟩ : ∃ gN, gN = w3.heap.size := ⟨_, rfl⟩
          rw [← he0] at HNN0 hh0
          simp only [← he0]
          have hhN := hh0
          clear he0 hlt0
          have HNN := HNN0
          refine wpAnyH_ready (rs := [4, 6]) (by kernel_rfl) (by simp) ?_
          refine (AllReadyH.cons rfl (fun K hK => ?_) (AllReadyH.cons rfl (fun K hK => ?_) AllReadyH.nil))
          · skip
            go_simp
            have HS4 : Hid (Below W11.heap.size W11 (w0.alloc (.cells #[.int .i64 k1, .string t1, nv1, av1, .int .i64 k2, .string t2, nv2, av2, .int .i64 5, .string ⟨#[99]⟩, .slice none 0 0, .slice none 0 0] 28))) := HS0.out.alloc HS0.out.size _
            have A4 := Lib.hid ((Below.refl w0.heap.size w0).alloc (Nat.le_refl _) (.cells #[.int .i64 k1, .string t1, nv1, av1, .int .i64 k2, .string t2, nv2, av2, .int .i64 5, .string ⟨#[99]⟩, .slice none 0 0, .slice none 0 0] 28))
            have HPP4 : Hid ((w0.alloc (.cells #[.int .i64 k1, .string t1, nv1, av1, .int .i64 k2, .string t2, nv2, av2, .int .i64 5, .string ⟨#[99]⟩, .slice none 0 0, .slice none 0 0] 28)).heap[w0.heap.size]? = some (.cells (#[.int .i64 k1, .string t1, nv1, av1] ++ #[.int .i64 k2, .string t2, nv2, av2] ++ #[.int .i64 5, .string ⟨#[99]⟩, .slice none 0 0, .slice none 0 0]) 28 (0, 0))) := alloc_at w0 (.cells #[.int .i64 k1, .string t1, nv1, av1, .int .i64 k2, .string t2, nv2, av2, .int .i64 5, .string ⟨#[99]⟩, .slice none 0 0, .slice none 0 0] 28)
            have hh4 : W11.heap.size ≤ w0.heap.size := HS0.out.size
            refine hK.out _ _ HS4.out (fun hHeld => ?_)
            clear hK K
            try simp only [List.getElem_toArray, List.getElem_cons_succ, List.getElem_cons_zero, Act.put, List.setIfInBounds_toArray, List.set_cons_zero, List.set_cons_succ]
            generalize w0.alloc (.cells #[.int .i64 k1, .string t1, nv1, av1, .int .i64 k2, .string t2, nv2, av2, .int .i64 5, .string ⟨#[99]⟩, .slice none 0 0, .slice none 0 0] 28) = w4 at HS4 A4 HPP4 hHeld ⊢
            have hlt4 : w0.heap.size < w4.heap.size := (Array.getElem?_eq_some_iff.1 HPP4.out).1
            have hl_gN4 : gN < w0.heap.size := (Array.getElem?_eq_some_iff.1 HNN.out).1
            obtain ⟨gP, he4⟩ : ∃ gP, gP = w0.heap.size := ⟨_, rfl⟩
            rw [← he4] at HPP4 hh4
            simp only [← he4]
            have hhP := hh4
            clear he4 hlt4 hl_gN4
            have HPP := HPP4
            have HNN := Lib.hid (row_below A4.out HNN.out)
            refine wpAnyH_take (i := 5) (v := Value.agg #[.int .i64 9, .string ⟨#[]⟩, .slice (some ⟨gN, 0, none⟩) 2 2, .slice (some ⟨gP, 0, none⟩) 3 3]) rfl (by kernel_rfl) (by kernel_rfl) (by kernel_rfl) (fun _ _ _ h => h) (Or.inl ⟨rfl, fun w' hw' => ?_⟩) hHeld ?_
            · go_simp
            simp only [List.getElem_toArray, List.getElem_cons_succ, List.getElem_cons_zero, Act.put, List.setIfInBounds_toArray, List.set_cons_zero, List.set_cons_succ]
            refine wpAnyH_ready (rs := [6]) (by kernel_rfl) (by simp) ?_
            refine (AllReadyH.cons rfl (fun K hK => ?_) AllReadyH.nil)
            go_simp
            have HS6 : Hid (Below W11.heap.size W11 (w4.alloc (.cells Z4 28))) := HS4.out.alloc HS4.out.size _
            have A6 := Lib.hid ((Below.refl w4.heap.size w4).alloc (Nat.le_refl _) (.cells Z4 28))
            have HLL6 : Hid ((w4.alloc (.cells Z4 28)).heap[w4.heap.size]? = some (.cells Z4 28 (0, 0))) := alloc_at w4 _
            have hh6 : W11.heap.size ≤ w4.heap.size := HS4.out.size
            refine hK.out _ _ HS6.out (fun hHeld => ?_)
            clear hK K
            try simp only [List.getElem_toArray, List.getElem_cons_succ, List.getElem_cons_zero, Act.put, List.setIfInBounds_toArray, List.set_cons_zero, List.set_cons_succ]
            generalize w4.alloc (.cells Z4 28) = w6 at HS6 A6 HLL6 hHeld ⊢
            have hlt6 : w4.heap.size < w6.heap.size := (Array.getElem?_eq_some_iff.1 HLL6.out).1
            have hl_gN6 : gN < w4.heap.size := (Array.getElem?_eq_some_iff.1 HNN.out).1
            have hl_gP6 : gP < w4.heap.size := (Array.getElem?_eq_some_iff.1 HPP.out).1
            obtain ⟨gL, he6⟩ : ∃ gL, gL = w4.heap.size := ⟨_, rfl⟩
            rw [← he6] at HLL6 hh6
            simp only [← he6]
            have hNL : gN ≠ gL := by omega
            have hPL : gP ≠ gL := by omega
            have hhL := hh6
            clear he6 hlt6 hl_gN6 hl_gP6
            have HLL := HLL6
            have HNN := Lib.hid (row_below A6.out HNN.out)
            have HPP := Lib.hid (row_below A6.out HPP.out)
            refine wpAnyH_ready (rs := [7]) (by kernel_rfl) (by simp) ?_
            refine (AllReadyH.cons rfl (fun K hK => ?_) AllReadyH.nil)
            have hone7 : (#[.int .i64 9, .string ⟨#[]⟩, .slice (some ⟨gN, 0, none⟩) 2 2, .slice (some ⟨gP, 0, none⟩) 3 3] : Array Value).all (·.oneCell') = true := by simp [Value.oneCell']
            have HS7 : Hid (Below W11.heap.size W11 (w6.setRow gL #[.int .i64 9, .string ⟨#[]⟩, .slice (some ⟨gN, 0, none⟩) 2 2, .slice (some ⟨gP, 0, none⟩) 3 3])) := Below.setRowUp HS6.out _ _ hhL
            have HFN := Lib.hid (HREST.out w6 gN gP gL HS6.out HNN.out HPP.out HLL.out hhL hNL hPL)
            refine wp_store_row 28 _ _ rfl gL #[.int .i64 9, .string ⟨#[]⟩, .slice (some ⟨gN, 0, none⟩) 2 2, .slice (some ⟨gP, 0, none⟩) 3 3] (by go_simp) rfl 28 Z4 HLL.out info28 rfl hone7 ?_
            refine hK.out _ _ HS7.out (fun hHeld => ?_)
            clear hK K
            try simp only [List.getElem_toArray, List.getElem_cons_succ, List.getElem_cons_zero, Act.put, List.setIfInBounds_toArray, List.set_cons_zero, List.set_cons_succ]
            refine wpAnyH_done (by kernel_rfl) ?_ _
            refine NoPanic.normal ?_
            clear hHeld
            exact HRR.out _ _ _ _ _ _ _ _ _ _ _ _ _ _ _ _ _ _ _ _ _ _ _ _ _ _ _ _ _ _ _ _ gN gP gL HFN.out
          · skip
            go_simp
            have HS6 : Hid (Below W11.heap.size W11 (w0.alloc (.cells Z4 28))) := HS0.out.alloc HS0.out.size _
            have A6 := Lib.hid ((Below.refl w0.heap.size w0).alloc (Nat.le_refl _) (.cells Z4 28))
            have HLL6 : Hid ((w0.alloc (.cells Z4 28)).heap[w0.heap.size]? = some (.cells Z4 28 (0, 0))) := alloc_at w0 _
            have hh6 : W11.heap.size ≤ w0.heap.size := HS0.out.size
            refine hK.out _ _ HS6.out (fun hHeld => ?_)
            clear hK K
            try simp only [List.getElem_toArray, List.getElem_cons_succ, List.getElem_cons_zero, Act.put, List.setIfInBounds_toArray, List.set_cons_zero, List.set_cons_succ]
            generalize w0.alloc (.cells Z4 28) = w6 at HS6 A6 HLL6 hHeld ⊢
            have hlt6 : w0.heap.size < w6.heap.size := (Array.getElem?_eq_some_iff.1 HLL6.out).1
            have hl_gN6 : gN < w0.heap.size := (Array.getElem?_eq_some_iff.1 HNN.out).1
            obtain ⟨gL, he6⟩ : ∃ gL, gL = w0.heap.size := ⟨_, rfl⟩
            rw [← he6] at HLL6 hh6
            simp only [← he6]
            have hNL : gN ≠ gL := by omega
            have hhL := hh6
            clear he6 hlt6 hl_gN6
            have HLL := HLL6
            have HNN := Lib.hid (row_below A6.out HNN.out)
            refine wpAnyH_ready (rs := [4]) (by kernel_rfl) (by simp) ?_
            refine (AllReadyH.cons rfl (fun K hK => ?_) AllReadyH.nil)
            go_simp
            have HS4 : Hid (Below W11.heap.size W11 (w6.alloc (.cells #[.int .i64 k1, .string t1, nv1, av1, .int .i64 k2, .string t2, nv2, av2, .int .i64 5, .string ⟨#[99]⟩, .slice none 0 0, .slice none 0 0] 28))) := HS6.out.alloc HS6.out.size _
            have A4 := Lib.hid ((Below.refl w6.heap.size w6).alloc (Nat.le_refl _) (.cells #[.int .i64 k1, .string t1, nv1, av1, .int .i64 k2, .string t2, nv2, av2, .int .i64 5, .string ⟨#[99]⟩, .slice none 0 0, .slice none 0 0] 28))
            have HPP4 : Hid ((w6.alloc (.cells #[.int .i64 k1, .string t1, nv1, av1, .int .i64 k2, .string t2, nv2, av2, .int .i64 5, .string ⟨#[99]⟩, .slice none 0 0, .slice none 0 0] 28)).heap[w6.heap.size]? = some (.cells (#[.int .i64 k1, .string t1, nv1, av1] ++ #[.int .i64 k2, .string t2, nv2, av2] ++ #[.int .i64 5, .string ⟨#[99]⟩, .slice none 0 0, .slice none 0 0]) 28 (0, 0))) := alloc_at w6 (.cells #[.int .i64 k1, .string t1, nv1, av1, .int .i64 k2, .string t2, nv2, av2, .int .i64 5, .string ⟨#[99]⟩, .slice none 0 0, .slice none 0 0] 28)
            have hh4 : W11.heap.size ≤ w6.heap.size := HS6.out.size
            refine hK.out _ _ HS4.out (fun hHeld => ?_)
            clear hK K
            try simp only [List.getElem_toArray, List.getElem_cons_succ, List.getElem_cons_zero, Act.put, List.setIfInBounds_toArray, List.set_cons_zero, List.set_cons_succ]
            generalize w6.alloc (.cells #[.int .i64 k1, .string t1, nv1, av1, .int .i64 k2, .string t2, nv2, av2, .int .i64 5, .string ⟨#[99]⟩, .slice none 0 0, .slice none 0 0] 28) = w4 at HS4 A4 HPP4 hHeld ⊢
            have hlt4 : w6.heap.size < w4.heap.size := (Array.getElem?_eq_some_iff.1 HPP4.out).1
            have hl_gN4 : gN < w6.heap.size := (Array.getElem?_eq_some_iff.1 HNN.out).1
            have hl_gL4 : gL < w6.heap.size := (Array.getElem?_eq_some_iff.1 HLL.out).1
            obtain ⟨gP, he4⟩ : ∃ gP, gP = w6.heap.size := ⟨_, rfl⟩
            rw [← he4] at HPP4 hh4
            simp only [← he4]
            have hPL : gP ≠ gL := by omega
            have hhP := hh4
            clear he4 hlt4 hl_gN4 hl_gL4
            have HPP := HPP4
            have HNN := Lib.hid (row_below A4.out HNN.out)
            have HLL := Lib.hid (row_below A4.out HLL.out)
            refine wpAnyH_take (i := 5) (v := Value.agg #[.int .i64 9, .string ⟨#[]⟩, .slice (some ⟨gN, 0, none⟩) 2 2, .slice (some ⟨gP, 0, none⟩) 3 3]) rfl (by kernel_rfl) (by kernel_rfl) (by kernel_rfl) (fun _ _ _ h => h) (Or.inl ⟨rfl, fun w' hw' => ?_⟩) hHeld ?_
            · go_simp
            simp only [List.getElem_toArray, List.getElem_cons_succ, List.getElem_cons_zero, Act.put, List.setIfInBounds_toArray, List.set_cons_zero, List.set_cons_succ]
            refine wpAnyH_ready (rs := [7]) (by kernel_rfl) (by simp) ?_
            refine (AllReadyH.cons rfl (fun K hK => ?_) AllReadyH.nil)
            have hone7 : (#[.int .i64 9, .string ⟨#[]⟩, .slice (some ⟨gN, 0, none⟩) 2 2, .slice (some ⟨gP, 0, none⟩) 3 3] : Array Value).all (·.oneCell') = true := by simp [Value.oneCell']
            have HS7 : Hid (Below W11.heap.size W11 (w4.setRow gL #[.int .i64 9, .string ⟨#[]⟩, .slice (some ⟨gN, 0, none⟩) 2 2, .slice (some ⟨gP, 0, none⟩) 3 3])) := Below.setRowUp HS4.out _ _ hhL
            have HFN := Lib.hid (HREST.out w4 gN gP gL HS4.out HNN.out HPP.out HLL.out hhL hNL hPL)
            refine wp_store_row 28 _ _ rfl gL #[.int .i64 9, .string ⟨#[]⟩, .slice (some ⟨gN, 0, none⟩) 2 2, .slice (some ⟨gP, 0, none⟩) 3 3] (by go_simp) rfl 28 Z4 HLL.out info28 rfl hone7 ?_
            refine hK.out _ _ HS7.out (fun hHeld => ?_)
            clear hK K
            try simp only [List.getElem_toArray, List.getElem_cons_succ, List.getElem_cons_zero, Act.put, List.setIfInBounds_toArray, List.set_cons_zero, List.set_cons_succ]
            refine wpAnyH_done (by kernel_rfl) ?_ _
            refine NoPanic.normal ?_
            clear hHeld
            exact HRR.out _ _ _ _ _ _ _ _ _ _ _ _ _ _ _ _ _ _ _ _ _ _ _ _ _ _ _ _ _ _ _ _ gN gP gL HFN.out
        · skip
          go_simp
          have HS4 : Hid (Below W11.heap.size W11 (w3.alloc (.cells #[.int .i64 k1, .string t1, nv1, av1, .int .i64 k2, .string t2, nv2, av2, .int .i64 5, .string ⟨#[99]⟩, .slice none 0 0, .slice none 0 0] 28))) := HS3.out.alloc HS3.out.size _
          have A4 := Lib.hid ((Below.refl w3.heap.size w3).alloc (Nat.le_refl _) (.cells #[.int .i64 k1, .string t1, nv1, av1, .int .i64 k2, .string t2, nv2, av2, .int .i64 5, .string ⟨#[99]⟩, .slice none 0 0, .slice none 0 0] 28))
          have HPP4 : Hid ((w3.alloc (.cells #[.int .i64 k1, .string t1, nv1, av1, .int .i64 k2, .string t2, nv2, av2, .int .i64 5, .string ⟨#[99]⟩, .slice none 0 0, .slice none 0 0] 28)).heap[w3.heap.size]? = some (.cells (#[.int .i64 k1, .string t1, nv1, av1] ++ #[.int .i64 k2, .string t2, nv2, av2] ++ #[.int .i64 5, .string ⟨#[99]⟩, .slice none 0 0, .slice none 0 0]) 28 (0, 0))) := alloc_at w3 (.cells #[.int .i64 k1, .string t1, nv1, av1, .int .i64 k2, .string t2, nv2, av2, .int .i64 5, .string ⟨#[99]⟩, .slice none 0 0, .slice none 0 0] 28)
          have hh4 : W11.heap.size ≤ w3.heap.size := HS3.out.size
          refine hK.out _ _ HS4.out (fun hHeld => ?_)
          clear hK K
          try simp only [List.getElem_toArray, List.getElem_cons_succ, List.getElem_cons_zero, Act.put, List.setIfInBounds_toArray, List.set_cons_zero, List.set_cons_succ]
          generalize w3.alloc (.cells #[.int .i64 k1, .string t1, nv1, av1, .int .i64 k2, .string t2, nv2, av2, .int .i64 5, .string ⟨#[99]⟩, .slice none 0 0, .slice none 0 0] 28) = w4 at HS4 A4 HPP4 hHeld ⊢
          have hlt4 : w3.heap.size < w4.heap.size := (Array.getElem?_eq_some_iff.1 HPP4.out).1
          obtain ⟨gP, he4⟩ : ∃ gP, gP = w3.heap.size := ⟨_, rfl⟩
          rw [← he4] at HPP4 hh4
          simp only [← he4]
          have hhP := hh4
          clear he4 hlt4
          have HPP := HPP4
          refine wpAnyH_ready (rs := [0, 6]) (by kernel_rfl) (by simp) ?_
          refine (AllReadyH.cons rfl (fun K hK => ?_) (AllReadyH.cons rfl (fun K hK => ?_) AllReadyH.nil))
          · skip
            go_simp
            have HS0 : Hid (Below W11.heap.size W11 (w4.alloc (.cells #[.string ⟨#[97]⟩, .string ⟨#[98]⟩] 9))) := HS4.out.alloc HS4.out.size _
            have A0 := Lib.hid ((Below.refl w4.heap.size w4).alloc (Nat.le_refl _) (.cells #[.string ⟨#[97]⟩, .string ⟨#[98]⟩] 9))
            have HNN0 : Hid ((w4.alloc (.cells #[.string ⟨#[97]⟩, .string ⟨#[98]⟩] 9)).heap[w4.heap.size]? = some (.cells (tcells ab) 9 (0, 0))) := alloc_at w4 _
            have hh0 : W11.heap.size ≤ w4.heap.size := HS4.out.size
            refine hK.out _ _ HS0.out (fun hHeld => ?_)
            clear hK K
            try simp only [List.getElem_toArray, List.getElem_cons_succ, List.getElem_cons_zero, Act.put, List.setIfInBounds_toArray, List.set_cons_zero, List.set_cons_succ]
            generalize w4.alloc (.cells #[.string ⟨#[97]⟩, .string ⟨#[98]⟩] 9) = w0 at HS0 A0 HNN0 hHeld ⊢
            have hlt0 : w4.heap.size < w0.heap.size := (Array.getElem?_eq_some_iff.1 HNN0.out).1
            have hl_gP0 : gP < w4.heap.size := (Array.getElem?_eq_some_iff.1 HPP.out).1
            obtain ⟨gN, he0⟩ : ∃ gN, gN = w4.heap.size := ⟨_, rfl⟩
            rw [← he0] at HNN0 hh0
            simp only [← he0]
            have hhN := hh0
            clear he0 hlt0 hl_gP0
            have HNN := HNN0
            have HPP := Lib.hid (row_below A0.out HPP.out)
            refine wpAnyH_take (i := 5) (v := Value.agg #[.int .i64 9, .string ⟨#[]⟩, .slice (some ⟨gN, 0, none⟩) 2 2, .slice (some ⟨gP, 0, none⟩) 3 3]) rfl (by kernel_rfl) (by kernel_rfl) (by kernel_rfl) (fun _ _ _ h => h) (Or.inl ⟨rfl, fun w' hw' => ?_⟩) hHeld ?_
            · go_simp
            simp only [List.getElem_toArray, List.getElem_cons_succ, List.getElem_cons_zero, Act.put, List.setIfInBounds_toArray, List.set_cons_zero, List.set_cons_succ]
            refine wpAnyH_ready (rs := [6]) (by kernel_rfl) (by simp) ?_
            refine (AllReadyH.cons rfl (fun K hK => ?_) AllReadyH.nil)
            go_simp
            have HS6 : Hid (Below W11.heap.size W11 (w0.alloc (.cells Z4 28))) := HS0.out.alloc HS0.out.size _
            have A6 := Lib.hid ((Below.refl w0.heap.size w0).alloc (Nat.le_refl _) (.cells Z4 28))
            have HLL6 : Hid ((w0.alloc (.cells Z4 28)).heap[w0.heap.size]? = some (.cells Z4 28 (0, 0))) := alloc_at w0 _
            have hh6 : W11.heap.size ≤ w0.heap.size := HS0.out.size
            refine hK.out _ _ HS6.out (fun hHeld => ?_)
            clear hK K
            try simp only [List.getElem_toArray, List.getElem_cons_succ, List.getElem_cons_zero, Act.put, List.setIfInBounds_toArray, List.set_cons_zero, List.set_cons_succ]
            generalize w0.alloc (.cells Z4 28) = w6 at HS6 A6 HLL6 hHeld ⊢
            have hlt6 : w0.heap.size < w6.heap.size := (Array.getElem?_eq_some_iff.1 HLL6.out).1
            have hl_gP6 : gP < w0.heap.size := (Array.getElem?_eq_some_iff.1 HPP.out).1
            have hl_gN6 : gN < w0.heap.size := (Array.getElem?_eq_some_iff.1 HNN.out).1
            obtain ⟨gL, he6⟩ : ∃ gL, gL = w0.heap.size := ⟨_, rfl⟩
            rw [← he6] at HLL6 hh6
            simp only [← he6]
            have hPL : gP ≠ gL := by omega
            have hNL : gN ≠ gL := by omega
            have hhL := hh6
            clear he6 hlt6 hl_gP6 hl_gN6
            have HLL := HLL6
            have HPP := Lib.hid (row_below A6.out HPP.out)
            have HNN := Lib.hid (row_below A6.out HNN.out)
            refine wpAnyH_ready (rs := [7]) (by kernel_rfl) (by simp) ?_
            refine (AllReadyH.cons rfl (fun K hK => ?_) AllReadyH.nil)
            have hone7 : (#[.int .i64 9, .string ⟨#[]⟩, .slice (some ⟨gN, 0, none⟩) 2 2, .slice (some ⟨gP, 0, none⟩) 3 3] : Array Value).all (·.oneCell') = true := by simp [Value.oneCell']
            have HS7 : Hid (Below W11.heap.size W11 (w6.setRow gL #[.int .i64 9, .string ⟨#[]⟩, .slice (some ⟨gN, 0, none⟩) 2 2, .slice (some ⟨gP, 0, none⟩) 3 3])) := Below.setRowUp HS6.out _ _ hhL
            have HFN := Lib.hid (HREST.out w6 gN gP gL HS6.out HNN.out HPP.out HLL.out hhL hNL hPL)
            refine wp_store_row 28 _ _ rfl gL #[.int .i64 9, .string ⟨#[]⟩, .slice (some ⟨gN, 0, none⟩) 2 2, .slice (some ⟨gP, 0, none⟩) 3 3] (by go_simp) rfl 28 Z4 HLL.out info28 rfl hone7 ?_
            refine hK.out _ _ HS7.out (fun hHeld => ?_)
            clear hK K
            try simp only [List.getElem_toArray, List.getElem_cons_succ, List.getElem_cons_zero, Act.put, List.setIfInBounds_toArray, List.set_cons_zero, List.set_cons_succ]
            refine wpAnyH_done (by kernel_rfl) ?_ _
            refine NoPanic.normal ?_
            clear hHeld
            exact HRR.out _ _ _ _ _ _ _ _ _ _ _ _ _ _ _ _ _ _ _ _ _ _ _ _ _ _ _ _ _ _ _ _ gN gP gL HFN.out
          · skip
            go_simp
            have HS6 : Hid (Below W11.heap.size W11 (w4.alloc (.cells Z4 28))) := HS4.out.alloc HS4.out.size _
            have A6 := Lib.hid ((Below.refl w4.heap.size w4).alloc (Nat.le_refl _) (.cells Z4 28))
            have HLL6 : Hid ((w4.alloc (.cells Z4 28)).heap[w4.heap.size]? = some (.cells Z4 28 (0, 0))) := alloc_at w4 _
            have hh6 : W11.heap.size ≤ w4.heap.size := HS4.out.size
            refine hK.out _ _ HS6.out (fun hHeld => ?_)
            clear hK K
            try simp only [List.getElem_toArray, List.getElem_cons_succ, List.getElem_cons_zero, Act.put, List.setIfInBounds_toArray, List.set_cons_zero, List.set_cons_succ]
            generalize w4.alloc (.cells Z4 28) = w6 at HS6 A6 HLL6 hHeld ⊢
            have hlt6 : w4.heap.size < w6.heap.size := (Array.getElem?_eq_some_iff.1 HLL6.out).1
            have hl_gP6 : gP < w4.heap.size := (Array.getElem?_eq_some_iff.1 HPP.out).1
            obtain ⟨gL, he6⟩ : ∃ gL, gL = w4.heap.size := ⟨_, rfl⟩
            rw [← he6] at HLL6 hh6
            simp only [← he6]
            have hPL : gP ≠ gL := by omega
            have hhL := hh6
            clear he6 hlt6 hl_gP6
            have HLL := HLL6
            have HPP := Lib.hid (row_below A6.out HPP.out)
            refine wpAnyH_ready (rs := [0]) (by kernel_rfl) (by simp) ?_
            refine (AllReadyH.cons rfl (fun K hK => ?_) AllReadyH.nil)
            go_simp
            have HS0 : Hid (Below W11.heap.size W11 (w6.alloc (.cells #[.string ⟨#[97]⟩, .string ⟨#[98]⟩] 9))) := HS6.out.alloc HS6.out.size _
            have A0 := Lib.hid ((Below.refl w6.heap.size w6).alloc (Nat.le_refl _) (.cells #[.string ⟨#[97]⟩, .string ⟨#[98]⟩] 9))
            have HNN0 : Hid ((w6.alloc (.cells #[.string ⟨#[97]⟩, .string ⟨#[98]⟩] 9)).heap[w6.heap.size]? = some (.cells (tcells ab) 9 (0, 0))) := alloc_at w6 _
            have hh0 : W11.heap.size ≤ w6.heap.size := HS6.out.size
            refine hK.out _ _ HS0.out (fun hHeld => ?_)
            clear hK K
            try simp only [List.getElem_toArray, List.getElem_cons_succ, List.getElem_cons_zero, Act.put, List.setIfInBounds_toArray, List.set_cons_zero, List.set_cons_succ]
            generalize w6.alloc (.cells #[.string ⟨#[97]⟩, .string ⟨#[98]⟩] 9) = w0 at HS0 A0 HNN0 hHeld ⊢
            have hlt0 : w6.heap.size < w0.heap.size := (Array.getElem?_eq_some_iff.1 HNN0.out).1
            have hl_gP0 : gP < w6.heap.size := (Array.getElem?_eq_some_iff.1 HPP.out).1
            have hl_gL0 : gL < w6.heap.size := (Array.getElem?_eq_some_iff.1 HLL.out).1
            obtain ⟨gN, he0⟩ : ∃ gN, gN = w6.heap.size := ⟨_, rfl⟩
            rw [← he0] at HNN0 hh0
            simp only [← he0]
            have hNL : gN ≠ gL := by omega
            have hhN := hh0
            clear he0 hlt0 hl_gP0 hl_gL0
            have HNN := HNN0
            have HPP := Lib.hid (row_below A0.out HPP.out)
            have HLL := Lib.hid (row_below A0.out HLL.out)
            refine wpAnyH_take (i := 5) (v := Value.agg #[.int .i64 9, .string ⟨#[]⟩, .slice (some ⟨gN, 0, none⟩) 2 2, .slice (some ⟨gP, 0, none⟩) 3 3]) rfl (by kernel_rfl) (by kernel_rfl) (by kernel_rfl) (fun _ _ _ h => h) (Or.inl ⟨rfl, fun w' hw' => ?_⟩) hHeld ?_
            · go_simp
            simp only [List.getElem_toArray, List.getElem_cons_succ, List.getElem_cons_zero, Act.put, List.setIfInBounds_toArray, List.set_cons_zero, List.set_cons_succ]
            refine wpAnyH_ready (rs := [7]) (by kernel_rfl) (by simp) ?_
            refine (AllReadyH.cons rfl (fun K hK => ?_) AllReadyH.nil)
            have hone7 : (#[.int .i64 9, .string ⟨#[]⟩, .slice (some ⟨gN, 0, none⟩) 2 2, .slice (some ⟨gP, 0, none⟩) 3 3] : Array Value).all (·.oneCell') = true := by simp [Value.oneCell']
            have HS7 : Hid (Below W11.heap.size W11 (w0.setRow gL #[.int .i64 9, .string ⟨#[]⟩, .slice (some ⟨gN, 0, none⟩) 2 2, .slice (some ⟨gP, 0, none⟩) 3 3])) := Below.setRowUp HS0.out _ _ hhL
            have HFN := Lib.hid (HREST.out w0 gN gP gL HS0.out HNN.out HPP.out HLL.out hhL hNL hPL)
            refine wp_store_row 28 _ _ rfl gL #[.int .i64 9, .string ⟨#[]⟩, .slice (some ⟨gN, 0, none⟩) 2 2, .slice (some ⟨gP, 0, none⟩) 3 3] (by go_simp) rfl 28 Z4 HLL.out info28 rfl hone7 ?_
            refine hK.out _ _ HS7.out (fun hHeld => ?_)
            clear hK K
            try simp only [List.getElem_toArray, List.getElem_cons_succ, List.getElem_cons_zero, Act.put, List.setIfInBounds_toArray, List.set_cons_zero, List.set_cons_succ]
            refine wpAnyH_done (by kernel_rfl) ?_ _
            refine NoPanic.normal ?_
            clear hHeld
            exact HRR.out _ _ _ _ _ _ _ _ _ _ _ _ _ _ _ _ _ _ _ _ _ _ _ _ _ _ _ _ _ _ _ _ gN gP gL HFN.out
        · skip
          go_simp
          have HS6 : Hid (Below W11.heap.size W11 (w3.alloc (.cells Z4 28))) := HS3.out.alloc HS3.out.size _
          have A6 := Lib.hid ((Below.refl w3.heap.size w3).alloc (Nat.le_refl _) (.cells Z4 28))
          have HLL6 : Hid ((w3.alloc (.cells Z4 28)).heap[w3.heap.size]? = some (.cells Z4 28 (0, 0))) := alloc_at w3 _
          have hh6 : W11.heap.size ≤ w3.heap.size := HS3.out.size
          refine hK.out _ _ HS6.out (fun hHeld => ?_)
          clear hK K
          try simp only [List.getElem_toArray, List.getElem_cons_succ, List.getElem_cons_zero, Act.put, List.setIfInBounds_toArray, List.set_cons_zero, List.set_cons_succ]
          generalize w3.alloc (.cells Z4 28) = w6 at HS6 A6 HLL6 hHeld ⊢
          have hlt6 : w3.heap.size < w6.heap.size := (Array.getElem?_eq_some_iff.1 HLL6.out).1
          obtain ⟨gL, he6⟩ : ∃ gL, gL = w3.heap.size := ⟨_, rfl⟩
          rw [← he6] at HLL6 hh6
          simp only [← he6]
          have hhL := hh6
          clear he6 hlt6
          have HLL := HLL6
          refine wpAnyH_ready (rs := [0, 4]) (by kernel_rfl) (by simp) ?_
          refine (AllReadyH.cons rfl (fun K hK => ?_) (AllReadyH.cons rfl (fun K hK => ?_) AllReadyH.nil))
          · skip
            go_simp
            have HS0 : Hid (Below W11.heap.size W11 (w6.alloc (.cells #[.string ⟨#[97]⟩, .string ⟨#[98]⟩] 9))) := HS6.out.alloc HS6.out.size _
            have A0 := Lib.hid ((Below.refl w6.heap.size w6).alloc (Nat.le_refl _) (.cells #[.string ⟨#[97]⟩, .string ⟨#[98]⟩] 9))
            have HNN0 : Hid ((w6.alloc (.cells #[.string ⟨#[97]⟩, .string ⟨#[98]⟩] 9)).heap[w6.heap.size]? = some (.cells (tcells ab) 9 (0, 0))) := alloc_at w6 _
            have hh0 : W11.heap.size ≤ w6.heap.size := HS6.out.size
            refine hK.out _ _ HS0.out (fun hHeld => ?_)
            clear hK K
            try simp only [List.getElem_toArray, List.getElem_cons_succ, List.getElem_cons_zero, Act.put, List.setIfInBounds_toArray, List.set_cons_zero, List.set_cons_succ]
            generalize w6.alloc (.cells #[.string ⟨#[97]⟩, .string ⟨#[98]⟩] 9) = w0 at HS0 A0 HNN0 hHeld ⊢
            have hlt0 : w6.heap.size < w0.heap.size := (Array.getElem?_eq_some_iff.1 HNN0.out).1
            have hl_gL0 : gL < w6.heap.size := (Array.getElem?_eq_some_iff.1 HLL.out).1
            obtain ⟨gN, he0⟩ : ∃ gN, gN = w6.heap.size := ⟨_, rfl⟩
            rw [← he0] at HNN0 hh0
            simp only [← he0]
            have hNL : gN ≠ gL := by omega
            have hhN := hh0
            clear he0 hlt0 hl_gL0
            have HNN := HNN0
            have HLL := Lib.hid (row_below A0.out HLL.out)
            refine wpAnyH_ready (rs := [4]) (by kernel_rfl) (by simp) ?_
            refine (AllReadyH.cons rfl (fun K hK => ?_) AllReadyH.nil)
            go_simp
            have HS4 : Hid (Below W11.heap.size W11 (w0.alloc (.cells #[.int .i64 k1, .string t1, nv1, av1, .int .i64 k2, .string t2, nv2, av2, .int .i64 5, .string ⟨#[99]⟩, .slice none 0 0, .slice none 0 0] 28))) := HS0.out.alloc HS0.out.size _
            have A4 := Lib.hid ((Below.refl w0.heap.size w0).alloc (Nat.le_refl _) (.cells #[.int .i64 k1, .string t1, nv1, av1, .int .i64 k2, .string t2, nv2, av2, .int .i64 5, .string ⟨#[99]⟩, .slice none 0 0, .slice none 0 0] 28))
            have HPP4 : Hid ((w0.alloc (.cells #[.int .i64 k1, .string t1, nv1, av1, .int .i64 k2, .string t2, nv2, av2, .int .i64 5, .string ⟨#[99]⟩, .slice none 0 0, .slice none 0 0] 28)).heap[w0.heap.size]? = some (.cells (#[.int .i64 k1, .string t1, nv1, av1] ++ #[.int .i64 k2, .string t2, nv2, av2] ++ #[.int .i64 5, .string ⟨#[99]⟩, .slice none 0 0, .slice none 0 0]) 28 (0, 0))) := alloc_at w0 (.cells #[.int .i64 k1, .string t1, nv1, av1, .int .i64 k2, .string t2, nv2, av2, .int .i64 5, .string ⟨#[99]⟩, .slice none 0 0, .slice none 0 0] 28)
            have hh4 : W11.heap.size ≤ w0.heap.size := HS0.out.size
            refine hK.out _ _ HS4.out (fun hHeld => ?_)
            clear hK K
            try simp only [List.getElem_toArray, List.getElem_cons_succ, List.getElem_cons_zero, Act.put, List.setIfInBounds_toArray, List.set_cons_zero, List.set_cons_succ]
            generalize w0.alloc (.cells #[.int .i64 k1, .string t1, nv1, av1, .int .i64 k2, .string t2, nv2, av2, .int .i64 5, .string ⟨#[99]⟩, .slice none 0 0, .slice none 0 0] 28) = w4 at HS4 A4 HPP4 hHeld ⊢
            have hlt4 : w0.heap.size < w4.heap.size := (Array.getElem?_eq_some_iff.1 HPP4.out).1
            have hl_gL4 : gL < w0.heap.size := (Array.getElem?_eq_some_iff.1 HLL.out).1
            have hl_gN4 : gN < w0.heap.size := (Array.getElem?_eq_some_iff.1 HNN.out).1
            obtain ⟨gP, he4⟩ : ∃ gP, gP = w0.heap.size := ⟨_, rfl⟩
            rw [← he4] at HPP4 hh4
            simp only [← he4]
            have hPL : gP ≠ gL := by omega
            have hhP := hh4
            clear he4 hlt4 hl_gL4 hl_gN4
            have HPP := HPP4
            have HLL := Lib.hid (row_below A4.out HLL.out)
            have HNN := Lib.hid (row_below A4.out HNN.out)
            refine wpAnyH_take (i := 5) (v := Value.agg #[.int .i64 9, .string ⟨#[]⟩, .slice (some ⟨gN, 0, none⟩) 2 2, .slice (some ⟨gP, 0, none⟩) 3 3]) rfl (by kernel_rfl) (by kernel_rfl) (by kernel_rfl) (fun _ _ _ h => h) (Or.inl ⟨rfl, fun w' hw' => ?_⟩) hHeld ?_
            · go_simp
            simp only [List.getElem_toArray, List.getElem_cons_succ, List.getElem_cons_zero, Act.put, List.setIfInBounds_toArray, List.set_cons_zero, List.set_cons_succ]
            refine wpAnyH_ready (rs := [7]) (by kernel_rfl) (by simp) ?_
            refine (AllReadyH.cons rfl (fun K hK => ?_) AllReadyH.nil)
            have hone7 : (#[.int .i64 9, .string ⟨#[]⟩, .slice (some ⟨gN, 0, none⟩) 2 2, .slice (some ⟨gP, 0, none⟩) 3 3] : Array Value).all (·.oneCell') = true := by simp [Value.oneCell']
            have HS7 : Hid (Below W11.heap.size W11 (w4.setRow gL #[.int .i64 9, .string ⟨#[]⟩, .slice (some ⟨gN, 0, none⟩) 2 2, .slice (some ⟨gP, 0, none⟩) 3 3])) := Below.setRowUp HS4.out _ _ hhL
            have HFN := Lib.hid (HREST.out w4 gN gP gL HS4.out HNN.out HPP.out HLL.out hhL hNL hPL)
            refine wp_store_row 28 _ _ rfl gL #[.int .i64 9, .string ⟨#[]⟩, .slice (some ⟨gN, 0, none⟩) 2 2, .slice (some ⟨gP, 0, none⟩) 3 3] (by go_simp) rfl 28 Z4 HLL.out info28 rfl hone7 ?_
            refine hK.out _ _ HS7.out (fun hHeld => ?_)
            clear hK K
            try simp only [List.getElem_toArray, List.getElem_cons_succ, List.getElem_cons_zero, Act.put, List.setIfInBounds_toArray, List.set_cons_zero, List.set_cons_succ]
            refine wpAnyH_done (by kernel_rfl) ?_ _
            refine NoPanic.normal ?_
            clear hHeld
            exact HRR.out _ _ _ _ _ _ _ _ _ _ _ _ _ _ _ _ _ _ _ _ _ _ _ _ _ _ _ _ _ _ _ _ gN gP gL HFN.out
          · skip
            go_simp
            have HS4 : Hid (Below W11.heap.size W11 (w6.alloc (.cells #[.int .i64 k1, .string t1, nv1, av1, .int .i64 k2, .string t2, nv2, av2, .int .i64 5, .string ⟨#[99]⟩, .slice none 0 0, .slice none 0 0] 28))) := HS6.out.alloc HS6.out.size _
            have A4 := Lib.hid ((Below.refl w6.heap.size w6).alloc (Nat.le_refl _) (.cells #[.int .i64 k1, .string t1, nv1, av1, .int .i64 k2, .string t2, nv2, av2, .int .i64 5, .string ⟨#[99]⟩, .slice none 0 0, .slice none 0 0] 28))
            have HPP4 : Hid ((w6.alloc (.cells #[.int .i64 k1, .string t1, nv1, av1, .int .i64 k2, .string t2, nv2, av2, .int .i64 5, .string ⟨#[99]⟩, .slice none 0 0, .slice none 0 0] 28)).heap[w6.heap.size]? = some (.cells (#[.int .i64 k1, .string t1, nv1, av1] ++ #[.int .i64 k2, .string t2, nv2, av2] ++ #[.int .i64 5, .string ⟨#[99]⟩, .slice none 0 0, .slice none 0 0]) 28 (0, 0))) := alloc_at w6 (.cells #[.int .i64 k1, .string t1, nv1, av1, .int .i64 k2, .string t2, nv2, av2, .int .i64 5, .string ⟨#[99]⟩, .slice none 0 0, .slice none 0 0] 28)
            have hh4 : W11.heap.size ≤ w6.heap.size := HS6.out.size
            refine hK.out _ _ HS4.out (fun hHeld => ?_)
            clear hK K
            try simp only [List.getElem_toArray, List.getElem_cons_succ, List.getElem_cons_zero, Act.put, List.setIfInBounds_toArray, List.set_cons_zero, List.set_cons_succ]
            generalize w6.alloc (.cells #[.int .i64 k1, .string t1, nv1, av1, .int .i64 k2, .string t2, nv2, av2, .int .i64 5, .string ⟨#[99]⟩, .slice none 0 0, .slice none 0 0] 28) = w4 at HS4 A4 HPP4 hHeld ⊢
            have hlt4 : w6.heap.size < w4.heap.size := (Array.getElem?_eq_some_iff.1 HPP4.out).1
            have hl_gL4 : gL < w6.heap.size := (Array.getElem?_eq_some_iff.1 HLL.out).1
            obtain ⟨gP, he4⟩ : ∃ gP, gP = w6.heap.size := ⟨_, rfl⟩
            rw [← he4] at HPP4 hh4
            simp only [← he4]
            have hPL : gP ≠ gL := by omega
            have hhP := hh4
            clear he4 hlt4 hl_gL4
            have HPP := HPP4
            have HLL := Lib.hid (row_below A4.out HLL.out)
            refine wpAnyH_ready (rs := [0]) (by kernel_rfl) (by simp) ?_
            refine (AllReadyH.cons rfl (fun K hK => ?_) AllReadyH.nil)
            go_simp
            have HS0 : Hid (Below W11.heap.size W11 (w4.alloc (.cells #[.string ⟨#[97]⟩, .string ⟨#[98]⟩] 9))) := HS4.out.alloc HS4.out.size _
            have A0 := Lib.hid ((Below.refl w4.heap.size w4).alloc (Nat.le_refl _) (.cells #[.string ⟨#[97]⟩, .string ⟨#[98]⟩] 9))
            have HNN0 : Hid ((w4.alloc (.cells #[.string ⟨#[97]⟩, .string ⟨#[98]⟩] 9)).heap[w4.heap.size]? = some (.cells (tcells ab) 9 (0, 0))) := alloc_at w4 _
            have hh0 : W11.heap.size ≤ w4.heap.size := HS4.out.size
            refine hK.out _ _ HS0.out (fun hHeld => ?_)
            clear hK K
            try simp only [List.getElem_toArray, List.getElem_cons_succ, List.getElem_cons_zero, Act.put, List.setIfInBounds_toArray, List.set_cons_zero, List.set_cons_succ]
            generalize w4.alloc (.cells #[.string ⟨#[97]⟩, .string ⟨#[98]⟩] 9) = w0 at HS0 A0 HNN0 hHeld ⊢
            have hlt0 : w4.heap.size < w0.heap.size := (Array.getElem?_eq_some_iff.1 HNN0.out).1
            have hl_gL0 : gL < w4.heap.size := (Array.getElem?_eq_some_iff.1 HLL.out).1
            have hl_gP0 : gP < w4.heap.size := (Array.getElem?_eq_some_iff.1 HPP.out).1
            obtain ⟨gN, he0⟩ : ∃ gN, gN = w4.heap.size := ⟨_, rfl⟩
            rw [← he0] at HNN0 hh0
            simp only [← he0]
            have hNL : gN ≠ gL := by omega
            have hhN := hh0
            clear he0 hlt0 hl_gL0 hl_gP0
            have HNN := HNN0
            have HLL := Lib.hid (row_below A0.out HLL.out)
            have HPP := Lib.hid (row_below A0.out HPP.out)
            refine wpAnyH_take (i := 5) (v := Value.agg #[.int .i64 9, .string ⟨#[]⟩, .slice (some ⟨gN, 0, none⟩) 2 2, .slice (some ⟨gP, 0, none⟩) 3 3]) rfl (by kernel_rfl) (by kernel_rfl) (by kernel_rfl) (fun _ _ _ h => h) (Or.inl ⟨rfl, fun w' hw' => ?_⟩) hHeld ?_
            · go_simp
            simp only [List.getElem_toArray, List.getElem_cons_succ, List.getElem_cons_zero, Act.put, List.setIfInBounds_toArray, List.set_cons_zero, List.set_cons_succ]
            refine wpAnyH_ready (rs := [7]) (by kernel_rfl) (by simp) ?_
            refine (AllReadyH.cons rfl (fun K hK => ?_) AllReadyH.nil)
            have hone7 : (#[.int .i64 9, .string ⟨#[]⟩, .slice (some ⟨gN, 0, none⟩) 2 2, .slice (some ⟨gP, 0, none⟩) 3 3] : Array Value).all (·.oneCell') = true := by simp [Value.oneCell']
            have HS7 : Hid (Below W11.heap.size W11 (w0.setRow gL #[.int .i64 9, .string ⟨#[]⟩, .slice (some ⟨gN, 0, none⟩) 2 2, .slice (some ⟨gP, 0, none⟩) 3 3])) := Below.setRowUp HS0.out _ _ hhL
            have HFN := Lib.hid (HREST.out w0 gN gP gL HS0.out HNN.out HPP.out HLL.out hhL hNL hPL)
            refine wp_store_row 28 _ _ rfl gL #[.int .i64 9, .string ⟨#[]⟩, .slice (some ⟨gN, 0, none⟩) 2 2, .slice (some ⟨gP, 0, none⟩) 3 3] (by go_simp) rfl 28 Z4 HLL.out info28 rfl hone7 ?_
            refine hK.out _ _ HS7.out (fun hHeld => ?_)
            clear hK K
            try simp only [List.getElem_toArray, List.getElem_cons_succ, List.getElem_cons_zero, Act.put, List.setIfInBounds_toArray, List.set_cons_zero, List.set_cons_succ]
            refine wpAnyH_done (by kernel_rfl) ?_ _
            refine NoPanic.normal ?_
            clear hHeld
            exact HRR.out _ _ _ _ _ _ _ _ _ _ _ _ _ _ _ _ _ _ _ _ _ _ _ _ _ _ _ _ _ _ _ _ gN gP gL HFN.out
      · skip
        go_simp
        have HS6 : Hid (Below W11.heap.size W11 (X0.alloc (.cells Z4 28))) := HSX.out.alloc HSX.out.size _
        have A6 := Lib.hid ((Below.refl X0.heap.size X0).alloc (Nat.le_refl _) (.cells Z4 28))
        have HLL6 : Hid ((X0.alloc (.cells Z4 28)).heap[X0.heap.size]? = some (.cells Z4 28 (0, 0))) := alloc_at X0 _
        have hh6 : W11.heap.size ≤ X0.heap.size := HSX.out.size
        refine hK.out _ _ HS6.out (fun hHeld => ?_)
        clear hK K
        try simp only [List.getElem_toArray, List.getElem_cons_succ, List.getElem_cons_zero, Act.put, List.setIfInBounds_toArray, List.set_cons_zero, List.set_cons_succ]
        generalize X0.alloc (.cells Z4 28) = w6 at HS6 A6 HLL6 hHeld ⊢
        have hlt6 : X0.heap.size < w6.heap.size := (Array.getElem?_eq_some_iff.1 HLL6.out).1
        obtain ⟨gL, he6⟩ : ∃ gL, gL = X0.heap.size := ⟨_, rfl⟩
        rw [← he6] at HLL6 hh6
        simp only [← he6]
        have hhL := hh6
        clear he6 hlt6
        have HLL := HLL6
        refine wpAnyH_ready (rs := [0, 3]) (by kernel_rfl) (by simp) ?_
        refine (AllReadyH.cons rfl (fun K hK => ?_) (AllReadyH.cons rfl (fun K hK => ?_) AllReadyH.nil))
        · skip
          go_simp
          have HS0 : Hid (Below W11.heap.size W11 (w6.alloc (.cells #[.string ⟨#[97]⟩, .string ⟨#[98]⟩] 9))) := HS6.out.alloc HS6.out.size _
          have A0 := Lib.hid ((Below.refl w6.heap.size w6).alloc (Nat.le_refl _) (.cells #[.string ⟨#[97]⟩, .string ⟨#[98]⟩] 9))
          have HNN0 : Hid ((w6.alloc (.cells #[.string ⟨#[97]⟩, .string ⟨#[98]⟩] 9)).heap[w6.heap.size]? = some (.cells (tcells ab) 9 (0, 0))) := alloc_at w6 _
          have hh0 : W11.heap.size ≤ w6.heap.size := HS6.out.size
          refine hK.out _ _ HS0.out (fun hHeld => ?_)
          clear hK K
          try simp only [List.getElem_toArray, List.getElem_cons_succ, List.getElem_cons_zero, Act.put, List.setIfInBounds_toArray, List.set_cons_zero, List.set_cons_succ]
          generalize w6.alloc (.cells #[.string ⟨#[97]⟩, .string ⟨#[98]⟩] 9) = w0 at HS0 A0 HNN0 hHeld ⊢
          have hlt0 : w6.heap.size < w0.heap.size := (Array.getElem?_eq_some_iff.1 HNN0.out).1
          have hl_gL0 : gL < w6.heap.size := (Array.getElem?_eq_some_iff.1 HLL.out).1
          obtain ⟨gN, he0⟩ : ∃ gN, gN = w6.heap.size := ⟨_, rfl⟩
          rw [← he0] at HNN0 hh0
          simp only [← he0]
          have hNL : gN ≠ gL := by omega
          have hhN := hh0
          clear he0 hlt0 hl_gL0
          have HNN := HNN0
          have HLL := Lib.hid (row_below A0.out HLL.out)
          refine wpAnyH_ready (rs := [3]) (by kernel_rfl) (by simp) ?_
          refine (AllReadyH.cons rfl (fun K hK => ?_) AllReadyH.nil)
          go_simp
          refine (HVA.out _).mono ?_
          rintro r w3 ⟨rfl, hb3⟩
          have A3 := Lib.hid hb3
          have HS3 := Lib.hid (HS0.out.trans (hb3.mono HS0.out.size))
          clear hb3
          refine hK.out _ _ HS3.out (fun hHeld => ?_)
          clear hK K
          try simp only [List.getElem_toArray, List.getElem_cons_succ, List.getElem_cons_zero, Act.put, List.setIfInBounds_toArray, List.set_cons_zero, List.set_cons_succ]
          have HLL := Lib.hid (row_below A3.out HLL.out)
          have HNN := Lib.hid (row_below A3.out HNN.out)
          refine wpAnyH_ready (rs := [4]) (by kernel_rfl) (by simp) ?_
          refine (AllReadyH.cons rfl (fun K hK => ?_) AllReadyH.nil)
          go_simp
          have HS4 : Hid (Below W11.heap.size W11 (w3.alloc (.cells #[.int .i64 k1, .string t1, nv1, av1, .int .i64 k2, .string t2, nv2, av2, .int .i64 5, .string ⟨#[99]⟩, .slice none 0 0, .slice none 0 0] 28))) := HS3.out.alloc HS3.out.size _
          have A4 := Lib.hid ((Below.refl w3.heap.size w3).alloc (Nat.le_refl _) (.cells #[.int .i64 k1, .string t1, nv1, av1, .int .i64 k2, .string t2, nv2, av2, .int .i64 5, .string ⟨#[99]⟩, .slice none 0 0, .slice none 0 0] 28))
          have HPP4 : Hid ((w3.alloc (.cells #[.int .i64 k1, .string t1, nv1, av1, .int .i64 k2, .string t2, nv2, av2, .int .i64 5, .string ⟨#[99]⟩, .slice none 0 0, .slice none 0 0] 28)).heap[w3.heap.size]? = some (.cells (#[.int .i64 k1, .string t1, nv1, av1] ++ #[.int .i64 k2, .string t2, nv2, av2] ++ #[.int .i64 5, .string ⟨#[99]⟩, .slice none 0 0, .slice none 0 0]) 28 (0, 0))) := alloc_at w3 (.cells #[.int .i64 k1, .string t1, nv1, av1, .int .i64 k2, .string t2, nv2, av2, .int .i64 5, .string ⟨#[99]⟩, .slice none 0 0, .slice none 0 0] 28)
          have hh4 : W11.heap.size ≤ w3.heap.size := HS3.out.size
          refine hK.out _ _ HS4.out (fun hHeld => ?_)
          clear hK K
          try simp only [List.getElem_toArray, List.getElem_cons_succ, List.getElem_cons_zero, Act.put, List.setIfInBounds_toArray, List.set_cons_zero, List.set_cons_succ]
          generalize w3.alloc (.cells #[.int .i64 k1, .string t1, nv1, av1, .int .i64 k2, .string t2, nv2, av2, .int .i64 5, .string ⟨#[99]⟩, .slice none 0 0, .slice none 0 0] 28) = w4 at HS4 A4 HPP4 hHeld ⊢
          have hlt4 : w3.heap.size < w4.heap.size := (Array.getElem?_eq_some_iff.1 HPP4.out).1
          have hl_gL4 : gL < w3.heap.size := (Array.getElem?_eq_some_iff.1 HLL.out).1
          have hl_gN4 : gN < w3.heap.size := (Array.getElem?_eq_some_iff.1 HNN.out).1
          obtain ⟨gP, he4⟩ : ∃ gP, gP = w3.heap.size := ⟨_, rfl⟩
          rw [← he4] at HPP4 hh4
          simp only [← he4]
          have hPL : gP ≠ gL := by omega
          have hhP := hh4
          clear he4 hlt4 hl_gL4 hl_gN4
          have HPP := HPP4
          have HLL := Lib.hid (row_below A4.out HLL.out)
          have HNN := Lib.hid (row_below A4.out HNN.out)
          refine wpAnyH_take (i := 5) (v := Value.agg #[.int .i64 9, .string ⟨#[]⟩, .slice (some ⟨gN, 0, none⟩) 2 2, .slice (some ⟨gP, 0, none⟩) 3 3]) rfl (by kernel_rfl) (by kernel_rfl) (by kernel_rfl) (fun _ _ _ h => h) (Or.inl ⟨rfl, fun w' hw' => ?_⟩) hHeld ?_
          · go_simp
          simp only [List.getElem_toArray, List.getElem_cons_succ, List.getElem_cons_zero, Act.put, List.setIfInBounds_toArray, List.set_cons_zero, List.set_cons_succ]
          refine wpAnyH_ready (rs := [7]) (by kernel_rfl) (by simp) ?_
          refine (AllReadyH.cons rfl (fun K hK => ?_) AllReadyH.nil)
          have hone7 : (#[.int .i64 9, .string ⟨#[]⟩, .slice (some ⟨gN, 0, none⟩) 2 2, .slice (some ⟨gP, 0, none⟩) 3 3] : Array Value).all (·.oneCell') = true := by simp [Value.oneCell']
          have HS7 : Hid (Below W11.heap.size W11 (w4.setRow gL #[.int .i64 9, .string ⟨#[]⟩, .slice (some ⟨gN, 0, none⟩) 2 2, .slice (some ⟨gP, 0, none⟩) 3 3])) := Below.setRowUp HS4.out _ _ hhL
          have HFN := Lib.hid (HREST.out w4 gN gP gL HS4.out HNN.out HPP.out HLL.out hhL hNL hPL)
          refine wp_store_row 28 _ _ rfl gL #[.int .i64 9, .string ⟨#[]⟩, .slice (some ⟨gN, 0, none⟩) 2 2, .slice (some ⟨gP, 0, none⟩) 3 3] (by go_simp) rfl 28 Z4 HLL.out info28 rfl hone7 ?_
          refine hK.out _ _ HS7.out (fun hHeld => ?_)
          clear hK K
          try simp only [List.getElem_toArray, List.getElem_cons_succ, List.getElem_cons_zero, Act.put, List.setIfInBounds_toArray, List.set_cons_zero, List.set_cons_succ]
          refine wpAnyH_done (by kernel_rfl) ?_ _
          refine NoPanic.normal ?_
          clear hHeld
          exact HRR.out _ _ _ _ _ _ _ _ _ _ _ _ _ _ _ _ _ _ _ _ _ _ _ _ _ _ _ _ _ _ _ _ gN gP gL HFN.out
        · skip
          go_simp
          refine (HVA.out _).mono ?_
          rintro r w3 ⟨rfl, hb3⟩
          have A3 := Lib.hid hb3
          have HS3 := Lib.hid (HS6.out.trans (hb3.mono HS6.out.size))
          clear hb3
          refine hK.out _ _ HS3.out (fun hHeld => ?_)
          clear hK K
          try simp only [List.getElem_toArray, List.getElem_cons_succ, List.getElem_cons_zero, Act.put, List.setIfInBounds_toArray, List.set_cons_zero, List.set_cons_succ]
          have HLL := Lib.hid (row_below A3.out HLL.out)
          refine wpAnyH_ready (rs := [0, 4]) (by kernel_rfl) (by simp) ?_
          refine (AllReadyH.cons rfl (fun K hK => ?_) (AllReadyH.cons rfl (fun K hK => ?_) AllReadyH.nil))
          · skip
            go_simp
            have HS0 : Hid (Below W11.heap.size W11 (w3.alloc (.cells #[.string ⟨#[97]⟩, .string ⟨#[98]⟩] 9))) := HS3.out.alloc HS3.out.size _
            have A0 := Lib.hid ((Below.refl w3.heap.size w3).alloc (Nat.le_refl _) (.cells #[.string ⟨#[97]⟩, .string ⟨#[98]⟩] 9))
            have HNN0 : Hid ((w3.alloc (.cells #[.string ⟨#[97]⟩, .string ⟨#[98]⟩] 9)).heap[w3.heap.size]? = some (.cells (tcells ab) 9 (0, 0))) := alloc_at w3 _
            have hh0 : W11.heap.size ≤ w3.heap.size := HS3.out.size
            refine hK.out _ _ HS0.out (fun hHeld => ?_)
            clear hK K
            try simp only [List.getElem_toArray, List.getElem_cons_succ, List.getElem_cons_zero, Act.put, List.setIfInBounds_toArray, List.set_cons_zero, List.set_cons_succ]
            generalize w3.alloc (.cells #[.string ⟨#[97]⟩, .string ⟨#[98]⟩] 9) = w0 at HS0 A0 HNN0 hHeld ⊢
            have hlt0 : w3.heap.size < w0.heap.size := (Array.getElem?_eq_some_iff.1 HNN0.out).1
            have hl_gL0 : gL < w3.heap.size := (Array.getElem?_eq_some_iff.1 HLL.out).1
            obtain ⟨gN, he0⟩ : ∃ gN, gN = w3.heap.size := ⟨_, rfl⟩
            rw [← he0] at HNN0 hh0
            simp only [← he0]
            have hNL : gN ≠ gL := by omega
            have hhN := hh0
            clear he0 hlt0 hl_gL0
            have HNN := HNN0
            have HLL := Lib.hid (row_below A0.out HLL.out)
            refine wpAnyH_ready (rs := [4]) (by kernel_rfl) (by simp) ?_
            refine (AllReadyH.cons rfl (fun K hK => ?_) AllReadyH.nil)
            go_simp
            have HS4 : Hid (Below W11.heap.size W11 (w0.alloc (.cells #[.int .i64 k1, .string t1, nv1, av1, .int .i64 k2, .string t2, nv2, av2, .int .i64 5, .string ⟨#[99]⟩, .slice none 0 0, .slice none 0 0] 28))) := HS0.out.alloc HS0.out.size _
            have A4 := Lib.hid ((Below.refl w0.heap.size w0).alloc (Nat.le_refl _) (.cells #[.int .i64 k1, .string t1, nv1, av1, .int .i64 k2, .string t2, nv2, av2, .int .i64 5, .string ⟨#[99]⟩, .slice none 0 0, .slice none 0 0] 28))
            have HPP4 : Hid ((w0.alloc (.cells #[.int .i64 k1, .string t1, nv1, av1, .int .i64 k2, .string t2, nv2, av2, .int .i64 5, .string ⟨#[99]⟩, .slice none 0 0, .slice none 0 0] 28)).heap[w0.heap.size]? = some (.cells (#[.int .i64 k1, .string t1, nv1, av1] ++ #[.int .i64 k2, .string t2, nv2, av2] ++ #[.int .i64 5, .string ⟨#[99]⟩, .slice none 0 0, .slice none 0 0]) 28 (0, 0))) := alloc_at w0 (.cells #[.int .i64 k1, .string t1, nv1, av1, .int .i64 k2, .string t2, nv2, av2, .int .i64 5, .string ⟨#[99]⟩, .slice none 0 0, .slice none 0 0] 28)
            have hh4 : W11.heap.size ≤ w0.heap.size := HS0.out.size
            refine hK.out _ _ HS4.out (fun hHeld => ?_)
            clear hK K
            try simp only [List.getElem_toArray, List.getElem_cons_succ, List.getElem_cons_zero, Act.put, List.setIfInBounds_toArray, List.set_cons_zero, List.set_cons_succ]
            generalize w0.alloc (.cells #[.int .i64 k1, .string t1, nv1, av1, .int .i64 k2, .string t2, nv2, av2, .int .i64 5, .string ⟨#[99]⟩, .slice none 0 0, .slice none 0 0] 28) = w4 at HS4 A4 HPP4 hHeld ⊢
            have hlt4 : w0.heap.size < w4.heap.size := (Array.getElem?_eq_some_iff.1 HPP4.out).1
            have hl_gL4 : gL < w0.heap.size := (Array.getElem?_eq_some_iff.1 HLL.out).1
            have hl_gN4 : gN < w0.heap.size := (Array.getElem?_eq_some_iff.1 HNN.out).1
            obtain ⟨gP, he4⟩ : ∃ gP, gP = w0.heap.size := ⟨_, rfl⟩
            rw [← he4] at HPP4 hh4
            simp only [← he4]
            have hPL : gP ≠ gL := by omega
            have hhP := hh4
            clear he4 hlt4 hl_gL4 hl_gN4
            have HPP := HPP4
            have HLL := Lib.hid (row_below A4.out HLL.out)
            have HNN := Lib.hid (row_below A4.out HNN.out)
            refine wpAnyH_take (i := 5) (v := Value.agg #[.int .i64 9, .string ⟨#[]⟩, .slice (some ⟨gN, 0, none⟩) 2 2, .slice (some ⟨gP, 0, none⟩) 3 3]) rfl (by kernel_rfl) (by kernel_rfl) (by kernel_rfl) (fun _ _ _ h => h) (Or.inl ⟨rfl, fun w' hw' => ?_⟩) hHeld ?_
            · go_simp
            simp only [List.getElem_toArray, List.getElem_cons_succ, List.getElem_cons_zero, Act.put, List.setIfInBounds_toArray, List.set_cons_zero, List.set_cons_succ]
            refine wpAnyH_ready (rs := [7]) (by kernel_rfl) (by simp) ?_
            refine (AllReadyH.cons rfl (fun K hK => ?_) AllReadyH.nil)
            have hone7 : (#[.int .i64 9, .string ⟨#[]⟩, .slice (some ⟨gN, 0, none⟩) 2 2, .slice (some ⟨gP, 0, none⟩) 3 3] : Array Value).all (·.oneCell') = true := by simp [Value.oneCell']
            have HS7 : Hid (Below W11.heap.size W11 (w4.setRow gL #[.int .i64 9, .string ⟨#[]⟩, .slice (some ⟨gN, 0, none⟩) 2 2, .slice (some ⟨gP, 0, none⟩) 3 3])) := Below.setRowUp HS4.out _ _ hhL
            have HFN := Lib.hid (HREST.out w4 gN gP gL HS4.out HNN.out HPP.out HLL.out hhL hNL hPL)
            refine wp_store_row 28 _ _ rfl gL #[.int .i64 9, .string ⟨#[]⟩, .slice (some ⟨gN, 0, none⟩) 2 2, .slice (some ⟨gP, 0, none⟩) 3 3] (by go_simp) rfl 28 Z4 HLL.out info28 rfl hone7 ?_
            refine hK.out _ _ HS7.out (fun hHeld => ?_)
            clear hK K
            try simp only [List.getElem_toArray, List.getElem_cons_succ, List.getElem_cons_zero, Act.put, List.setIfInBounds_toArray, List.set_cons_zero, List.set_cons_succ]
            refine wpAnyH_done (by kernel_rfl) ?_ _
            refine NoPanic.normal ?_
            clear hHeld
            exact HRR.out _ _ _ _ _ _ _ _ _ _ _ _ _ _ _ _ _ _ _ _ _ _ _ _ _ _ _ _ _ _ _ _ gN gP gL HFN.out
          · skip
            go_simp
            have HS4 : Hid (Below W11.heap.size W11 (w3.alloc (.cells #[.int .i64 k1, .string t1, nv1, av1, .int .i64 k2, .string t2, nv2, av2, .int .i64 5, .string ⟨#[99]⟩, .slice none 0 0, .slice none 0 0] 28))) := HS3.out.alloc HS3.out.size _
            have A4 := Lib.hid ((Below.refl w3.heap.size w3).alloc (Nat.le_refl _) (.cells #[.int .i64 k1, .string t1, nv1, av1, .int .i64 k2, .string t2, nv2, av2, .int .i64 5, .string ⟨#[99]⟩, .slice none 0 0, .slice none 0 0] 28))
            have HPP4 : Hid ((w3.alloc (.cells #[.int .i64 k1, .string t1, nv1, av1, .int .i64 k2, .string t2, nv2, av2, .int .i64 5, .string ⟨#[99]⟩, .slice none 0 0, .slice none 0 0] 28)).heap[w3.heap.size]? = some (.cells (#[.int .i64 k1, .string t1, nv1, av1] ++ #[.int .i64 k2, .string t2, nv2, av2] ++ #[.int .i64 5, .string ⟨#[99]⟩, .slice none 0 0, .slice none 0 0]) 28 (0, 0))) := alloc_at w3 (.cells #[.int .i64 k1, .string t1, nv1, av1, .int .i64 k2, .string t2, nv2, av2, .int .i64 5, .string ⟨#[99]⟩, .slice none 0 0, .slice none 0 0] 28)
            have hh4 : W11.heap.size ≤ w3.heap.size := HS3.out.size
            refine hK.out _ _ HS4.out (fun hHeld => ?_)
            clear hK K
            try simp only [List.getElem_toArray, List.getElem_cons_succ, List.getElem_cons_zero, Act.put, List.setIfInBounds_toArray, List.set_cons_zero, List.set_cons_succ]
            generalize w3.alloc (.cells #[.int .i64 k1, .string t1, nv1, av1, .int .i64 k2, .string t2, nv2, av2, .int .i64 5, .string ⟨#[99]⟩, .slice none 0 0, .slice none 0 0] 28) = w4 at HS4 A4 HPP4 hHeld ⊢
            have hlt4 : w3.heap.size < w4.heap.size := (Array.getElem?_eq_some_iff.1 HPP4.out).1
            have hl_gL4 : gL < w3.heap.size := (Array.getElem?_eq_some_iff.1 HLL.out).1
            obtain ⟨gP, he4⟩ : ∃ gP, gP = w3.heap.size := ⟨_, rfl⟩
            rw [← he4] at HPP4 hh4
            simp only [← he4]
            have hPL : gP ≠ gL := by omega
            have hhP := hh4
            clear he4 hlt4 hl_gL4
            have HPP := HPP4
            have HLL := Lib.hid (row_below A4.out HLL.out)
            refine wpAnyH_ready (rs := [0]) (by kernel_rfl) (by simp) ?_
            refine (AllReadyH.cons rfl (fun K hK => ?_) AllReadyH.nil)
            go_simp
            have HS0 : Hid (Below W11.heap.size W11 (w4.alloc (.cells #[.string ⟨#[97]⟩, .string ⟨#[98]⟩] 9))) := HS4.out.alloc HS4.out.size _
            have A0 := Lib.hid ((Below.refl w4.heap.size w4).alloc (Nat.le_refl _) (.cells #[.string ⟨#[97]⟩, .string ⟨#[98]⟩] 9))
            have HNN0 : Hid ((w4.alloc (.cells #[.string ⟨#[97]⟩, .string ⟨#[98]⟩] 9)).heap[w4.heap.size]? = some (.cells (tcells ab) 9 (0, 0))) := alloc_at w4 _
            have hh0 : W11.heap.size ≤ w4.heap.size := HS4.out.size
            refine hK.out _ _ HS0.out (fun hHeld => ?_)
            clear hK K
            try simp only [List.getElem_toArray, List.getElem_cons_succ, List.getElem_cons_zero, Act.put, List.setIfInBounds_toArray, List.set_cons_zero, List.set_cons_succ]
            generalize w4.alloc (.cells #[.string ⟨#[97]⟩, .string ⟨#[98]⟩] 9) = w0 at HS0 A0 HNN0 hHeld ⊢
            have hlt0 : w4.heap.size < w0.heap.size := (Array.getElem?_eq_some_iff.1 HNN0.out).1
            have hl_gL0 : gL < w4.heap.size := (Array.getElem?_eq_some_iff.1 HLL.out).1
            have hl_gP0 : gP < w4.heap.size := (Array.getElem?_eq_some_iff.1 HPP.out).1
            obtain ⟨gN, he0⟩ : ∃ gN, gN = w4.heap.size := ⟨_, rfl⟩
            rw [← he0] at HNN0 hh0
            simp only [← he0]
            have hNL : gN ≠ gL := by omega
            have hhN := hh0
            clear he0 hlt0 hl_gL0 hl_gP0
            have HNN := HNN0
            have HLL := Lib.hid (row_below A0.out HLL.out)
            have HPP := Lib.hid (row_below A0.out HPP.out)
            refine wpAnyH_take (i := 5) (v := Value.agg #[.int .i64 9, .string ⟨#[]⟩, .slice (some ⟨gN, 0, none⟩) 2 2, .slice (some ⟨gP, 0, none⟩) 3 3]) rfl (by kernel_rfl) (by kernel_rfl) (by kernel_rfl) (fun _ _ _ h => h) (Or.inl ⟨rfl, fun w' hw' => ?_⟩) hHeld ?_
            · go_simp
            simp only [List.getElem_toArray, List.getElem_cons_succ, List.getElem_cons_zero, Act.put, List.setIfInBounds_toArray, List.set_cons_zero, List.set_cons_succ]
            refine wpAnyH_ready (rs := [7]) (by kernel_rfl) (by simp) ?_
            refine (AllReadyH.cons rfl (fun K hK => ?_) AllReadyH.nil)
            have hone7 : (#[.int .i64 9, .string ⟨#[]⟩, .slice (some ⟨gN, 0, none⟩) 2 2, .slice (some ⟨gP, 0, none⟩) 3 3] : Array Value).all (·.oneCell') = true := by simp [Value.oneCell']
            have HS7 : Hid (Below W11.heap.size W11 (w0.setRow gL #[.int .i64 9, .string ⟨#[]⟩, .slice (some ⟨gN, 0, none⟩) 2 2, .slice (some ⟨gP, 0, none⟩) 3 3])) := Below.setRowUp HS0.out _ _ hhL
            have HFN := Lib.hid (HREST.out w0 gN gP gL HS0.out HNN.out HPP.out HLL.out hhL hNL hPL)
            refine wp_store_row 28 _ _ rfl gL #[.int .i64 9, .string ⟨#[]⟩, .slice (some ⟨gN, 0, none⟩) 2 2, .slice (some ⟨gP, 0, none⟩) 3 3] (by go_simp) rfl 28 Z4 HLL.out info28 rfl hone7 ?_
            refine hK.out _ _ HS7.out (fun hHeld => ?_)
            clear hK K
            try simp only [List.getElem_toArray, List.getElem_cons_succ, List.getElem_cons_zero, Act.put, List.setIfInBounds_toArray, List.set_cons_zero, List.set_cons_succ]
            refine wpAnyH_done (by kernel_rfl) ?_ _
            refine NoPanic.normal ?_
            clear hHeld
            exact HRR.out _ _ _ _ _ _ _ _ _ _ _ _ _ _ _ _ _ _ _ _ _ _ _ _ _ _ _ _ _ _ _ _ gN gP gL HFN.out
end Go.Proofs.Ytpkcoplpfenliaa
