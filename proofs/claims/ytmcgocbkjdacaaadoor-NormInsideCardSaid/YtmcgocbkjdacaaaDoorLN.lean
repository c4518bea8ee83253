/- The walk of NormInside. -/
import Derived.Test.YtmcgocbkjdacaaaDoorNK
import Derived.Test.YtmcgocbkjdacaaaDoorTM4
import Derived.Test.YtmcgocbkjdacaaaDoorRE
import Derived.Test.YtmcgocbkjdacaaaDoorW18
namespace Go.Proofs.YtmcgocbkjdacaaaDoor
open Go.RowKit Go.BigM
set_option linter.unusedVariables false
set_option linter.unusedSimpArgs false
def ec : Et := .mk 2 ⟨#[35, 116]⟩ [] []
def elam (e : Et) : Et := .mk 6 ⟨#[]⟩ [⟨#[117]⟩] [e]
def eif (e : Et) : Et := .mk 8 ⟨#[]⟩ [] [e, ec, ec]
def enot (e : Et) : Et := .mk 10 ⟨#[110, 111, 116]⟩ [] [e]
def eapp (e : Et) : Et := .mk 7 ⟨#[]⟩ [] [e, ec]
def erows (e : Et) : List Et := [elam e, eif e, enot e, ebind ⟨#[117]⟩ e ec, eapp e]
theorem erows_nrm (e : Et) (r : Nat) (h : r < 5) : ∃ k t ns a ps, (erows e)[r]'(by simpa [erows] using h) = .mk k t ns a ∧ (((erows e)[r]'(by simpa [erows] using h)).nrm 0).2 = .mk k t ns ((e.nrm 0).2 :: ps) ∧ ps.length + 1 = a.length := by
  have hc : ∀ n, ec.nrm n = (n, ec) := fun n => by unfold ec; rw [nrm_mk, nrms_nil]; rfl
  have ha : ec.atom = true := by decide
  match r, h with
  | 0, _ => exact ⟨6, _, _, _, [], rfl, by simp [erows, elam, nrm_mk, nrms_cons, nrms_nil, slot, lets], rfl⟩
  | 1, _ => exact ⟨8, _, _, _, [ec, ec], rfl, by simp [erows, eif, nrm_mk, nrms_cons, nrms_nil, slot, lets, hc], rfl⟩
  | 2, _ => exact ⟨10, _, _, _, [], rfl, by simp [erows, enot, nrm_mk, nrms_cons, nrms_nil, slot, lets, Lib.toList_data], rfl⟩
  | 3, _ => exact ⟨9, _, _, _, [ec], rfl, by simp [erows, ebind, nrm_mk, nrms_cons, nrms_nil, slot, lets, hc], rfl⟩
  | 4, _ => exact ⟨7, _, _, _, [ec], rfl, by simp [erows, eapp, nrm_mk, nrms_cons, nrms_nil, slot, lets, hc, ha], rfl⟩
theorem ec_fine : ec.fine := by unfold ec; rw [fine_mk]; exact ⟨by decide, by simp, by simp, by simp⟩
theorem erows_fine (e : Et) (he : e.fine) : ∀ d ∈ erows e, d.fine := by
  have hc := ec_fine
  intro d hd
  simp only [erows, List.mem_cons, List.not_mem_nil, or_false] at hd
  rcases hd with rfl | rfl | rfl | rfl | rfl
  · unfold elam; rw [fine_mk]; exact ⟨by decide, by simp, by simp; decide, by simp; exact he⟩
  · unfold eif; rw [fine_mk]; exact ⟨by decide, by simp, by simp, by simp; exact ⟨he, hc⟩⟩
  · unfold enot; rw [fine_mk]; exact ⟨by decide, by simp, by simp, by simp; exact he⟩
  · unfold ebind; rw [fine_mk]; exact ⟨by decide, by simp, by simp; decide, by simp; exact ⟨he, hc⟩⟩
  · unfold eapp; rw [fine_mk]; exact ⟨by decide, by simp, by simp, by simp; exact ⟨he, hc⟩⟩
theorem erows_size (e : Et) (N : Nat) (he : e.size ≤ N) : ∀ d ∈ erows e, d.size ≤ N + 3 := by
  have hc : ec.size = 1 := by decide
  intro d hd
  simp only [erows, List.mem_cons, List.not_mem_nil, or_false] at hd
  rcases hd with rfl | rfl | rfl | rfl | rfl <;> simp [elam, eif, enot, ebind, eapp, Et.size, Et.sizes, hc] <;> omega
theorem EAt_node {S : Nat → Prop} {w : World} {k kd : Int} {t td : ByteArray} {ns : List ByteArray} {a : List Et} {nv av : Value} (h : Et.At S w (.mk k t ns a) #[.int .i64 kd, .string td, nv, av]) : kd = k ∧ td = t ∧ NAt S w nv ns ∧ AAt S w av a := by
  rw [EAt_mk] at h
  obtain ⟨nv', av', e, h1, h2⟩ := h
  simp only [Array.mk.injEq, List.cons.injEq, Value.int.injEq, Value.string.injEq, and_true, true_and] at e
  obtain ⟨rfl, rfl, rfl, rfl⟩ := e
  exact ⟨rfl, rfl, h1, h2⟩
def LNt (e : Et) : Nat → Sh
  | 0 => .n [⟨#[117]⟩]
  | 1 => .t e
  | 2 => .r [e]
  | 3 => .t (elam e)
  | 4 => .t e
  | 5 => .t ec
  | 6 => .t ec
  | 7 => .r [e, ec, ec]
  | 8 => .t (eif e)
  | 9 => .t e
  | 10 => .r [e]
  | 11 => .t (enot e)
  | 12 => .t e
  | 13 => .t ec
  | 14 => .t (ebind ⟨#[117]⟩ e ec)
  | 15 => .t e
  | 16 => .t ec
  | 17 => .r [e, ec]
  | 18 => .t (eapp e)
  | 19 => .r (erows e)
  | _ => .r (erows e)
set_option maxHeartbeats 8000000 in
set_option maxRecDepth 100000 in
theorem inside_walk (l : List Rw) (ao0 : Option Addr) (cap : Nat) (at_ : Int) (w : World) (hR : RsAt w ao0 l) (hI : I64 at_) (ht : Tab w) : Calls Tryd.prog 8 #[.slice ao0 l.length cap, .int .i64 at_] w (RetBool true w) := by
  have K0 := Lib.hid (known_any w ht)
  have HR := Lib.hid hR
  have HT := Lib.hid ht
  clear hR ht
  go_enter Tryd.func8, Tryd.ntmps8
  go_wp2_with fail
  refine K0.out.mono ?_
  rintro e w1 ⟨rfl, hb1⟩
  have HR1 := Lib.hid (HR.out.below hb1)
  have HB1 := Lib.hid hb1
  replace HT := Lib.hid (HT.out.below hb1)
  have HFE := Lib.hid (few_any l ao0 cap w1 HR1.out)
  clear hb1 K0
  go_wp2_with fail
  refine HFE.out.mono ?_
  rintro e w2 ⟨r, rfl, hr, rfl⟩
  cases r with
  | false =>
    go_wp2_with fail
    go_ret
    exact ⟨rfl, HB1.out⟩
  | true =>
    have HTM := Lib.hid (term_any l ao0 cap w1 HR1.out (hr rfl))
    clear hr HFE
    go_upto_region 5 with fail
    go_wp2_with fail
    refine HTM.out.mono ?_
    rintro e w5 ⟨cs, e, m', rfl, hat, hM, hsz, hm', hb5⟩
    obtain ⟨k0, t0, no0, nn0, nc0, ao1, an0, ac0, rfl⟩ := EAt_sl hat
    have z0 : (#[.int .i64 k0, .string t0, .slice no0 nn0 nc0, .slice ao1 an0 ac0] : Array Value).all (·.oneCell') = true := by simp [Value.oneCell']
    have hb5w : Below w.heap.size w w5 := HB1.out.trans (hb5.mono HB1.out.size)
    have A6 := (Below.refl w5.heap.size w5).alloc (Nat.le_refl _) (.cells #[.int .i64 k0, .string t0, .slice no0 nn0 nc0, .slice ao1 an0 ac0] 28)
    have HB6 := Lib.hid (hb5w.trans (A6.mono hb5w.size))
    have HAT := Lib.hid (Et.At.mono (T := fun _ => True) (fun _ _ => trivial) _ _ (Et.At.keeps (Keeps.of_below A6) _ _ hat))
    have HE0 : Hid (EB (w5.alloc (.cells #[.int .i64 k0, .string t0, .slice no0 nn0 nc0, .slice ao1 an0 ac0] 28)) w5.heap.size k0 t0 (.slice no0 nn0 nc0) (.slice ao1 an0 ac0)) := alloc_at _ _
    have HM := Lib.hid hM
    have HT6 := Lib.hid ((HT.out.below hb5).below A6)
    have hth := thick_lt e
    have hts : e.thick ≤ 400 := by omega
    clear hat hM hb5 hb5w A6 HTM HT hth
    go_upto_region 6 with (refine wpList_store_row rfl 28 _ _ rfl w5.heap.size #[.int .i64 k0, .string t0, .slice no0 nn0 nc0, .slice ao1 an0 ac0] rfl rfl 28 Z4 (alloc_at _ _) info28 rfl z0 ?_)
    try simp only [Act.put]
    have EE : (w5.alloc (.cells #[.int .i64 0, .string ⟨#[]⟩, .slice none 0 0, .slice none 0 0] 28)).setRow w5.heap.size #[.int .i64 k0, .string t0, .slice no0 nn0 nc0, .slice ao1 an0 ac0] = w5.alloc (.cells #[.int .i64 k0, .string t0, .slice no0 nn0 nc0, .slice ao1 an0 ac0] 28) := setRow_new _ _ _ _
    try rw [EE]
    clear EE
    generalize w5.alloc (.cells #[.int .i64 k0, .string t0, .slice no0 nn0 nc0, .slice ao1 an0 ac0] 28) = W6 at HB6 HAT HE0 HT6 ⊢
    generalize w5.heap.size = ge at HE0 ⊢
    have HI := Lib.hid hI
    clear hI
    have HN := Lib.hid (norm_any e HM.out.fine (by omega) (by omega) _ _ W6 HAT.out HT6.out)
    go_wp2_with (refine wpList_load_row rfl 28 _ rfl ge rfl 28 #[.int .i64 k0, .string t0, .slice no0 nn0 nc0, .slice ao1 an0 ac0] (0, 0) _ HE0.out Tryd.underlying28 rfl info28 ?_)
    refine HN.out.mono ?_
    rintro r w7 ⟨cs, rfl, hat7, hb7⟩
    obtain ⟨k1, t1, no1, nn1, nc1, ao2, an1, ac1, rfl⟩ := EAt_sl hat7
    have z1 : (#[.int .i64 k1, .string t1, .slice no1 nn1 nc1, .slice ao2 an1 ac1] : Array Value).all (·.oneCell') = true := by simp [Value.oneCell']
    have A8 := (Below.refl w7.heap.size w7).alloc (Nat.le_refl _) (.cells #[.int .i64 k1, .string t1, .slice no1 nn1 nc1, .slice ao2 an1 ac1] 28)
    have hb8 : Below W6.heap.size W6 (w7.alloc (.cells #[.int .i64 k1, .string t1, .slice no1 nn1 nc1, .slice ao2 an1 ac1] 28)) := hb7.trans (A8.mono hb7.size)
    have HB8 := Lib.hid (HB6.out.trans (hb8.mono HB6.out.size))
    have HAX := Lib.hid (Et.At.mono (T := fun _ => True) (fun _ _ => trivial) _ _ (Et.At.keeps (Keeps.of_below A8) _ _ hat7))
    replace HAT := Lib.hid (Et.At.keeps (Keeps.of_below hb8) _ _ HAT.out)
    have HX0 : Hid (EB (w7.alloc (.cells #[.int .i64 k1, .string t1, .slice no1 nn1 nc1, .slice ao2 an1 ac1] 28)) w7.heap.size k1 t1 (.slice no1 nn1 nc1) (.slice ao2 an1 ac1)) := alloc_at _ _
    replace HE0 : Hid (EB (w7.alloc (.cells #[.int .i64 k1, .string t1, .slice no1 nn1 nc1, .slice ao2 an1 ac1] 28)) ge k0 t0 (.slice no0 nn0 nc0) (.slice ao1 an0 ac0)) := row_below hb8 HE0.out
    have HT8 := Lib.hid (HT6.out.below hb8)
    have hxs := (nrm_f e 0).size
    have HXF := Lib.hid (nrm_fine e HM.out.fine 0 (by omega))
    have HNF := Lib.hid (nrm_f e 0)
    obtain ⟨x, hx⟩ : ∃ x, x = (e.nrm 0).2 := ⟨_, rfl⟩
    rw [← hx] at HAX hxs HXF
    have HXD := Lib.hid hx
    clear hat7 hb7 A8 hb8 HN HT6 HB6 hx
    go_upto_region 7 with (refine wpList_store_row rfl 28 _ _ rfl w7.heap.size #[.int .i64 k1, .string t1, .slice no1 nn1 nc1, .slice ao2 an1 ac1] rfl rfl 28 Z4 (alloc_at _ _) info28 rfl z1 ?_)
    try simp only [Act.put]
    have EE : (w7.alloc (.cells #[.int .i64 0, .string ⟨#[]⟩, .slice none 0 0, .slice none 0 0] 28)).setRow w7.heap.size #[.int .i64 k1, .string t1, .slice no1 nn1 nc1, .slice ao2 an1 ac1] = w7.alloc (.cells #[.int .i64 k1, .string t1, .slice no1 nn1 nc1, .slice ao2 an1 ac1] 28) := setRow_new _ _ _ _
    try rw [EE]
    clear EE
    generalize w7.alloc (.cells #[.int .i64 k1, .string t1, .slice no1 nn1 nc1, .slice ao2 an1 ac1] 28) = W8 at HB8 HAX HAT HX0 HE0 HT8 ⊢
    generalize w7.heap.size = gx at HX0 ⊢
    have HCE : Hid (∀ w', Below W8.heap.size W8 w' → w'.cell? ⟨ge, 0, none⟩ = some (.int .i64 k0) ∧ w'.cell? ⟨ge, 1, none⟩ = some (.string t0) ∧ w'.cell? ⟨ge, 2, none⟩ = some (.slice no0 nn0 nc0) ∧ w'.cell? ⟨ge, 3, none⟩ = some (.slice ao1 an0 ac0)) := fun w' hw' => EB.cell w' ge _ _ _ _ (row_below hw' HE0.out)
    have HCX : Hid (∀ w', Below W8.heap.size W8 w' → w'.cell? ⟨gx, 0, none⟩ = some (.int .i64 k1) ∧ w'.cell? ⟨gx, 1, none⟩ = some (.string t1) ∧ w'.cell? ⟨gx, 2, none⟩ = some (.slice no1 nn1 nc1) ∧ w'.cell? ⟨gx, 3, none⟩ = some (.slice ao2 an1 ac1)) := fun w' hw' => EB.cell w' gx _ _ _ _ (row_below hw' HX0.out)
    have A9 := (Below.refl W8.heap.size W8).alloc (Nat.le_refl _) (.cells #[.int .i64 2, .string ⟨#[35, 116]⟩, .slice none 0 0, .slice none 0 0] 28)
    have HB9 := Lib.hid (HB8.out.trans (A9.mono HB8.out.size))
    have HBX := Lib.hid A9
    have HC0 : Hid (EB (W8.alloc (.cells #[.int .i64 2, .string ⟨#[35, 116]⟩, .slice none 0 0, .slice none 0 0] 28)) W8.heap.size 2 ⟨#[35, 116]⟩ (.slice none 0 0) (.slice none 0 0)) := alloc_at _ _
    replace HE0 : Hid (EB (W8.alloc (.cells #[.int .i64 2, .string ⟨#[35, 116]⟩, .slice none 0 0, .slice none 0 0] 28)) ge k0 t0 (.slice no0 nn0 nc0) (.slice ao1 an0 ac0)) := row_below A9 HE0.out
    have HAT9 := Lib.hid (Et.At.keeps (Keeps.of_below A9) _ _ HAT.out)
    have HT9 := Lib.hid (HT8.out.below A9)
    have HAX9 := Lib.hid (Et.At.keeps (Keeps.of_below A9) _ _ HAX.out)
    replace HX0 : Hid (EB (W8.alloc (.cells #[.int .i64 2, .string ⟨#[35, 116]⟩, .slice none 0 0, .slice none 0 0] 28)) gx k1 t1 (.slice no1 nn1 nc1) (.slice ao2 an1 ac1)) := row_below A9 HX0.out
    have HCT : Hid (Et.At (fun _ => True) (W8.alloc (.cells #[.int .i64 2, .string ⟨#[35, 116]⟩, .slice none 0 0, .slice none 0 0] 28)) ec #[.int .i64 2, .string ⟨#[35, 116]⟩, .slice none 0 0, .slice none 0 0]) := leaf_at _ _ 2 ⟨#[35, 116]⟩
    clear A9
    go_upto_region 8 with fail
    rename_i K hK
    generalize W8.alloc (.cells #[.int .i64 2, .string ⟨#[35, 116]⟩, .slice none 0 0, .slice none 0 0] 28) = W9 at HB9 HBX HC0 HCT HE0 HAT9 HT9 HAX9 HX0 ⊢
    generalize W8.heap.size = gc at HC0 ⊢
    refine wp_region_noPanic ?_
    refine wp_region_list 84 [] _ (fun j v w => (LNt e j).ok v w) (by kernel_rfl) (by kernel_rfl) (by kernel_rfl) (by kernel_rfl) rfl (slots_of _ _ 84 rfl) (fun j v w1 w2 h hb => Sh.below (s := LNt e j) h hb) ?_ ?_
    · refine ⟨?_, ?_, ?_, ?_, ?_, ?_, ?_, ?_, ?_, ?_, ?_, ?_, ?_, ?_, ?_, ?_, ?_, ?_, ?_, ?_, ?_, trivial⟩
      all_goals (simp only [])
      · intro f w1 hw hf hd K hK
        exact wp_nm1 ⟨#[117]⟩ rfl hK
      · intro f w1 hw hf hd K hK
        have q : f 5 = .pointer (some ⟨ge, 0, none⟩) := hf 5 (by kernel_rfl)
        exact wp_ldE (.tmp 5) rfl ge ((slots_eval [] f (show 5 < 84 by decide)).trans q) (e) _ (row_below hw HE0.out) (Et.At.keeps (Keeps.of_below hw) _ _ HAT9.out) hK
      · intro f w1 hw hf hd K hK
        have h22 := hd ⟨1, .data⟩ (by simp) rfl _ rfl
        have h22 : (Sh.t e).ok (f 22) w1 := h22
        rw [← slots_eval [] f (show 22 < 84 by decide)] at h22
        exact wp_row1 (.tmp 22) rfl _ h22 hK
      · intro f w1 hw hf hd K hK
        have h21 := hd ⟨0, .data⟩ (by simp) rfl _ rfl
        have h21 : (Sh.n [⟨#[117]⟩]).ok (f 21) w1 := h21
        rw [← slots_eval [] f (show 21 < 84 by decide)] at h21
        have h23 := hd ⟨2, .data⟩ (by simp) rfl _ rfl
        have h23 : (Sh.r [e]).ok (f 23) w1 := h23
        rw [← slots_eval [] f (show 23 < 84 by decide)] at h23
        exact wp_bld_l 6 (.tmp 21) (.tmp 23) rfl _ h21 _ h23 hK
      · intro f w1 hw hf hd K hK
        have q : f 5 = .pointer (some ⟨ge, 0, none⟩) := hf 5 (by kernel_rfl)
        exact wp_ldE (.tmp 5) rfl ge ((slots_eval [] f (show 5 < 84 by decide)).trans q) (e) _ (row_below hw HE0.out) (Et.At.keeps (Keeps.of_below hw) _ _ HAT9.out) hK
      · intro f w1 hw hf hd K hK
        have q : f 7 = .pointer (some ⟨gc, 0, none⟩) := hf 7 (by kernel_rfl)
        exact wp_ldE (.tmp 7) rfl gc ((slots_eval [] f (show 7 < 84 by decide)).trans q) (ec) _ (row_below hw HC0.out) (Et.At.keeps (Keeps.of_below hw) _ _ HCT.out) hK
      · intro f w1 hw hf hd K hK
        have q : f 7 = .pointer (some ⟨gc, 0, none⟩) := hf 7 (by kernel_rfl)
        exact wp_ldE (.tmp 7) rfl gc ((slots_eval [] f (show 7 < 84 by decide)).trans q) (ec) _ (row_below hw HC0.out) (Et.At.keeps (Keeps.of_below hw) _ _ HCT.out) hK
      · intro f w1 hw hf hd K hK
        have h25 := hd ⟨4, .data⟩ (by simp) rfl _ rfl
        have h25 : (Sh.t e).ok (f 25) w1 := h25
        rw [← slots_eval [] f (show 25 < 84 by decide)] at h25
        have h26 := hd ⟨5, .data⟩ (by simp) rfl _ rfl
        have h26 : (Sh.t ec).ok (f 26) w1 := h26
        rw [← slots_eval [] f (show 26 < 84 by decide)] at h26
        have h27 := hd ⟨6, .data⟩ (by simp) rfl _ rfl
        have h27 : (Sh.t ec).ok (f 27) w1 := h27
        rw [← slots_eval [] f (show 27 < 84 by decide)] at h27
        exact wp_row3 (.tmp 25) (.tmp 26) (.tmp 27) rfl _ _ _ h25 h26 h27 hK
      · intro f w1 hw hf hd K hK
        have h28 := hd ⟨7, .data⟩ (by simp) rfl _ rfl
        have h28 : (Sh.r [e, ec, ec]).ok (f 28) w1 := h28
        rw [← slots_eval [] f (show 28 < 84 by decide)] at h28
        exact wp_bld_a 8 (.tmp 28) rfl _ h28 hK
      · intro f w1 hw hf hd K hK
        have q : f 5 = .pointer (some ⟨ge, 0, none⟩) := hf 5 (by kernel_rfl)
        exact wp_ldE (.tmp 5) rfl ge ((slots_eval [] f (show 5 < 84 by decide)).trans q) (e) _ (row_below hw HE0.out) (Et.At.keeps (Keeps.of_below hw) _ _ HAT9.out) hK
      · intro f w1 hw hf hd K hK
        have h30 := hd ⟨9, .data⟩ (by simp) rfl _ rfl
        have h30 : (Sh.t e).ok (f 30) w1 := h30
        rw [← slots_eval [] f (show 30 < 84 by decide)] at h30
        exact wp_row1 (.tmp 30) rfl _ h30 hK
      · intro f w1 hw hf hd K hK
        have h31 := hd ⟨10, .data⟩ (by simp) rfl _ rfl
        have h31 : (Sh.r [e]).ok (f 31) w1 := h31
        rw [← slots_eval [] f (show 31 < 84 by decide)] at h31
        exact wp_bld_p 10 ⟨#[110, 111, 116]⟩ (.tmp 31) rfl _ h31 hK
      · intro f w1 hw hf hd K hK
        have q : f 5 = .pointer (some ⟨ge, 0, none⟩) := hf 5 (by kernel_rfl)
        exact wp_ldE (.tmp 5) rfl ge ((slots_eval [] f (show 5 < 84 by decide)).trans q) (e) _ (row_below hw HE0.out) (Et.At.keeps (Keeps.of_below hw) _ _ HAT9.out) hK
      · intro f w1 hw hf hd K hK
        have q : f 7 = .pointer (some ⟨gc, 0, none⟩) := hf 7 (by kernel_rfl)
        exact wp_ldE (.tmp 7) rfl gc ((slots_eval [] f (show 7 < 84 by decide)).trans q) (ec) _ (row_below hw HC0.out) (Et.At.keeps (Keeps.of_below hw) _ _ HCT.out) hK
      · intro f w1 hw hf hd K hK
        have h33 := hd ⟨12, .data⟩ (by simp) rfl _ rfl
        have h33 : (Sh.t e).ok (f 33) w1 := h33
        rw [← slots_eval [] f (show 33 < 84 by decide)] at h33
        have h34 := hd ⟨13, .data⟩ (by simp) rfl _ rfl
        have h34 : (Sh.t ec).ok (f 34) w1 := h34
        rw [← slots_eval [] f (show 34 < 84 by decide)] at h34
        obtain ⟨c33, e33, h33⟩ := h33
        obtain ⟨c34, e34, h34⟩ := h34
        refine wp_call1 27 _ _ rfl (RetBind (fun _ => True) ⟨#[117]⟩ e ec w1) Tryd.func27 (by kernel_rfl) rfl #[.string ⟨#[117]⟩, .agg c33, .agg c34] (by rw [← e33, ← e34]; simp only [List.map_toArray, List.map_cons, List.map_nil]; rfl) (bind_any ⟨#[117]⟩ e ec (fun _ => True) c33 c34 w1 h33 h34) ?_
        rintro r w2 ⟨cs, rfl, hat, hbq⟩
        exact ⟨_, rfl, hK _ _ hbq ⟨cs, rfl, Et.At.mono (fun _ _ => trivial) _ _ hat⟩⟩
      · intro f w1 hw hf hd K hK
        have q : f 5 = .pointer (some ⟨ge, 0, none⟩) := hf 5 (by kernel_rfl)
        exact wp_ldE (.tmp 5) rfl ge ((slots_eval [] f (show 5 < 84 by decide)).trans q) (e) _ (row_below hw HE0.out) (Et.At.keeps (Keeps.of_below hw) _ _ HAT9.out) hK
      · intro f w1 hw hf hd K hK
        have q : f 7 = .pointer (some ⟨gc, 0, none⟩) := hf 7 (by kernel_rfl)
        exact wp_ldE (.tmp 7) rfl gc ((slots_eval [] f (show 7 < 84 by decide)).trans q) (ec) _ (row_below hw HC0.out) (Et.At.keeps (Keeps.of_below hw) _ _ HCT.out) hK
      · intro f w1 hw hf hd K hK
        have h36 := hd ⟨15, .data⟩ (by simp) rfl _ rfl
        have h36 : (Sh.t e).ok (f 36) w1 := h36
        rw [← slots_eval [] f (show 36 < 84 by decide)] at h36
        have h37 := hd ⟨16, .data⟩ (by simp) rfl _ rfl
        have h37 : (Sh.t ec).ok (f 37) w1 := h37
        rw [← slots_eval [] f (show 37 < 84 by decide)] at h37
        exact wp_row2 (.tmp 36) (.tmp 37) rfl _ _ h36 h37 hK
      · intro f w1 hw hf hd K hK
        have h38 := hd ⟨17, .data⟩ (by simp) rfl _ rfl
        have h38 : (Sh.r [e, ec]).ok (f 38) w1 := h38
        rw [← slots_eval [] f (show 38 < 84 by decide)] at h38
        exact wp_bld_a 7 (.tmp 38) rfl _ h38 hK
      · intro f w1 hw hf hd K hK
        have h24 := hd ⟨3, .data⟩ (by simp) rfl _ rfl
        have h24 : (Sh.t (elam e)).ok (f 24) w1 := h24
        rw [← slots_eval [] f (show 24 < 84 by decide)] at h24
        have h29 := hd ⟨8, .data⟩ (by simp) rfl _ rfl
        have h29 : (Sh.t (eif e)).ok (f 29) w1 := h29
        rw [← slots_eval [] f (show 29 < 84 by decide)] at h29
        have h32 := hd ⟨11, .data⟩ (by simp) rfl _ rfl
        have h32 : (Sh.t (enot e)).ok (f 32) w1 := h32
        rw [← slots_eval [] f (show 32 < 84 by decide)] at h32
        have h35 := hd ⟨14, .data⟩ (by simp) rfl _ rfl
        have h35 : (Sh.t (ebind ⟨#[117]⟩ e ec)).ok (f 35) w1 := h35
        rw [← slots_eval [] f (show 35 < 84 by decide)] at h35
        have h39 := hd ⟨18, .data⟩ (by simp) rfl _ rfl
        have h39 : (Sh.t (eapp e)).ok (f 39) w1 := h39
        rw [← slots_eval [] f (show 39 < 84 by decide)] at h39
        exact wp_row5 (.tmp 24) (.tmp 29) (.tmp 32) (.tmp 35) (.tmp 39) rfl _ _ _ _ _ h24 h29 h32 h35 h39 hK
      · intro f w1 hw hf hd K hK
        have h40 := hd ⟨19, .data⟩ (by simp) rfl _ rfl
        have h40 : (Sh.r (erows e)).ok (f 40) w1 := h40
        rw [← slots_eval [] f (show 40 < 84 by decide)] at h40
        exact wp_mv (.tmp 40) (.inl rfl) (Sh.r (erows e)) h40 hK
    · intro f w10 hw hf hT
      have hr : AAt (fun _ => True) w10 (f 8) (erows e) := hT 20 _ rfl
      obtain ⟨ar, cr, q8⟩ := AAt.form hr
      rw [q8] at hr
      replace q8 : f 8 = .slice ar 5 cr := q8
      have q0 : f 0 = .slice ao0 l.length cap := hf 0 (by kernel_rfl)
      have q1 : f 1 = .int .i64 at_ := hf 1 (by kernel_rfl)
      have q5 : f 5 = .pointer (some ⟨ge, 0, none⟩) := hf 5 (by kernel_rfl)
      have q6 : f 6 = .pointer (some ⟨gx, 0, none⟩) := hf 6 (by kernel_rfl)
      have HRW : Hid (AAt (fun _ => True) w10 (.slice ar 5 cr) (erows e)) := hr
      have HBW := Lib.hid (HB9.out.trans (hw.mono HB9.out.size))
      have HT10 := Lib.hid (HT9.out.below hw)
      have HAX10 := Lib.hid (Et.At.keeps (Keeps.of_below hw) _ _ HAX9.out)
      have HX10 : Hid (EB w10 gx k1 t1 (.slice no1 nn1 nc1) (.slice ao2 an1 ac1)) := row_below hw HX0.out
      refine hK _ _ ?_
      rw [show slots 84 [] f = { tmps := #[f 0, f 1, f 2, f 3, f 4, f 5, f 6, f 7, f 8, f 9, f 10, f 11, f 12, f 13, f 14, f 15, f 16, f 17, f 18, f 19, f 20, f 21, f 22, f 23, f 24, f 25, f 26, f 27, f 28, f 29, f 30, f 31, f 32, f 33, f 34, f 35, f 36, f 37, f 38, f 39, f 40, f 41, f 42, f 43, f 44, f 45, f 46, f 47, f 48, f 49, f 50, f 51, f 52, f 53, f 54, f 55, f 56, f 57, f 58, f 59, f 60, f 61, f 62, f 63, f 64, f 65, f 66, f 67, f 68, f 69, f 70, f 71, f 72, f 73, f 74, f 75, f 76, f 77, f 78, f 79, f 80, f 81, f 82, f 83], defers := [] } from rfl]
      simp only [q0, q1, q5, q6, q8]
      clear hT hf hr q0 q1 q5 q6 q8 hw hK K HB9 HBX HCT HE0 HAT9 HT9 HAX9 HX0 HC0 HCE HCX HAX HT8 HB8
      clear HAT
      go_wp2_with fail
      refine (within18_some at_ 5 HI.out (by omega) (by omega) w10).mono ?_
      rintro r9 w11 ⟨r, hr5, rfl, rfl⟩
      obtain ⟨k, t, ns, a, ps, hd, hn, hps⟩ := erows_nrm e r hr5
      have hlr : r < (erows e).length := hr5
      obtain ⟨g, o, kd, td, nvd, avd, rfl, hS, -, hat, e0, e1, e2, e3, o1', o2'⟩ := HRW.out.get r hlr
      have hfd := erows_fine e HM.out.fine _ (List.getElem_mem hlr)
      have hsd := erows_size e 400 hsz _ (List.getElem_mem hlr)
      have htd := thick_lt (erows e)[r]
      have HN := Lib.hid (norm_any (erows e)[r] hfd (by omega) (by omega) _ _ w10 hat HT10.out)
      rw [hd] at hat
      obtain ⟨rfl, rfl, hnv9, hav9⟩ := EAt_node hat
      obtain ⟨no9, nc9, rfl⟩ := hnv9.form
      obtain ⟨ao9, ac9, rfl⟩ := hav9.form
      clear hnv9 hav9 hat hfd hsd htd hS
      have HE9 := Lib.hid (And.intro e0 e3)
      go_wp2_with fail
      refine HN.out.mono ?_
      rintro q w12 ⟨cs, rfl, haty, hby⟩
      rw [hn, ← HXD.out, EAt_mk] at haty
      obtain ⟨nvy, avy, rfl, hnvy, havy⟩ := haty
      obtain ⟨noy, ncy, rfl⟩ := hnvy.form
      obtain ⟨aoy, cy, rfl⟩ := havy.form
      obtain ⟨g2, o2, k2, t2, nv2, av2, rfl, -, -, hatp, f0, f1, f2, f3, o1'', o2''⟩ := havy.get 0 (by simp)
      have hlen : (x :: ps).length = a.length := by simp only [List.length_cons]; exact hps
      rw [hlen] at havy ⊢
      have hm0 : 0 < a.length := by omega
      obtain ⟨m, hm⟩ : ∃ m, a.length = m := ⟨_, rfl⟩
      rw [hm] at havy HE9 e3 o2' hm0 ⊢
      simp only [Nat.zero_mul, Nat.add_zero] at f0 f1 f2 f3
      have hatp : Et.At (fun _ => True) w12 x #[.int .i64 k2, .string t2, nv2, av2] := Et.At.mono (fun _ _ => trivial) _ _ hatp
      obtain ⟨k3, t3, no2, nn2, nc2, ao4, an2, ac2, e4⟩ := EAt_sl hatp
      simp only [Array.mk.injEq, List.cons.injEq, Value.int.injEq, Value.string.injEq, and_true, true_and] at e4
      obtain ⟨rfl, rfl, rfl, rfl⟩ := e4
      have A13 := (Below.refl w12.heap.size w12).alloc (Nat.le_refl _) (.cells #[.int .i64 kd, .string td, .slice noy ns.length ncy, .slice (some ⟨g2, o2, none⟩) m cy] 28)
      have hb13 := hby.trans (A13.mono hby.size)
      have HB13 := Lib.hid (HBW.out.trans (hb13.mono HBW.out.size))
      have HY0 : Hid (EB (w12.alloc (.cells #[.int .i64 kd, .string td, .slice noy ns.length ncy, .slice (some ⟨g2, o2, none⟩) m cy] 28)) w12.heap.size kd td (.slice noy ns.length ncy) (.slice (some ⟨g2, o2, none⟩) m cy)) := alloc_at _ _
      have HX13 : Hid (EB (w12.alloc (.cells #[.int .i64 kd, .string td, .slice noy ns.length ncy, .slice (some ⟨g2, o2, none⟩) m cy] 28)) gx k1 t1 (.slice no1 nn1 nc1) (.slice ao2 an1 ac1)) := row_below hb13 HX10.out
      have HAX13 := Lib.hid (Et.At.keeps (Keeps.of_below hb13) _ _ HAX10.out)
      have HAP13 := Lib.hid (Et.At.keeps (Keeps.of_below A13) _ _ hatp)
      have g0 := cell_below hb13 e0
      have g3 := cell_below hb13 e3
      have h0 := cell_below A13 f0
      have h1 := cell_below A13 f1
      have h2 := cell_below A13 f2
      have h3 := cell_below A13 f3
      have HSA := Lib.hid (same_any x x (by omega) HXF.out HXF.out _ _ _ _ (w12.alloc (.cells #[.int .i64 kd, .string td, .slice noy ns.length ncy, .slice (some ⟨g2, o2, none⟩) m cy] 28)) HAP13.out HAX13.out)
      have zy : (#[.int .i64 kd, .string td, .slice noy ns.length ncy, .slice (some ⟨g2, o2, none⟩) m cy] : Array Value).all (·.oneCell') = true := by simp [Value.oneCell']
      clear e0 e1 e2 e3 f0 f1 f2 f3 hatp havy hnvy hby A13 hb13 HN HE9 HRW o1' o2' o1'' o2'' hlen HBW HT10 HX10 HAX10
      go_upto_region 11 with (refine wpList_store_row rfl 28 _ _ rfl w12.heap.size #[.int .i64 kd, .string td, .slice noy ns.length ncy, .slice (some ⟨g2, o2, none⟩) m cy] rfl rfl 28 Z4 (alloc_at _ _) info28 rfl zy ?_)
      try simp only [Act.put]
      have EE : (w12.alloc (.cells #[.int .i64 0, .string ⟨#[]⟩, .slice none 0 0, .slice none 0 0] 28)).setRow w12.heap.size #[.int .i64 kd, .string td, .slice noy ns.length ncy, .slice (some ⟨g2, o2, none⟩) m cy] = w12.alloc (.cells #[.int .i64 kd, .string td, .slice noy ns.length ncy, .slice (some ⟨g2, o2, none⟩) m cy] 28) := setRow_new _ _ _ _
      try rw [EE]
      clear EE zy
      generalize w12.alloc (.cells #[.int .i64 kd, .string td, .slice noy ns.length ncy, .slice (some ⟨g2, o2, none⟩) m cy] 28) = W13 at HB13 HY0 HX13 HAX13 HAP13 g0 g3 h0 h1 h2 h3 HSA ⊢
      generalize w12.heap.size = gy at HY0 ⊢
      have HC : Hid (∀ w', Below W13.heap.size W13 w' → (w'.cell? ⟨gy, 0, none⟩ = some (.int .i64 kd) ∧ w'.cell? ⟨gy, 3, none⟩ = some (.slice (some ⟨g2, o2, none⟩) m cy)) ∧ (w'.cell? ⟨g, o + r * 4, none⟩ = some (.int .i64 kd) ∧ w'.cell? ⟨g, o + r * 4 + 3, none⟩ = some (.slice ao9 m ac9)) ∧
          (w'.cell? ⟨g2, o2, none⟩ = some (.int .i64 k2) ∧ w'.cell? ⟨g2, o2 + 1, none⟩ = some (.string t2) ∧ w'.cell? ⟨g2, o2 + 2, none⟩ = some (.slice no2 nn2 nc2) ∧ w'.cell? ⟨g2, o2 + 3, none⟩ = some (.slice ao4 an2 ac2)) ∧
          (w'.cell? ⟨gx, 0, none⟩ = some (.int .i64 k1) ∧ w'.cell? ⟨gx, 1, none⟩ = some (.string t1) ∧ w'.cell? ⟨gx, 2, none⟩ = some (.slice no1 nn1 nc1) ∧ w'.cell? ⟨gx, 3, none⟩ = some (.slice ao2 an1 ac1))) := fun w' hw' => by
        obtain ⟨y0, -, -, y3⟩ := EB.cell w' gy _ _ _ _ (row_below hw' HY0.out)
        exact ⟨⟨y0, y3⟩, ⟨cell_below hw' g0, cell_below hw' g3⟩, ⟨cell_below hw' h0, cell_below hw' h1, cell_below hw' h2, cell_below hw' h3⟩, EB.cell w' gx _ _ _ _ (row_below hw' HX13.out)⟩
      have HSX : Hid (∀ w', Below W13.heap.size W13 w' → Calls Tryd.prog 15 #[.agg #[.int .i64 k2, .string t2, .slice no2 nn2 nc2, .slice ao4 an2 ac2], .agg #[.int .i64 k1, .string t1, .slice no1 nn1 nc1, .slice ao2 an1 ac1]] w' (RetBool true w')) := fun w' hw' => by
        have h := same_any x x (by omega) HXF.out HXF.out _ _ _ _ w' (Et.At.keeps (Keeps.of_below hw') _ _ HAP13.out) (Et.At.keeps (Keeps.of_below hw') _ _ HAX13.out)
        rwa [(same_iff x x).2 rfl] at h
      clear g0 g3 h0 h1 h2 h3 HSA HX13 HAX13 HAP13 HY0 hps hd hn
      have HS0 : Hid (Below W13.heap.size W13 W13.drew) := (Below.refl _ _).drew
      refine wp_region_noPanic ?_
      refine wp_region_held_drew (S := Below W13.heap.size W13) (by kernel_rfl) HS0.out (fun hHeld => ?_)
      generalize W13.drew = X at HS0 hHeld ⊢
      refine wpAnyH_take (i := 0) (v := Value.pointer (some ⟨gy, 3, none⟩)) rfl (by kernel_rfl) (by kernel_rfl) (by kernel_rfl) (fun _ _ _ h => h) (Or.inl ⟨rfl, fun w' hw' => ?_⟩) hHeld ?_
      · go_simp
      simp only [List.getElem_toArray, List.getElem_cons_succ, List.getElem_cons_zero, Act.put, List.setIfInBounds_toArray, List.set_cons_zero, List.set_cons_succ]
      refine wpAnyH_take (i := 1) (v := Value.slice (some ⟨g2, o2, none⟩) m cy) rfl (by kernel_rfl) (by kernel_rfl) (by kernel_rfl) (fun _ _ _ h => h) (Or.inl ⟨rfl, fun w' hw' => ?_⟩) hHeld ?_
      · obtain ⟨⟨y0, y3⟩, ⟨g0, g3⟩, ⟨p0, p1, p2, p3⟩, ⟨x0, x1, x2, x3⟩⟩ := HC.out w' hw'; go_simp
      simp only [List.getElem_toArray, List.getElem_cons_succ, List.getElem_cons_zero, Act.put, List.setIfInBounds_toArray, List.set_cons_zero, List.set_cons_succ]
      refine wpAnyH_take (i := 2) (v := Value.int .i64 (m : Int)) rfl (by kernel_rfl) (by kernel_rfl) (by kernel_rfl) (fun _ _ _ h => h) (Or.inl ⟨rfl, fun w' hw' => ?_⟩) hHeld ?_
      · go_simp
      simp only [List.getElem_toArray, List.getElem_cons_succ, List.getElem_cons_zero, Act.put, List.setIfInBounds_toArray, List.set_cons_zero, List.set_cons_succ]
      refine wpAnyH_take (i := 3) (v := Value.bool true) rfl (by kernel_rfl) (by kernel_rfl) (by kernel_rfl) (fun _ _ _ h => h) (Or.inl ⟨rfl, fun w' hw' => ?_⟩) hHeld ?_
      · go_simp
      simp only [List.getElem_toArray, List.getElem_cons_succ, List.getElem_cons_zero, Act.put, List.setIfInBounds_toArray, List.set_cons_zero, List.set_cons_succ]
      refine wpAnyH_take (i := 4) (v := Value.bool true) rfl (by kernel_rfl) (by kernel_rfl) (by kernel_rfl) (fun _ _ _ h => h) (Or.inl ⟨rfl, fun w' hw' => ?_⟩) hHeld ?_
      · go_simp
      simp only [List.getElem_toArray, List.getElem_cons_succ, List.getElem_cons_zero, Act.put, List.setIfInBounds_toArray, List.set_cons_zero, List.set_cons_succ]
      refine wpAnyH_take (i := 5) (v := Value.pointer (some ⟨gy, 3, none⟩)) rfl (by kernel_rfl) (by kernel_rfl) (by kernel_rfl) (fun _ _ _ h => h) (Or.inl ⟨rfl, fun w' hw' => ?_⟩) hHeld ?_
      · go_simp
      simp only [List.getElem_toArray, List.getElem_cons_succ, List.getElem_cons_zero, Act.put, List.setIfInBounds_toArray, List.set_cons_zero, List.set_cons_succ]
      refine wpAnyH_take (i := 6) (v := Value.slice (some ⟨g2, o2, none⟩) m cy) rfl (by kernel_rfl) (by kernel_rfl) (by kernel_rfl) (fun _ _ _ h => h) (Or.inl ⟨rfl, fun w' hw' => ?_⟩) hHeld ?_
      · obtain ⟨⟨y0, y3⟩, ⟨g0, g3⟩, ⟨p0, p1, p2, p3⟩, ⟨x0, x1, x2, x3⟩⟩ := HC.out w' hw'; go_simp
      simp only [List.getElem_toArray, List.getElem_cons_succ, List.getElem_cons_zero, Act.put, List.setIfInBounds_toArray, List.set_cons_zero, List.set_cons_succ]
      refine wpAnyH_take (i := 7) (v := Value.pointer (some ⟨g2, o2, none⟩)) rfl (by kernel_rfl) (by kernel_rfl) (by kernel_rfl) (fun _ _ _ h => h) (Or.inl ⟨rfl, fun w' hw' => ?_⟩) hHeld ?_
      · go_simp
      simp only [List.getElem_toArray, List.getElem_cons_succ, List.getElem_cons_zero, Act.put, List.setIfInBounds_toArray, List.set_cons_zero, List.set_cons_succ]
      refine wpAnyH_take (i := 8) (v := Value.agg #[.int .i64 k2, .string t2, .slice no2 nn2 nc2, .slice ao4 an2 ac2]) rfl (by kernel_rfl) (by kernel_rfl) (by kernel_rfl) (fun _ _ _ h => h) (Or.inl ⟨rfl, fun w' hw' => ?_⟩) hHeld ?_
      · obtain ⟨⟨y0, y3⟩, ⟨g0, g3⟩, ⟨p0, p1, p2, p3⟩, ⟨x0, x1, x2, x3⟩⟩ := HC.out w' hw'; go_simp
      simp only [List.getElem_toArray, List.getElem_cons_succ, List.getElem_cons_zero, Act.put, List.setIfInBounds_toArray, List.set_cons_zero, List.set_cons_succ]
      refine wpAnyH_take (i := 9) (v := Value.agg #[.int .i64 k1, .string t1, .slice no1 nn1 nc1, .slice ao2 an1 ac1]) rfl (by kernel_rfl) (by kernel_rfl) (by kernel_rfl) (fun _ _ _ h => h) (Or.inl ⟨rfl, fun w' hw' => ?_⟩) hHeld ?_
      · obtain ⟨⟨y0, y3⟩, ⟨g0, g3⟩, ⟨p0, p1, p2, p3⟩, ⟨x0, x1, x2, x3⟩⟩ := HC.out w' hw'; go_simp
      simp only [List.getElem_toArray, List.getElem_cons_succ, List.getElem_cons_zero, Act.put, List.setIfInBounds_toArray, List.set_cons_zero, List.set_cons_succ]
      refine wpAnyH_ready (rs := [10]) (by kernel_rfl) (by simp) ?_
      refine (AllReadyH.cons rfl (fun K hK => ?_) AllReadyH.nil)
      go_simp
      refine (HSX.out _ HS0.out).mono ?_
      rintro r u10 ⟨rfl, hbq⟩
      have HS10 : Hid (Below W13.heap.size W13 u10) := HS0.out.trans (hbq.mono HS0.out.size)
      clear hbq
      refine hK.out _ _ HS10.out (fun hHeld => ?_)
      clear hK K
      try simp only [List.getElem_toArray, List.getElem_cons_succ, List.getElem_cons_zero, Act.put, List.setIfInBounds_toArray, List.set_cons_zero, List.set_cons_succ]
      refine wpAnyH_take (i := 11) (v := Value.bool true) rfl (by kernel_rfl) (by kernel_rfl) (by kernel_rfl) (fun _ _ _ h => h) (Or.inl ⟨rfl, fun w' hw' => ?_⟩) hHeld ?_
      · go_simp
      simp only [List.getElem_toArray, List.getElem_cons_succ, List.getElem_cons_zero, Act.put, List.setIfInBounds_toArray, List.set_cons_zero, List.set_cons_succ]
      refine wpAnyH_take (i := 12) (v := Value.bool true) rfl (by kernel_rfl) (by kernel_rfl) (by kernel_rfl) (fun _ _ _ h => h) (Or.inl ⟨rfl, fun w' hw' => ?_⟩) hHeld ?_
      · go_simp
      simp only [List.getElem_toArray, List.getElem_cons_succ, List.getElem_cons_zero, Act.put, List.setIfInBounds_toArray, List.set_cons_zero, List.set_cons_succ]
      refine wpAnyH_take (i := 13) (v := Value.pointer (some ⟨gy, 0, none⟩)) rfl (by kernel_rfl) (by kernel_rfl) (by kernel_rfl) (fun _ _ _ h => h) (Or.inl ⟨rfl, fun w' hw' => ?_⟩) hHeld ?_
      · go_simp
      simp only [List.getElem_toArray, List.getElem_cons_succ, List.getElem_cons_zero, Act.put, List.setIfInBounds_toArray, List.set_cons_zero, List.set_cons_succ]
      refine wpAnyH_take (i := 14) (v := Value.int .i64 kd) rfl (by kernel_rfl) (by kernel_rfl) (by kernel_rfl) (fun _ _ _ h => h) (Or.inl ⟨rfl, fun w' hw' => ?_⟩) hHeld ?_
      · obtain ⟨⟨y0, y3⟩, ⟨g0, g3⟩, ⟨p0, p1, p2, p3⟩, ⟨x0, x1, x2, x3⟩⟩ := HC.out w' hw'; go_simp
      simp only [List.getElem_toArray, List.getElem_cons_succ, List.getElem_cons_zero, Act.put, List.setIfInBounds_toArray, List.set_cons_zero, List.set_cons_succ]
      refine wpAnyH_take (i := 15) (v := Value.slice (some ⟨g, o, none⟩) 5 cr) rfl (by kernel_rfl) (by kernel_rfl) (by kernel_rfl) (fun _ _ _ h => h) (Or.inl ⟨rfl, fun w' hw' => ?_⟩) hHeld ?_
      · go_simp
      simp only [List.getElem_toArray, List.getElem_cons_succ, List.getElem_cons_zero, Act.put, List.setIfInBounds_toArray, List.set_cons_zero, List.set_cons_succ]
      refine wpAnyH_take (i := 16) (v := Value.int .i64 (r : Int)) rfl (by kernel_rfl) (by kernel_rfl) (by kernel_rfl) (fun _ _ _ h => h) (Or.inl ⟨rfl, fun w' hw' => ?_⟩) hHeld ?_
      · go_simp
      simp only [List.getElem_toArray, List.getElem_cons_succ, List.getElem_cons_zero, Act.put, List.setIfInBounds_toArray, List.set_cons_zero, List.set_cons_succ]
      refine wpAnyH_take (i := 17) (v := Value.pointer (some ⟨g, o + r * 4, none⟩)) rfl (by kernel_rfl) (by kernel_rfl) (by kernel_rfl) (fun _ _ _ h => h) (Or.inl ⟨rfl, fun w' hw' => ?_⟩) hHeld ?_
      · go_simp; intro hh; omega
      simp only [List.getElem_toArray, List.getElem_cons_succ, List.getElem_cons_zero, Act.put, List.setIfInBounds_toArray, List.set_cons_zero, List.set_cons_succ]
      refine wpAnyH_take (i := 18) (v := Value.pointer (some ⟨g, o + r * 4, none⟩)) rfl (by kernel_rfl) (by kernel_rfl) (by kernel_rfl) (fun _ _ _ h => h) (Or.inl ⟨rfl, fun w' hw' => ?_⟩) hHeld ?_
      · go_simp
      simp only [List.getElem_toArray, List.getElem_cons_succ, List.getElem_cons_zero, Act.put, List.setIfInBounds_toArray, List.set_cons_zero, List.set_cons_succ]
      refine wpAnyH_take (i := 19) (v := Value.int .i64 kd) rfl (by kernel_rfl) (by kernel_rfl) (by kernel_rfl) (fun _ _ _ h => h) (Or.inl ⟨rfl, fun w' hw' => ?_⟩) hHeld ?_
      · obtain ⟨⟨y0, y3⟩, ⟨g0, g3⟩, ⟨p0, p1, p2, p3⟩, ⟨x0, x1, x2, x3⟩⟩ := HC.out w' hw'; go_simp
      simp only [List.getElem_toArray, List.getElem_cons_succ, List.getElem_cons_zero, Act.put, List.setIfInBounds_toArray, List.set_cons_zero, List.set_cons_succ]
      refine wpAnyH_take (i := 20) (v := Value.bool true) rfl (by kernel_rfl) (by kernel_rfl) (by kernel_rfl) (fun _ _ _ h => h) (Or.inl ⟨rfl, fun w' hw' => ?_⟩) hHeld ?_
      · go_simp
      simp only [List.getElem_toArray, List.getElem_cons_succ, List.getElem_cons_zero, Act.put, List.setIfInBounds_toArray, List.set_cons_zero, List.set_cons_succ]
      refine wpAnyH_take (i := 21) (v := Value.bool true) rfl (by kernel_rfl) (by kernel_rfl) (by kernel_rfl) (fun _ _ _ h => h) (Or.inl ⟨rfl, fun w' hw' => ?_⟩) hHeld ?_
      · go_simp
      simp only [List.getElem_toArray, List.getElem_cons_succ, List.getElem_cons_zero, Act.put, List.setIfInBounds_toArray, List.set_cons_zero, List.set_cons_succ]
      refine wpAnyH_take (i := 22) (v := Value.bool true) rfl (by kernel_rfl) (by kernel_rfl) (by kernel_rfl) (fun _ _ _ h => h) (Or.inl ⟨rfl, fun w' hw' => ?_⟩) hHeld ?_
      · go_simp
      simp only [List.getElem_toArray, List.getElem_cons_succ, List.getElem_cons_zero, Act.put, List.setIfInBounds_toArray, List.set_cons_zero, List.set_cons_succ]
      refine wpAnyH_take (i := 23) (v := Value.pointer (some ⟨gy, 3, none⟩)) rfl (by kernel_rfl) (by kernel_rfl) (by kernel_rfl) (fun _ _ _ h => h) (Or.inl ⟨rfl, fun w' hw' => ?_⟩) hHeld ?_
      · go_simp
      simp only [List.getElem_toArray, List.getElem_cons_succ, List.getElem_cons_zero, Act.put, List.setIfInBounds_toArray, List.set_cons_zero, List.set_cons_succ]
      refine wpAnyH_take (i := 24) (v := Value.slice (some ⟨g2, o2, none⟩) m cy) rfl (by kernel_rfl) (by kernel_rfl) (by kernel_rfl) (fun _ _ _ h => h) (Or.inl ⟨rfl, fun w' hw' => ?_⟩) hHeld ?_
      · obtain ⟨⟨y0, y3⟩, ⟨g0, g3⟩, ⟨p0, p1, p2, p3⟩, ⟨x0, x1, x2, x3⟩⟩ := HC.out w' hw'; go_simp
      simp only [List.getElem_toArray, List.getElem_cons_succ, List.getElem_cons_zero, Act.put, List.setIfInBounds_toArray, List.set_cons_zero, List.set_cons_succ]
      refine wpAnyH_take (i := 25) (v := Value.int .i64 (m : Int)) rfl (by kernel_rfl) (by kernel_rfl) (by kernel_rfl) (fun _ _ _ h => h) (Or.inl ⟨rfl, fun w' hw' => ?_⟩) hHeld ?_
      · go_simp
      simp only [List.getElem_toArray, List.getElem_cons_succ, List.getElem_cons_zero, Act.put, List.setIfInBounds_toArray, List.set_cons_zero, List.set_cons_succ]
      refine wpAnyH_take (i := 26) (v := Value.slice (some ⟨g, o, none⟩) 5 cr) rfl (by kernel_rfl) (by kernel_rfl) (by kernel_rfl) (fun _ _ _ h => h) (Or.inl ⟨rfl, fun w' hw' => ?_⟩) hHeld ?_
      · go_simp
      simp only [List.getElem_toArray, List.getElem_cons_succ, List.getElem_cons_zero, Act.put, List.setIfInBounds_toArray, List.set_cons_zero, List.set_cons_succ]
      refine wpAnyH_take (i := 27) (v := Value.int .i64 (r : Int)) rfl (by kernel_rfl) (by kernel_rfl) (by kernel_rfl) (fun _ _ _ h => h) (Or.inl ⟨rfl, fun w' hw' => ?_⟩) hHeld ?_
      · go_simp
      simp only [List.getElem_toArray, List.getElem_cons_succ, List.getElem_cons_zero, Act.put, List.setIfInBounds_toArray, List.set_cons_zero, List.set_cons_succ]
      refine wpAnyH_take (i := 28) (v := Value.pointer (some ⟨g, o + r * 4, none⟩)) rfl (by kernel_rfl) (by kernel_rfl) (by kernel_rfl) (fun _ _ _ h => h) (Or.inl ⟨rfl, fun w' hw' => ?_⟩) hHeld ?_
      · go_simp; intro hh; omega
      simp only [List.getElem_toArray, List.getElem_cons_succ, List.getElem_cons_zero, Act.put, List.setIfInBounds_toArray, List.set_cons_zero, List.set_cons_succ]
      refine wpAnyH_take (i := 29) (v := Value.pointer (some ⟨g, o + r * 4 + 3, none⟩)) rfl (by kernel_rfl) (by kernel_rfl) (by kernel_rfl) (fun _ _ _ h => h) (Or.inl ⟨rfl, fun w' hw' => ?_⟩) hHeld ?_
      · go_simp
      simp only [List.getElem_toArray, List.getElem_cons_succ, List.getElem_cons_zero, Act.put, List.setIfInBounds_toArray, List.set_cons_zero, List.set_cons_succ]
      refine wpAnyH_take (i := 30) (v := Value.slice ao9 m ac9) rfl (by kernel_rfl) (by kernel_rfl) (by kernel_rfl) (fun _ _ _ h => h) (Or.inl ⟨rfl, fun w' hw' => ?_⟩) hHeld ?_
      · obtain ⟨⟨y0, y3⟩, ⟨g0, g3⟩, ⟨p0, p1, p2, p3⟩, ⟨x0, x1, x2, x3⟩⟩ := HC.out w' hw'; go_simp
      simp only [List.getElem_toArray, List.getElem_cons_succ, List.getElem_cons_zero, Act.put, List.setIfInBounds_toArray, List.set_cons_zero, List.set_cons_succ]
      refine wpAnyH_take (i := 31) (v := Value.int .i64 (m : Int)) rfl (by kernel_rfl) (by kernel_rfl) (by kernel_rfl) (fun _ _ _ h => h) (Or.inl ⟨rfl, fun w' hw' => ?_⟩) hHeld ?_
      · go_simp
      simp only [List.getElem_toArray, List.getElem_cons_succ, List.getElem_cons_zero, Act.put, List.setIfInBounds_toArray, List.set_cons_zero, List.set_cons_succ]
      refine wpAnyH_take (i := 32) (v := Value.bool true) rfl (by kernel_rfl) (by kernel_rfl) (by kernel_rfl) (fun _ _ _ h => h) (Or.inl ⟨rfl, fun w' hw' => ?_⟩) hHeld ?_
      · go_simp
      simp only [List.getElem_toArray, List.getElem_cons_succ, List.getElem_cons_zero, Act.put, List.setIfInBounds_toArray, List.set_cons_zero, List.set_cons_succ]
      refine wpAnyH_take (i := 33) (v := Value.bool true) rfl (by kernel_rfl) (by kernel_rfl) (by kernel_rfl) (fun _ _ _ h => h) (Or.inl ⟨rfl, fun w' hw' => ?_⟩) hHeld ?_
      · go_simp
      simp only [List.getElem_toArray, List.getElem_cons_succ, List.getElem_cons_zero, Act.put, List.setIfInBounds_toArray, List.set_cons_zero, List.set_cons_succ]
      refine wpAnyH_take (i := 34) (v := Value.bool true) rfl (by kernel_rfl) (by kernel_rfl) (by kernel_rfl) (fun _ _ _ h => h) (Or.inl ⟨rfl, fun w' hw' => ?_⟩) hHeld ?_
      · go_simp
      simp only [List.getElem_toArray, List.getElem_cons_succ, List.getElem_cons_zero, Act.put, List.setIfInBounds_toArray, List.set_cons_zero, List.set_cons_succ]
      refine wpAnyH_done (by kernel_rfl) ?_ _
      refine NoPanic.normal ?_
      clear hHeld
      have HD := Lib.hid (HB13.out.trans (HS10.out.mono HB13.out.size))
      go_wp2_with fail
      go_ret
      exact ⟨rfl, HD.out⟩
end Go.Proofs.YtmcgocbkjdacaaaDoor
