/- The walk of CoreKnown. -/
import Derived.Test.YtcalbcllmmoldaaRE
namespace Go.Proofs.Ytcalbcllmmoldaa
open Go.RowKit Go.BigM
set_option linter.unusedVariables false
set_option linter.unusedSimpArgs false
def kx : Et := .mk 5 ⟨#[120]⟩ [] []
def ky : Et := .mk 5 ⟨#[121]⟩ [] []
def ko : Et := .mk 1 ⟨#[53]⟩ [] []
def kt : Et := .mk 2 ⟨#[35, 116]⟩ [] []
def kn : Et := .mk 3 ⟨#[]⟩ [] []
def ka : Et := .mk 4 ⟨#[97]⟩ [] []
def kfv : Et := .mk 5 ⟨#[102]⟩ [] []
def kl0 : Et := .mk 6 ⟨#[]⟩ [⟨#[120]⟩, ⟨#[121]⟩] [kx]
def kl1 : Et := .mk 7 ⟨#[]⟩ [] [kx, ky, ko]
def kl2 : Et := .mk 8 ⟨#[]⟩ [] [kt, kx, ky]
def kl3 : Et := .mk 9 ⟨#[]⟩ [⟨#[120]⟩, ⟨#[121]⟩] [ko, kx, ky]
def kl4 : Et := .mk 10 ⟨#[99, 111, 110, 115]⟩ [] [ko, kn]
def kz : Et := .mk 6 ⟨#[]⟩ [⟨#[122]⟩] [kx]
def kl6 : Et := .mk 9 ⟨#[]⟩ [⟨#[102]⟩] [kz, kfv]
def kl : List Et := [kl0, kl1, kl2, kl3, kl4, ka, kl6]
def kw : List (List UInt8) := [[40, 108, 97, 109, 98, 100, 97, 32, 40, 120, 32, 121, 41, 32, 120, 41], [40, 120, 32, 121, 32, 53, 41], [40, 105, 102, 32, 35, 116, 32, 120, 32, 121, 41], [40, 108, 101, 116, 32, 40, 40, 120, 32, 53, 41, 32, 40, 121, 32, 120, 41, 41, 32, 121, 41], [40, 99, 111, 110, 115, 32, 53, 32, 40, 41, 41], [39, 97], [40, 108, 101, 116, 32, 40, 40, 102, 32, 40, 108, 97, 109, 98, 100, 97, 32, 40, 122, 41, 32, 120, 41, 41, 41, 32, 102, 41]]
def kfr : List (List ByteArray) := [[], [⟨#[120]⟩, ⟨#[121]⟩], [⟨#[120]⟩, ⟨#[121]⟩], [], [], [], [⟨#[120]⟩]]
def kfw : List (List UInt8) := [[], [120, 32, 121], [120, 32, 121], [], [], [], [120]]
def kwA : Array Value := (kw.map fun s => Value.string ⟨s.toArray⟩).toArray
def kfA : Array Value := (kfw.map fun s => Value.string ⟨s.toArray⟩).toArray
theorem kwA_get (r : Nat) (h : r < 7) : kwA[r]? = some (.string ⟨(kw.getD r []).toArray⟩) := by
  match r, h with
  | 0, _ => rfl
  | 1, _ => rfl
  | 2, _ => rfl
  | 3, _ => rfl
  | 4, _ => rfl
  | 5, _ => rfl
  | 6, _ => rfl
theorem kfA_get (r : Nat) (h : r < 7) : kfA[r]? = some (.string ⟨(kfw.getD r []).toArray⟩) := by
  match r, h with
  | 0, _ => rfl
  | 1, _ => rfl
  | 2, _ => rfl
  | 3, _ => rfl
  | 4, _ => rfl
  | 5, _ => rfl
  | 6, _ => rfl
theorem kl_wr0 : ∀ i : Fin 7, (kl[i.1]'i.2).wr = kw.getD i.1 [] := by decide +kernel
theorem kfr_jn : ∀ i : Fin 7, jn (kfr.getD i.1 []) = kfw.getD i.1 [] := by decide +kernel
theorem leafs : ∀ e ∈ [kx, ky, ko, kt, kn, ka, kfv], e.fine ∧ e.right num = true := by
  have hn : num ⟨#[53]⟩ = true := by decide
  intro e he
  simp only [List.mem_cons, List.not_mem_nil, or_false] at he
  rcases he with rfl | rfl | rfl | rfl | rfl | rfl | rfl <;> refine ⟨(fine_mk _ _ _ _).2 ⟨by decide, by simp, by simp, by simp⟩, ?_⟩ <;> simp [kx, ky, ko, kt, kn, ka, kfv, right_mk, Et.rights, shapeB, textB, namesB, partsB, Lib.toList_data, hn]
theorem kl_fine : ∀ e ∈ kl, e.fine := by
  have h := fun e he => (leafs e he).1
  have hx := h kx (by simp)
  have hy := h ky (by simp)
  have ho := h ko (by simp)
  have ht := h kt (by simp)
  have hn := h kn (by simp)
  have ha := h ka (by simp)
  have hf := h kfv (by simp)
  have hz : kz.fine := by unfold kz; rw [fine_mk]; exact ⟨by decide, by simp, by simp; decide, by simp; exact hx⟩
  intro e he
  simp only [kl, List.mem_cons, List.not_mem_nil, or_false] at he
  rcases he with rfl | rfl | rfl | rfl | rfl | rfl | rfl
  · unfold kl0; rw [fine_mk]; exact ⟨by decide, by simp, by simp; decide, by simp; exact hx⟩
  · unfold kl1; rw [fine_mk]; exact ⟨by decide, by simp, by simp, by simp; exact ⟨hx, hy, ho⟩⟩
  · unfold kl2; rw [fine_mk]; exact ⟨by decide, by simp, by simp, by simp; exact ⟨ht, hx, hy⟩⟩
  · unfold kl3; rw [fine_mk]; exact ⟨by decide, by simp, by simp; decide, by simp; exact ⟨ho, hx, hy⟩⟩
  · unfold kl4; rw [fine_mk]; exact ⟨by decide, by simp, by simp, by simp; exact ⟨ho, hn⟩⟩
  · exact ha
  · unfold kl6; rw [fine_mk]; exact ⟨by decide, by simp, by simp; decide, by simp; exact ⟨hz, hf⟩⟩
theorem kl_right : ∀ e ∈ kl, e.right num = true := by
  have hn : num ⟨#[53]⟩ = true := by decide
  intro e he
  simp only [kl, List.mem_cons, List.not_mem_nil, or_false] at he
  rcases he with rfl | rfl | rfl | rfl | rfl | rfl | rfl <;> simp [kl0, kl1, kl2, kl3, kl4, kl6, kz, kx, ky, ko, kt, kn, ka, kfv, right_mk, Et.rights, shapeB, textB, namesB, partsB, Lib.toList_data, arity, arityIn, prims, hn, Once]
theorem kl_size : ∀ e ∈ kl, e.size ≤ 20 := by
  intro e he
  simp only [kl, List.mem_cons, List.not_mem_nil, or_false] at he
  rcases he with rfl | rfl | rfl | rfl | rfl | rfl | rfl <;> simp [kl0, kl1, kl2, kl3, kl4, kl6, kz, kx, ky, ko, kt, kn, ka, kfv, Et.size, Et.sizes]
theorem kl_fr (r : Nat) (h : r < 7) (s : ByteArray) : (kl[r]'h).fr s ↔ s ∈ kfr.getD r [] := by
  match r, h with
  | 0, _ => simp [kl, kl0, kx, kfr, Et.fr, Et.frs]; intro h; subst h; simp
  | 1, _ => simp [kl, kl1, kx, ky, ko, kfr, Et.fr, Et.frs, eq_comm]
  | 2, _ => simp [kl, kl2, kx, ky, kt, kfr, Et.fr, Et.frs, eq_comm]
  | 3, _ => simp [kl, kl3, kx, ky, ko, kfr, Et.fr, Et.frs]; rintro (rfl | rfl) <;> simp
  | 4, _ => simp [kl, kl4, ko, kn, kfr, Et.fr, Et.frs]
  | 5, _ => simp [kl, ka, kfr, Et.fr, Et.frs]
  | 6, _ =>
    simp [kl, kl6, kz, kx, kfv, kfr, Et.fr, Et.frs]
    constructor
    · rintro ⟨h1 | h1, h2⟩
      · exact h1.1.symm
      · exact absurd h1.symm h2
    · rintro rfl
      exact ⟨.inl ⟨rfl, by decide⟩, by decide⟩
theorem kfr_small (r : Nat) (h : r < 7) : (∀ s ∈ kfr.getD r [], s.size ≤ 100) ∧ (kfr.getD r []).length ≤ 10000 := by
  match r, h with
  | 0, _ => exact ⟨by simp [kfr], by simp [kfr]⟩
  | 1, _ => exact ⟨by simp [kfr] <;> decide, by simp [kfr]⟩
  | 2, _ => exact ⟨by simp [kfr] <;> decide, by simp [kfr]⟩
  | 3, _ => exact ⟨by simp [kfr], by simp [kfr]⟩
  | 4, _ => exact ⟨by simp [kfr], by simp [kfr]⟩
  | 5, _ => exact ⟨by simp [kfr], by simp [kfr]⟩
  | 6, _ => exact ⟨by simp [kfr] <;> decide, by simp [kfr]⟩
theorem kfr_srt : ∀ i : Fin 7, Srt (kfr.getD i.1 []) := by
  unfold Srt
  decide +kernel
def CKt : Nat → Sh
  | 0 => .n [⟨#[120]⟩, ⟨#[121]⟩]
  | 1 => .t kx
  | 2 => .r [kx]
  | 3 => .t kl0
  | 4 => .t kx
  | 5 => .t ky
  | 6 => .t ko
  | 7 => .r [kx, ky, ko]
  | 8 => .t kl1
  | 9 => .t kt
  | 10 => .t kx
  | 11 => .t ky
  | 12 => .r [kt, kx, ky]
  | 13 => .t kl2
  | 14 => .n [⟨#[120]⟩, ⟨#[121]⟩]
  | 15 => .t ko
  | 16 => .t kx
  | 17 => .t ky
  | 18 => .r [ko, kx, ky]
  | 19 => .t kl3
  | 20 => .t ko
  | 21 => .t kn
  | 22 => .r [ko, kn]
  | 23 => .t kl4
  | 24 => .t ka
  | 25 => .n [⟨#[122]⟩]
  | 26 => .t kx
  | 27 => .r [kx]
  | 28 => .t kz
  | 29 => .t kfv
  | 30 => .t kl6
  | 31 => .r kl
  | _ => .r kl
set_option maxHeartbeats 8000000 in
set_option maxRecDepth 100000 in
theorem cknown_walk (which : Int) (w : World) (hI : I64 which) : Calls Try.prog 7 #[.int .i64 which] w (RetBool true w) := by
  have K0 := Lib.hid (known_any w)
  have HI := Lib.hid hI
  clear hI
  go_enter Try.func7, Try.ntmps7
  go_wp2_with fail
  refine K0.out.mono ?_
  rintro e w1 ⟨rfl, hb1⟩
  have HB1 := Lib.hid hb1
  clear hb1 K0
  go_wp2_with fail
  refine (var_any ⟨#[120]⟩ w1).mono ?_
  rintro e w2 ⟨rfl, hb2⟩
  go_wp2_with fail
  refine (var_any ⟨#[121]⟩ w2).mono ?_
  rintro e w3 ⟨rfl, hb3⟩
  have HB3 := Lib.hid (HB1.out.trans ((hb2.trans (hb3.mono hb2.size)).mono HB1.out.size))
  clear hb2 hb3
  have s1 : (w3.alloc (.cells #[.int .i64 5, .string ⟨#[120]⟩, .slice none 0 0, .slice none 0 0] 28)).heap.size = w3.heap.size + 1 := by simp
  have b1 := (Below.refl w3.heap.size w3).alloc (Nat.le_refl _) (.cells #[.int .i64 5, .string ⟨#[120]⟩, .slice none 0 0, .slice none 0 0] 28)
  have b2 := b1.alloc b1.size (.cells #[.int .i64 5, .string ⟨#[121]⟩, .slice none 0 0, .slice none 0 0] 28)
  have RX : Hid (EB ((w3.alloc (.cells #[.int .i64 5, .string ⟨#[120]⟩, .slice none 0 0, .slice none 0 0] 28)).alloc (.cells #[.int .i64 5, .string ⟨#[121]⟩, .slice none 0 0, .slice none 0 0] 28)) w3.heap.size 5 ⟨#[120]⟩ (.slice none 0 0) (.slice none 0 0)) := (Lib.alloc_old _ _ _ (by rw [s1]; omega)).trans (alloc_at w3 _)
  have RY : Hid (EB ((w3.alloc (.cells #[.int .i64 5, .string ⟨#[120]⟩, .slice none 0 0, .slice none 0 0] 28)).alloc (.cells #[.int .i64 5, .string ⟨#[121]⟩, .slice none 0 0, .slice none 0 0] 28)) (w3.heap.size + 1) 5 ⟨#[121]⟩ (.slice none 0 0) (.slice none 0 0)) := by
    have h := alloc_at (w3.alloc (.cells #[.int .i64 5, .string ⟨#[120]⟩, .slice none 0 0, .slice none 0 0] 28)) (.cells #[.int .i64 5, .string ⟨#[121]⟩, .slice none 0 0, .slice none 0 0] 28); rw [s1] at h; exact h
  have HB4 := Lib.hid (HB3.out.trans (b2.mono HB3.out.size))
  clear b1 b2 s1 HB1 HB3
  go_upto_region 4 with fail
  generalize (w3.alloc (.cells #[.int .i64 5, .string ⟨#[120]⟩, .slice none 0 0, .slice none 0 0] 28)).alloc (.cells #[.int .i64 5, .string ⟨#[121]⟩, .slice none 0 0, .slice none 0 0] 28) = W4 at RX RY HB4 ⊢
  generalize w3.heap.size + 1 = gy at RY ⊢
  generalize w3.heap.size = gx at RX ⊢
  have b1 := (Below.refl W4.heap.size W4).alloc (Nat.le_refl _) (.cells #[.int .i64 1, .string ⟨#[53]⟩, .slice none 0 0, .slice none 0 0] 28)
  have RO : Hid (EB (W4.alloc (.cells #[.int .i64 1, .string ⟨#[53]⟩, .slice none 0 0, .slice none 0 0] 28)) W4.heap.size 1 ⟨#[53]⟩ (.slice none 0 0) (.slice none 0 0)) := alloc_at _ _
  have HB5 := Lib.hid (HB4.out.trans (b1.mono HB4.out.size))
  replace RX : Hid (EB (W4.alloc (.cells #[.int .i64 1, .string ⟨#[53]⟩, .slice none 0 0, .slice none 0 0] 28)) gx 5 ⟨#[120]⟩ (.slice none 0 0) (.slice none 0 0)) := row_below b1 RX.out
  replace RY : Hid (EB (W4.alloc (.cells #[.int .i64 1, .string ⟨#[53]⟩, .slice none 0 0, .slice none 0 0] 28)) gy 5 ⟨#[121]⟩ (.slice none 0 0) (.slice none 0 0)) := row_below b1 RY.out
  clear b1 HB4
  go_upto_region 5 with fail
  rename_i K hK
  generalize W4.alloc (.cells #[.int .i64 1, .string ⟨#[53]⟩, .slice none 0 0, .slice none 0 0] 28) = W5 at RX RY RO HB5 ⊢
  generalize W4.heap.size = go at RO ⊢
  have AX : Hid (Et.At (fun _ => True) W5 kx #[.int .i64 5, .string ⟨#[120]⟩, .slice none 0 0, .slice none 0 0]) := leaf_at _ _ 5 ⟨#[120]⟩
  have AY : Hid (Et.At (fun _ => True) W5 ky #[.int .i64 5, .string ⟨#[121]⟩, .slice none 0 0, .slice none 0 0]) := leaf_at _ _ 5 ⟨#[121]⟩
  have AO : Hid (Et.At (fun _ => True) W5 ko #[.int .i64 1, .string ⟨#[53]⟩, .slice none 0 0, .slice none 0 0]) := leaf_at _ _ 1 ⟨#[53]⟩
  refine wp_region_noPanic ?_
  refine wp_region_list 83 [] _ (fun j v w => (CKt j).ok v w) (by kernel_rfl) (by kernel_rfl) (by kernel_rfl) (by kernel_rfl) rfl (slots_of _ _ 83 rfl) (fun j v w1 w2 h hb => Sh.below (s := CKt j) h hb) ?_ ?_
  · refine ⟨?_, ?_, ?_, ?_, ?_, ?_, ?_, ?_, ?_, ?_, ?_, ?_, ?_, ?_, ?_, ?_, ?_, ?_, ?_, ?_, ?_, ?_, ?_, ?_, ?_, ?_, ?_, ?_, ?_, ?_, ?_, ?_, ?_, trivial⟩
    all_goals (simp only [])
    · intro f w1 hw hf hd K hK
      exact wp_nm2 ⟨#[120]⟩ ⟨#[121]⟩ rfl hK
    · intro f w1 hw hf hd K hK
      have q : f 3 = .pointer (some ⟨gx, 0, none⟩) := hf 3 (by kernel_rfl)
      exact wp_ldE (.tmp 3) rfl gx ((slots_eval [] f (show 3 < 83 by decide)).trans q) (kx) _ (row_below hw RX.out) (Et.At.keeps (Keeps.of_below hw) _ _ AX.out) hK
    · intro f w1 hw hf hd K hK
      have h16 := hd ⟨1, .data⟩ (by simp) rfl _ rfl
      have h16 : (Sh.t kx).ok (f 16) w1 := h16
      rw [← slots_eval [] f (show 16 < 83 by decide)] at h16
      exact wp_row1 (.tmp 16) rfl _ h16 hK
    · intro f w1 hw hf hd K hK
      have h15 := hd ⟨0, .data⟩ (by simp) rfl _ rfl
      have h15 : (Sh.n [⟨#[120]⟩, ⟨#[121]⟩]).ok (f 15) w1 := h15
      rw [← slots_eval [] f (show 15 < 83 by decide)] at h15
      have h17 := hd ⟨2, .data⟩ (by simp) rfl _ rfl
      have h17 : (Sh.r [kx]).ok (f 17) w1 := h17
      rw [← slots_eval [] f (show 17 < 83 by decide)] at h17
      exact wp_bld_l 6 (.tmp 15) (.tmp 17) rfl _ h15 _ h17 hK
    · intro f w1 hw hf hd K hK
      have q : f 3 = .pointer (some ⟨gx, 0, none⟩) := hf 3 (by kernel_rfl)
      exact wp_ldE (.tmp 3) rfl gx ((slots_eval [] f (show 3 < 83 by decide)).trans q) (kx) _ (row_below hw RX.out) (Et.At.keeps (Keeps.of_below hw) _ _ AX.out) hK
    · intro f w1 hw hf hd K hK
      have q : f 4 = .pointer (some ⟨gy, 0, none⟩) := hf 4 (by kernel_rfl)
      exact wp_ldE (.tmp 4) rfl gy ((slots_eval [] f (show 4 < 83 by decide)).trans q) (ky) _ (row_below hw RY.out) (Et.At.keeps (Keeps.of_below hw) _ _ AY.out) hK
    · intro f w1 hw hf hd K hK
      have q : f 5 = .pointer (some ⟨go, 0, none⟩) := hf 5 (by kernel_rfl)
      exact wp_ldE (.tmp 5) rfl go ((slots_eval [] f (show 5 < 83 by decide)).trans q) (ko) _ (row_below hw RO.out) (Et.At.keeps (Keeps.of_below hw) _ _ AO.out) hK
    · intro f w1 hw hf hd K hK
      have h19 := hd ⟨4, .data⟩ (by simp) rfl _ rfl
      have h19 : (Sh.t kx).ok (f 19) w1 := h19
      rw [← slots_eval [] f (show 19 < 83 by decide)] at h19
      have h20 := hd ⟨5, .data⟩ (by simp) rfl _ rfl
      have h20 : (Sh.t ky).ok (f 20) w1 := h20
      rw [← slots_eval [] f (show 20 < 83 by decide)] at h20
      have h21 := hd ⟨6, .data⟩ (by simp) rfl _ rfl
      have h21 : (Sh.t ko).ok (f 21) w1 := h21
      rw [← slots_eval [] f (show 21 < 83 by decide)] at h21
      exact wp_row3 (.tmp 19) (.tmp 20) (.tmp 21) rfl _ _ _ h19 h20 h21 hK
    · intro f w1 hw hf hd K hK
      have h22 := hd ⟨7, .data⟩ (by simp) rfl _ rfl
      have h22 : (Sh.r [kx, ky, ko]).ok (f 22) w1 := h22
      rw [← slots_eval [] f (show 22 < 83 by decide)] at h22
      exact wp_bld_a 7 (.tmp 22) rfl _ h22 hK
    · intro f w1 hw hf hd K hK
      exact wp_bld_t 2 ⟨#[35, 116]⟩ rfl hK
    · intro f w1 hw hf hd K hK
      have q : f 3 = .pointer (some ⟨gx, 0, none⟩) := hf 3 (by kernel_rfl)
      exact wp_ldE (.tmp 3) rfl gx ((slots_eval [] f (show 3 < 83 by decide)).trans q) (kx) _ (row_below hw RX.out) (Et.At.keeps (Keeps.of_below hw) _ _ AX.out) hK
    · intro f w1 hw hf hd K hK
      have q : f 4 = .pointer (some ⟨gy, 0, none⟩) := hf 4 (by kernel_rfl)
      exact wp_ldE (.tmp 4) rfl gy ((slots_eval [] f (show 4 < 83 by decide)).trans q) (ky) _ (row_below hw RY.out) (Et.At.keeps (Keeps.of_below hw) _ _ AY.out) hK
    · intro f w1 hw hf hd K hK
      have h24 := hd ⟨9, .data⟩ (by simp) rfl _ rfl
      have h24 : (Sh.t kt).ok (f 24) w1 := h24
      rw [← slots_eval [] f (show 24 < 83 by decide)] at h24
      have h25 := hd ⟨10, .data⟩ (by simp) rfl _ rfl
      have h25 : (Sh.t kx).ok (f 25) w1 := h25
      rw [← slots_eval [] f (show 25 < 83 by decide)] at h25
      have h26 := hd ⟨11, .data⟩ (by simp) rfl _ rfl
      have h26 : (Sh.t ky).ok (f 26) w1 := h26
      rw [← slots_eval [] f (show 26 < 83 by decide)] at h26
      exact wp_row3 (.tmp 24) (.tmp 25) (.tmp 26) rfl _ _ _ h24 h25 h26 hK
    · intro f w1 hw hf hd K hK
      have h27 := hd ⟨12, .data⟩ (by simp) rfl _ rfl
      have h27 : (Sh.r [kt, kx, ky]).ok (f 27) w1 := h27
      rw [← slots_eval [] f (show 27 < 83 by decide)] at h27
      exact wp_bld_a 8 (.tmp 27) rfl _ h27 hK
    · intro f w1 hw hf hd K hK
      exact wp_nm2 ⟨#[120]⟩ ⟨#[121]⟩ rfl hK
    · intro f w1 hw hf hd K hK
      have q : f 5 = .pointer (some ⟨go, 0, none⟩) := hf 5 (by kernel_rfl)
      exact wp_ldE (.tmp 5) rfl go ((slots_eval [] f (show 5 < 83 by decide)).trans q) (ko) _ (row_below hw RO.out) (Et.At.keeps (Keeps.of_below hw) _ _ AO.out) hK
    · intro f w1 hw hf hd K hK
      have q : f 3 = .pointer (some ⟨gx, 0, none⟩) := hf 3 (by kernel_rfl)
      exact wp_ldE (.tmp 3) rfl gx ((slots_eval [] f (show 3 < 83 by decide)).trans q) (kx) _ (row_below hw RX.out) (Et.At.keeps (Keeps.of_below hw) _ _ AX.out) hK
    · intro f w1 hw hf hd K hK
      have q : f 4 = .pointer (some ⟨gy, 0, none⟩) := hf 4 (by kernel_rfl)
      exact wp_ldE (.tmp 4) rfl gy ((slots_eval [] f (show 4 < 83 by decide)).trans q) (ky) _ (row_below hw RY.out) (Et.At.keeps (Keeps.of_below hw) _ _ AY.out) hK
    · intro f w1 hw hf hd K hK
      have h30 := hd ⟨15, .data⟩ (by simp) rfl _ rfl
      have h30 : (Sh.t ko).ok (f 30) w1 := h30
      rw [← slots_eval [] f (show 30 < 83 by decide)] at h30
      have h31 := hd ⟨16, .data⟩ (by simp) rfl _ rfl
      have h31 : (Sh.t kx).ok (f 31) w1 := h31
      rw [← slots_eval [] f (show 31 < 83 by decide)] at h31
      have h32 := hd ⟨17, .data⟩ (by simp) rfl _ rfl
      have h32 : (Sh.t ky).ok (f 32) w1 := h32
      rw [← slots_eval [] f (show 32 < 83 by decide)] at h32
      exact wp_row3 (.tmp 30) (.tmp 31) (.tmp 32) rfl _ _ _ h30 h31 h32 hK
    · intro f w1 hw hf hd K hK
      have h29 := hd ⟨14, .data⟩ (by simp) rfl _ rfl
      have h29 : (Sh.n [⟨#[120]⟩, ⟨#[121]⟩]).ok (f 29) w1 := h29
      rw [← slots_eval [] f (show 29 < 83 by decide)] at h29
      have h33 := hd ⟨18, .data⟩ (by simp) rfl _ rfl
      have h33 : (Sh.r [ko, kx, ky]).ok (f 33) w1 := h33
      rw [← slots_eval [] f (show 33 < 83 by decide)] at h33
      exact wp_bld_l 9 (.tmp 29) (.tmp 33) rfl _ h29 _ h33 hK
    · intro f w1 hw hf hd K hK
      have q : f 5 = .pointer (some ⟨go, 0, none⟩) := hf 5 (by kernel_rfl)
      exact wp_ldE (.tmp 5) rfl go ((slots_eval [] f (show 5 < 83 by decide)).trans q) (ko) _ (row_below hw RO.out) (Et.At.keeps (Keeps.of_below hw) _ _ AO.out) hK
    · intro f w1 hw hf hd K hK
      exact wp_bld_k 3 rfl hK
    · intro f w1 hw hf hd K hK
      have h35 := hd ⟨20, .data⟩ (by simp) rfl _ rfl
      have h35 : (Sh.t ko).ok (f 35) w1 := h35
      rw [← slots_eval [] f (show 35 < 83 by decide)] at h35
      have h36 := hd ⟨21, .data⟩ (by simp) rfl _ rfl
      have h36 : (Sh.t kn).ok (f 36) w1 := h36
      rw [← slots_eval [] f (show 36 < 83 by decide)] at h36
      exact wp_row2 (.tmp 35) (.tmp 36) rfl _ _ h35 h36 hK
    · intro f w1 hw hf hd K hK
      have h37 := hd ⟨22, .data⟩ (by simp) rfl _ rfl
      have h37 : (Sh.r [ko, kn]).ok (f 37) w1 := h37
      rw [← slots_eval [] f (show 37 < 83 by decide)] at h37
      exact wp_bld_p 10 ⟨#[99, 111, 110, 115]⟩ (.tmp 37) rfl _ h37 hK
    · intro f w1 hw hf hd K hK
      exact wp_bld_t 4 ⟨#[97]⟩ rfl hK
    · intro f w1 hw hf hd K hK
      exact wp_nm1 ⟨#[122]⟩ rfl hK
    · intro f w1 hw hf hd K hK
      have q : f 3 = .pointer (some ⟨gx, 0, none⟩) := hf 3 (by kernel_rfl)
      exact wp_ldE (.tmp 3) rfl gx ((slots_eval [] f (show 3 < 83 by decide)).trans q) (kx) _ (row_below hw RX.out) (Et.At.keeps (Keeps.of_below hw) _ _ AX.out) hK
    · intro f w1 hw hf hd K hK
      have h41 := hd ⟨26, .data⟩ (by simp) rfl _ rfl
      have h41 : (Sh.t kx).ok (f 41) w1 := h41
      rw [← slots_eval [] f (show 41 < 83 by decide)] at h41
      exact wp_row1 (.tmp 41) rfl _ h41 hK
    · intro f w1 hw hf hd K hK
      have h40 := hd ⟨25, .data⟩ (by simp) rfl _ rfl
      have h40 : (Sh.n [⟨#[122]⟩]).ok (f 40) w1 := h40
      rw [← slots_eval [] f (show 40 < 83 by decide)] at h40
      have h42 := hd ⟨27, .data⟩ (by simp) rfl _ rfl
      have h42 : (Sh.r [kx]).ok (f 42) w1 := h42
      rw [← slots_eval [] f (show 42 < 83 by decide)] at h42
      exact wp_bld_l 6 (.tmp 40) (.tmp 42) rfl _ h40 _ h42 hK
    · intro f w1 hw hf hd K hK
      refine wp_call1 31 _ _ rfl _ Try.func31 (by kernel_rfl) rfl #[.string ⟨#[102]⟩] (by simp only [List.map_toArray, List.map_cons, List.map_nil]; rfl) (var_any ⟨#[102]⟩ w1) ?_
      rintro r w2 ⟨rfl, hbq⟩
      exact ⟨_, rfl, hK _ _ hbq ⟨_, rfl, leaf_at _ _ 5 ⟨#[102]⟩⟩⟩
    · intro f w1 hw hf hd K hK
      have h43 := hd ⟨28, .data⟩ (by simp) rfl _ rfl
      have h43 : (Sh.t kz).ok (f 43) w1 := h43
      rw [← slots_eval [] f (show 43 < 83 by decide)] at h43
      have h44 := hd ⟨29, .data⟩ (by simp) rfl _ rfl
      have h44 : (Sh.t kfv).ok (f 44) w1 := h44
      rw [← slots_eval [] f (show 44 < 83 by decide)] at h44
      obtain ⟨c43, e43, h43⟩ := h43
      obtain ⟨c44, e44, h44⟩ := h44
      refine wp_call1 29 _ _ rfl (RetBind ⟨#[102]⟩ kz kfv w1) Try.func29 (by kernel_rfl) rfl #[.string ⟨#[102]⟩, .agg c43, .agg c44] (by rw [← e43, ← e44]; simp only [List.map_toArray, List.map_cons, List.map_nil]; rfl) (bind_any ⟨#[102]⟩ kz kfv (fun _ => True) c43 c44 w1 h43 h44) ?_
      rintro r w2 ⟨cs, rfl, hat, hbq⟩
      exact ⟨_, rfl, hK _ _ hbq ⟨cs, rfl, hat⟩⟩
    · intro f w1 hw hf hd K hK
      have h18 := hd ⟨3, .data⟩ (by simp) rfl _ rfl
      have h18 : (Sh.t kl0).ok (f 18) w1 := h18
      rw [← slots_eval [] f (show 18 < 83 by decide)] at h18
      have h23 := hd ⟨8, .data⟩ (by simp) rfl _ rfl
      have h23 : (Sh.t kl1).ok (f 23) w1 := h23
      rw [← slots_eval [] f (show 23 < 83 by decide)] at h23
      have h28 := hd ⟨13, .data⟩ (by simp) rfl _ rfl
      have h28 : (Sh.t kl2).ok (f 28) w1 := h28
      rw [← slots_eval [] f (show 28 < 83 by decide)] at h28
      have h34 := hd ⟨19, .data⟩ (by simp) rfl _ rfl
      have h34 : (Sh.t kl3).ok (f 34) w1 := h34
      rw [← slots_eval [] f (show 34 < 83 by decide)] at h34
      have h38 := hd ⟨23, .data⟩ (by simp) rfl _ rfl
      have h38 : (Sh.t kl4).ok (f 38) w1 := h38
      rw [← slots_eval [] f (show 38 < 83 by decide)] at h38
      have h39 := hd ⟨24, .data⟩ (by simp) rfl _ rfl
      have h39 : (Sh.t ka).ok (f 39) w1 := h39
      rw [← slots_eval [] f (show 39 < 83 by decide)] at h39
      have h45 := hd ⟨30, .data⟩ (by simp) rfl _ rfl
      have h45 : (Sh.t kl6).ok (f 45) w1 := h45
      rw [← slots_eval [] f (show 45 < 83 by decide)] at h45
      exact wp_row7 (.tmp 18) (.tmp 23) (.tmp 28) (.tmp 34) (.tmp 38) (.tmp 39) (.tmp 45) rfl _ _ _ _ _ _ _ h18 h23 h28 h34 h38 h39 h45 hK
    · intro f w1 hw hf hd K hK
      have h46 := hd ⟨31, .data⟩ (by simp) rfl _ rfl
      have h46 : (Sh.r kl).ok (f 46) w1 := h46
      rw [← slots_eval [] f (show 46 < 83 by decide)] at h46
      exact wp_mv (.tmp 46) (.inl rfl) (Sh.r kl) h46 hK
  · intro f w8 hw hf hT
    have hr : AAt (fun _ => True) w8 (f 6) kl := hT 32 _ rfl
    obtain ⟨ar, cr, q6⟩ := AAt.form hr
    rw [q6] at hr
    replace q6 : f 6 = .slice ar 7 cr := q6
    have q0 : f 0 = .int .i64 which := hf 0 (by kernel_rfl)
    have HRW : Hid (AAt (fun _ => True) w8 (.slice ar 7 cr) kl) := hr
    have HBW := Lib.hid (HB5.out.trans (hw.mono HB5.out.size))
    refine NoPanic.normal ?_
    refine hK _ _ ?_
    rw [show slots 83 [] f = { tmps := #[f 0, f 1, f 2, f 3, f 4, f 5, f 6, f 7, f 8, f 9, f 10, f 11, f 12, f 13, f 14, f 15, f 16, f 17, f 18, f 19, f 20, f 21, f 22, f 23, f 24, f 25, f 26, f 27, f 28, f 29, f 30, f 31, f 32, f 33, f 34, f 35, f 36, f 37, f 38, f 39, f 40, f 41, f 42, f 43, f 44, f 45, f 46, f 47, f 48, f 49, f 50, f 51, f 52, f 53, f 54, f 55, f 56, f 57, f 58, f 59, f 60, f 61, f 62, f 63, f 64, f 65, f 66, f 67, f 68, f 69, f 70, f 71, f 72, f 73, f 74, f 75, f 76, f 77, f 78, f 79, f 80, f 81, f 82], defers := [] } from rfl]
    simp only [q0, q6]
    clear hT hf hr q0 q6 hw hK K HB5 RX RY RO AX AY AO
    go_upto_region 7 with fail
    generalize hW9 : w8.alloc (.cells _ 9) = W9
    have hb9 : Below w8.heap.size w8 W9 := by rw [← hW9]; exact (Below.refl _ _).alloc (Nat.le_refl _) _
    have hk9 : W9.heap[w8.heap.size]? = some (.cells kwA 9 (0, 0)) := by rw [← hW9]; exact alloc_at w8 _
    have HK9 := Lib.hid hk9
    have HB9 := Lib.hid (HBW.out.trans (hb9.mono HBW.out.size))
    replace HRW := Lib.hid (AAt.keeps HRW.out (Keeps.of_below hb9))
    clear hb9 hk9 hW9 HBW
    generalize w8.heap.size = gw at HK9 ⊢
    go_upto_region 8 with fail
    generalize hW10 : W9.alloc (.cells _ 9) = W10
    have hb9 : Below W9.heap.size W9 W10 := by rw [← hW10]; exact (Below.refl _ _).alloc (Nat.le_refl _) _
    have hk9 : W10.heap[W9.heap.size]? = some (.cells kfA 9 (0, 0)) := by rw [← hW10]; exact alloc_at W9 _
    have HF9 := Lib.hid hk9
    replace HK9 := Lib.hid (row_below hb9 HK9.out)
    have HB10 := Lib.hid (HB9.out.trans (hb9.mono HB9.out.size))
    replace HRW := Lib.hid (AAt.keeps HRW.out (Keeps.of_below hb9))
    clear hb9 hk9 hW10 HB9
    generalize W9.heap.size = gv at HF9 ⊢
    go_wp2_with fail
    refine (within_some which 7 HI.out (by omega) (by omega) W10).mono ?_
    rintro r9 w11 ⟨r, hr6, rfl, rfl⟩
    have hlr : r < kl.length := hr6
    obtain ⟨g, o, kd, td, nvd, avd, rfl, hS, -, hat, e0, e1, e2, e3, o1', o2'⟩ := HRW.out.get r hlr
    have hfd := kl_fine _ (List.getElem_mem hlr)
    have hrd := kl_right _ (List.getElem_mem hlr)
    have hsd := kl_size _ (List.getElem_mem hlr)
    obtain ⟨nod, nnd, ncd, aod, ad, cd, rfl, rfl⟩ : ∃ nod nnd ncd aod ad cd, nvd = .slice nod nnd ncd ∧ avd = .slice aod ad cd := by
      obtain ⟨k3, t3, no2, nn2, nc2, ao4, an2, ac2, e4⟩ := EAt_sl hat
      simp only [Array.mk.injEq, List.cons.injEq, Value.int.injEq, Value.string.injEq, and_true, true_and] at e4
      exact ⟨_, _, _, _, _, _, e4.2.2.1, e4.2.2.2⟩
    obtain ⟨sv, hsv⟩ : ∃ sv : ByteArray, sv = ⟨(kw.getD r []).toArray⟩ := ⟨_, rfl⟩
    obtain ⟨fv, hfv⟩ : ∃ sv : ByteArray, sv = ⟨(kfw.getD r []).toArray⟩ := ⟨_, rfl⟩
    have HTX : Hid (∀ w', Below W10.heap.size W10 w' → Calls Try.prog 19 #[.agg #[.int .i64 kd, .string td, .slice nod nnd ncd, .slice aod ad cd]] w' (RetStr sv w')) := fun w' hw' => by
      have h2 := text_any kl[r] hrd hfd (by omega) _ _ w' (Et.At.keeps (Keeps.of_below hw') _ _ hat)
      have e9 : (kl[r]'hlr).wr = kw.getD r [] := kl_wr0 ⟨r, hr6⟩
      rw [e9, ← hsv] at h2
      exact h2
    have HFR : Hid (∀ w', Below W10.heap.size W10 w' → Calls Try.prog 22 #[.agg #[.int .i64 kd, .string td, .slice nod nnd ncd, .slice aod ad cd]] w' (fun e w2 => ∃ ao c, e = .returned (.slice ao (kfr.getD r []).length c) ∧ NAt (fun _ => True) w2 (.slice ao (kfr.getD r []).length c) (kfr.getD r []) ∧ Below w'.heap.size w' w2)) := fun w' hw' => by
      refine (free_any kl[r] hfd (by omega) _ _ w' (Et.At.keeps (Keeps.of_below hw') _ _ hat)).mono ?_
      rintro e w2 ⟨v, L, rfl, hn, hs, hm, hb⟩
      have hL : L = kfr.getD r [] := srt_ext hs (kfr_srt ⟨r, hr6⟩) (fun s => (hm s).trans (kl_fr r hr6 s))
      subst hL
      obtain ⟨ao, c, rfl⟩ := hn.form
      exact ⟨ao, c, rfl, hn.mono (fun _ _ => trivial), hb⟩
    have HNM : Hid (∀ w' ao c, NAt (fun _ => True) w' (.slice ao (kfr.getD r []).length c) (kfr.getD r []) → Calls Try.prog 32 #[.slice ao (kfr.getD r []).length c] w' (RetStr fv w')) := fun w' ao c h => by
      have h2 := names_any (kfr.getD r []) (kfr_small r hr6).1 (kfr_small r hr6).2 _ _ w' h
      have e9 : jn (kfr.getD r []) = kfw.getD r [] := kfr_jn ⟨r, hr6⟩
      rw [e9, ← hfv] at h2
      exact h2
    have HRI : Hid (∀ w', Below W10.heap.size W10 w' → Calls Try.prog 15 #[.agg #[.int .i64 kd, .string td, .slice nod nnd ncd, .slice aod ad cd]] w' (RetBool true w')) := fun w' hw' => by
      have h2 := right_any2 kl[r] _ _ w' (Et.At.keeps (Keeps.of_below hw') _ _ hat) (by omega) hfd
      rw [hrd] at h2; exact h2
    have HC : Hid (∀ w', Below W10.heap.size W10 w' → (w'.cell? ⟨g, o + r * 4, none⟩ = some (.int .i64 kd) ∧ w'.cell? ⟨g, o + r * 4 + 1, none⟩ = some (.string td) ∧ w'.cell? ⟨g, o + r * 4 + 2, none⟩ = some (.slice nod nnd ncd) ∧ w'.cell? ⟨g, o + r * 4 + 3, none⟩ = some (.slice aod ad cd)) ∧ w'.cell? ⟨gw, r, none⟩ = some (.string sv) ∧ w'.cell? ⟨gv, r, none⟩ = some (.string fv)) := fun w' hw' =>
      ⟨⟨cell_below hw' e0, cell_below hw' e1, cell_below hw' e2, cell_below hw' e3⟩, by rw [Lib.cell_of_heap (row_below hw' HK9.out), hsv]; exact kwA_get r hr6, by rw [Lib.cell_of_heap (row_below hw' HF9.out), hfv]; exact kfA_get r hr6⟩
    obtain ⟨nf, hnf⟩ : ∃ nf, nf = (kfr.getD r []).length := ⟨_, rfl⟩
    rw [← hnf] at HFR HNM
    clear e0 e1 e2 e3 hat hfd hrd hsd hsv hfv hS o1' o2' HK9 HF9 hnf HRW
    go_upto_region 9 with fail
    have HS0 : Hid (Below W10.heap.size W10 W10.drew) := (Below.refl _ _).drew
    refine wp_region_noPanic ?_
    refine wp_region_held_drew (S := Below W10.heap.size W10) (by kernel_rfl) HS0.out (fun hHeld => ?_)
    generalize W10.drew = X at HS0 hHeld ⊢
    refine wpAnyH_take (i := 0) (v := Value.slice (some ⟨g, o, none⟩) 7 cr) rfl (by kernel_rfl) (by kernel_rfl) (by kernel_rfl) (fun _ _ _ h => h) (Or.inl ⟨rfl, fun w' hw' => ?_⟩) hHeld ?_
    · go_simp
    simp only [List.getElem_toArray, List.getElem_cons_succ, List.getElem_cons_zero, Act.put, List.setIfInBounds_toArray, List.set_cons_zero, List.set_cons_succ]
    refine wpAnyH_take (i := 1) (v := Value.int .i64 (r : Int)) rfl (by kernel_rfl) (by kernel_rfl) (by kernel_rfl) (fun _ _ _ h => h) (Or.inl ⟨rfl, fun w' hw' => ?_⟩) hHeld ?_
    · go_simp
    simp only [List.getElem_toArray, List.getElem_cons_succ, List.getElem_cons_zero, Act.put, List.setIfInBounds_toArray, List.set_cons_zero, List.set_cons_succ]
    refine wpAnyH_take (i := 2) (v := Value.pointer (some ⟨g, o + r * 4, none⟩)) rfl (by kernel_rfl) (by kernel_rfl) (by kernel_rfl) (fun _ _ _ h => h) (Or.inl ⟨rfl, fun w' hw' => ?_⟩) hHeld ?_
    · go_simp; intro hh; omega
    simp only [List.getElem_toArray, List.getElem_cons_succ, List.getElem_cons_zero, Act.put, List.setIfInBounds_toArray, List.set_cons_zero, List.set_cons_succ]
    refine wpAnyH_take (i := 3) (v := Value.agg #[.int .i64 kd, .string td, .slice nod nnd ncd, .slice aod ad cd]) rfl (by kernel_rfl) (by kernel_rfl) (by kernel_rfl) (fun _ _ _ h => h) (Or.inl ⟨rfl, fun w' hw' => ?_⟩) hHeld ?_
    · obtain ⟨⟨g0, g1, g2, g3⟩, s0, f0⟩ := HC.out w' hw'; go_simp
    simp only [List.getElem_toArray, List.getElem_cons_succ, List.getElem_cons_zero, Act.put, List.setIfInBounds_toArray, List.set_cons_zero, List.set_cons_succ]
    refine wpAnyH_take (i := 5) (v := Value.slice (some ⟨gw, 0, none⟩) 7 7) rfl (by kernel_rfl) (by kernel_rfl) (by kernel_rfl) (fun _ _ _ h => h) (Or.inl ⟨rfl, fun w' hw' => ?_⟩) hHeld ?_
    · go_simp
    simp only [List.getElem_toArray, List.getElem_cons_succ, List.getElem_cons_zero, Act.put, List.setIfInBounds_toArray, List.set_cons_zero, List.set_cons_succ]
    refine wpAnyH_take (i := 6) (v := Value.int .i64 (r : Int)) rfl (by kernel_rfl) (by kernel_rfl) (by kernel_rfl) (fun _ _ _ h => h) (Or.inl ⟨rfl, fun w' hw' => ?_⟩) hHeld ?_
    · go_simp
    simp only [List.getElem_toArray, List.getElem_cons_succ, List.getElem_cons_zero, Act.put, List.setIfInBounds_toArray, List.set_cons_zero, List.set_cons_succ]
    refine wpAnyH_take (i := 7) (v := Value.pointer (some ⟨gw, r, none⟩)) rfl (by kernel_rfl) (by kernel_rfl) (by kernel_rfl) (fun _ _ _ h => h) (Or.inl ⟨rfl, fun w' hw' => ?_⟩) hHeld ?_
    · go_simp; intro hh; omega
    simp only [List.getElem_toArray, List.getElem_cons_succ, List.getElem_cons_zero, Act.put, List.setIfInBounds_toArray, List.set_cons_zero, List.set_cons_succ]
    refine wpAnyH_take (i := 8) (v := Value.string sv) rfl (by kernel_rfl) (by kernel_rfl) (by kernel_rfl) (fun _ _ _ h => h) (Or.inl ⟨rfl, fun w' hw' => ?_⟩) hHeld ?_
    · obtain ⟨⟨g0, g1, g2, g3⟩, s0, f0⟩ := HC.out w' hw'; go_simp
    simp only [List.getElem_toArray, List.getElem_cons_succ, List.getElem_cons_zero, Act.put, List.setIfInBounds_toArray, List.set_cons_zero, List.set_cons_succ]
    refine wpAnyH_ready (rs := [4]) (by kernel_rfl) (by simp) ?_
    refine (AllReadyH.cons rfl (fun K hK => ?_) AllReadyH.nil)
    go_simp
    refine (HTX.out _ HS0.out).mono ?_
    rintro r u4 ⟨rfl, hbq⟩
    have HS4 : Hid (Below W10.heap.size W10 u4) := HS0.out.trans (hbq.mono HS0.out.size)
    clear hbq
    refine hK.out _ _ HS4.out (fun hHeld => ?_)
    clear hK K
    try simp only [List.getElem_toArray, List.getElem_cons_succ, List.getElem_cons_zero, Act.put, List.setIfInBounds_toArray, List.set_cons_zero, List.set_cons_succ]
    refine wpAnyH_take (i := 9) (v := Value.bool true) rfl (by kernel_rfl) (by kernel_rfl) (by kernel_rfl) (fun _ _ _ h => h) (Or.inl ⟨rfl, fun w' hw' => ?_⟩) hHeld ?_
    · go_simp
    simp only [List.getElem_toArray, List.getElem_cons_succ, List.getElem_cons_zero, Act.put, List.setIfInBounds_toArray, List.set_cons_zero, List.set_cons_succ]
    refine wpAnyH_take (i := 10) (v := Value.bool true) rfl (by kernel_rfl) (by kernel_rfl) (by kernel_rfl) (fun _ _ _ h => h) (Or.inl ⟨rfl, fun w' hw' => ?_⟩) hHeld ?_
    · go_simp
    simp only [List.getElem_toArray, List.getElem_cons_succ, List.getElem_cons_zero, Act.put, List.setIfInBounds_toArray, List.set_cons_zero, List.set_cons_succ]
    refine wpAnyH_take (i := 11) (v := Value.slice (some ⟨g, o, none⟩) 7 cr) rfl (by kernel_rfl) (by kernel_rfl) (by kernel_rfl) (fun _ _ _ h => h) (Or.inl ⟨rfl, fun w' hw' => ?_⟩) hHeld ?_
    · go_simp
    simp only [List.getElem_toArray, List.getElem_cons_succ, List.getElem_cons_zero, Act.put, List.setIfInBounds_toArray, List.set_cons_zero, List.set_cons_succ]
    refine wpAnyH_take (i := 12) (v := Value.int .i64 (r : Int)) rfl (by kernel_rfl) (by kernel_rfl) (by kernel_rfl) (fun _ _ _ h => h) (Or.inl ⟨rfl, fun w' hw' => ?_⟩) hHeld ?_
    · go_simp
    simp only [List.getElem_toArray, List.getElem_cons_succ, List.getElem_cons_zero, Act.put, List.setIfInBounds_toArray, List.set_cons_zero, List.set_cons_succ]
    refine wpAnyH_take (i := 13) (v := Value.pointer (some ⟨g, o + r * 4, none⟩)) rfl (by kernel_rfl) (by kernel_rfl) (by kernel_rfl) (fun _ _ _ h => h) (Or.inl ⟨rfl, fun w' hw' => ?_⟩) hHeld ?_
    · go_simp; intro hh; omega
    simp only [List.getElem_toArray, List.getElem_cons_succ, List.getElem_cons_zero, Act.put, List.setIfInBounds_toArray, List.set_cons_zero, List.set_cons_succ]
    refine wpAnyH_take (i := 14) (v := Value.agg #[.int .i64 kd, .string td, .slice nod nnd ncd, .slice aod ad cd]) rfl (by kernel_rfl) (by kernel_rfl) (by kernel_rfl) (fun _ _ _ h => h) (Or.inl ⟨rfl, fun w' hw' => ?_⟩) hHeld ?_
    · obtain ⟨⟨g0, g1, g2, g3⟩, s0, f0⟩ := HC.out w' hw'; go_simp
    simp only [List.getElem_toArray, List.getElem_cons_succ, List.getElem_cons_zero, Act.put, List.setIfInBounds_toArray, List.set_cons_zero, List.set_cons_succ]
    refine wpAnyH_take (i := 17) (v := Value.slice (some ⟨gv, 0, none⟩) 7 7) rfl (by kernel_rfl) (by kernel_rfl) (by kernel_rfl) (fun _ _ _ h => h) (Or.inl ⟨rfl, fun w' hw' => ?_⟩) hHeld ?_
    · go_simp
    simp only [List.getElem_toArray, List.getElem_cons_succ, List.getElem_cons_zero, Act.put, List.setIfInBounds_toArray, List.set_cons_zero, List.set_cons_succ]
    refine wpAnyH_take (i := 18) (v := Value.int .i64 (r : Int)) rfl (by kernel_rfl) (by kernel_rfl) (by kernel_rfl) (fun _ _ _ h => h) (Or.inl ⟨rfl, fun w' hw' => ?_⟩) hHeld ?_
    · go_simp
    simp only [List.getElem_toArray, List.getElem_cons_succ, List.getElem_cons_zero, Act.put, List.setIfInBounds_toArray, List.set_cons_zero, List.set_cons_succ]
    refine wpAnyH_take (i := 19) (v := Value.pointer (some ⟨gv, r, none⟩)) rfl (by kernel_rfl) (by kernel_rfl) (by kernel_rfl) (fun _ _ _ h => h) (Or.inl ⟨rfl, fun w' hw' => ?_⟩) hHeld ?_
    · go_simp; intro hh; omega
    simp only [List.getElem_toArray, List.getElem_cons_succ, List.getElem_cons_zero, Act.put, List.setIfInBounds_toArray, List.set_cons_zero, List.set_cons_succ]
    refine wpAnyH_take (i := 20) (v := Value.string fv) rfl (by kernel_rfl) (by kernel_rfl) (by kernel_rfl) (fun _ _ _ h => h) (Or.inl ⟨rfl, fun w' hw' => ?_⟩) hHeld ?_
    · obtain ⟨⟨g0, g1, g2, g3⟩, s0, f0⟩ := HC.out w' hw'; go_simp
    simp only [List.getElem_toArray, List.getElem_cons_succ, List.getElem_cons_zero, Act.put, List.setIfInBounds_toArray, List.set_cons_zero, List.set_cons_succ]
    refine wpAnyH_ready (rs := [15]) (by kernel_rfl) (by simp) ?_
    refine (AllReadyH.cons rfl (fun K hK => ?_) AllReadyH.nil)
    go_simp
    refine (HFR.out _ HS4.out).mono ?_
    rintro r u15 ⟨aon, cn, rfl, hatq, hbq⟩
    have HS15 : Hid (Below W10.heap.size W10 u15) := HS4.out.trans (hbq.mono HS4.out.size)
    have HX5 := Lib.hid (HNM.out _ _ _ hatq)
    clear hatq
    clear hbq
    refine hK.out _ _ HS15.out (fun hHeld => ?_)
    clear hK K
    try simp only [List.getElem_toArray, List.getElem_cons_succ, List.getElem_cons_zero, Act.put, List.setIfInBounds_toArray, List.set_cons_zero, List.set_cons_succ]
    refine wpAnyH_ready (rs := [16]) (by kernel_rfl) (by simp) ?_
    refine (AllReadyH.cons rfl (fun K hK => ?_) AllReadyH.nil)
    go_simp
    refine (HX5.out).mono ?_
    rintro r u16 ⟨rfl, hbq⟩
    have HS16 : Hid (Below W10.heap.size W10 u16) := HS15.out.trans (hbq.mono HS15.out.size)
    clear hbq
    refine hK.out _ _ HS16.out (fun hHeld => ?_)
    clear hK K
    try simp only [List.getElem_toArray, List.getElem_cons_succ, List.getElem_cons_zero, Act.put, List.setIfInBounds_toArray, List.set_cons_zero, List.set_cons_succ]
    refine wpAnyH_take (i := 21) (v := Value.bool true) rfl (by kernel_rfl) (by kernel_rfl) (by kernel_rfl) (fun _ _ _ h => h) (Or.inl ⟨rfl, fun w' hw' => ?_⟩) hHeld ?_
    · go_simp
    simp only [List.getElem_toArray, List.getElem_cons_succ, List.getElem_cons_zero, Act.put, List.setIfInBounds_toArray, List.set_cons_zero, List.set_cons_succ]
    refine wpAnyH_take (i := 22) (v := Value.bool true) rfl (by kernel_rfl) (by kernel_rfl) (by kernel_rfl) (fun _ _ _ h => h) (Or.inl ⟨rfl, fun w' hw' => ?_⟩) hHeld ?_
    · go_simp
    simp only [List.getElem_toArray, List.getElem_cons_succ, List.getElem_cons_zero, Act.put, List.setIfInBounds_toArray, List.set_cons_zero, List.set_cons_succ]
    refine wpAnyH_take (i := 23) (v := Value.bool true) rfl (by kernel_rfl) (by kernel_rfl) (by kernel_rfl) (fun _ _ _ h => h) (Or.inl ⟨rfl, fun w' hw' => ?_⟩) hHeld ?_
    · go_simp
    simp only [List.getElem_toArray, List.getElem_cons_succ, List.getElem_cons_zero, Act.put, List.setIfInBounds_toArray, List.set_cons_zero, List.set_cons_succ]
    refine wpAnyH_take (i := 24) (v := Value.slice (some ⟨g, o, none⟩) 7 cr) rfl (by kernel_rfl) (by kernel_rfl) (by kernel_rfl) (fun _ _ _ h => h) (Or.inl ⟨rfl, fun w' hw' => ?_⟩) hHeld ?_
    · go_simp
    simp only [List.getElem_toArray, List.getElem_cons_succ, List.getElem_cons_zero, Act.put, List.setIfInBounds_toArray, List.set_cons_zero, List.set_cons_succ]
    refine wpAnyH_take (i := 25) (v := Value.int .i64 (r : Int)) rfl (by kernel_rfl) (by kernel_rfl) (by kernel_rfl) (fun _ _ _ h => h) (Or.inl ⟨rfl, fun w' hw' => ?_⟩) hHeld ?_
    · go_simp
    simp only [List.getElem_toArray, List.getElem_cons_succ, List.getElem_cons_zero, Act.put, List.setIfInBounds_toArray, List.set_cons_zero, List.set_cons_succ]
    refine wpAnyH_take (i := 26) (v := Value.pointer (some ⟨g, o + r * 4, none⟩)) rfl (by kernel_rfl) (by kernel_rfl) (by kernel_rfl) (fun _ _ _ h => h) (Or.inl ⟨rfl, fun w' hw' => ?_⟩) hHeld ?_
    · go_simp; intro hh; omega
    simp only [List.getElem_toArray, List.getElem_cons_succ, List.getElem_cons_zero, Act.put, List.setIfInBounds_toArray, List.set_cons_zero, List.set_cons_succ]
    refine wpAnyH_take (i := 27) (v := Value.agg #[.int .i64 kd, .string td, .slice nod nnd ncd, .slice aod ad cd]) rfl (by kernel_rfl) (by kernel_rfl) (by kernel_rfl) (fun _ _ _ h => h) (Or.inl ⟨rfl, fun w' hw' => ?_⟩) hHeld ?_
    · obtain ⟨⟨g0, g1, g2, g3⟩, s0, f0⟩ := HC.out w' hw'; go_simp
    simp only [List.getElem_toArray, List.getElem_cons_succ, List.getElem_cons_zero, Act.put, List.setIfInBounds_toArray, List.set_cons_zero, List.set_cons_succ]
    refine wpAnyH_ready (rs := [28]) (by kernel_rfl) (by simp) ?_
    refine (AllReadyH.cons rfl (fun K hK => ?_) AllReadyH.nil)
    go_simp
    refine (HRI.out _ HS16.out).mono ?_
    rintro r u28 ⟨rfl, hbq⟩
    have HS28 : Hid (Below W10.heap.size W10 u28) := HS16.out.trans (hbq.mono HS16.out.size)
    clear hbq
    refine hK.out _ _ HS28.out (fun hHeld => ?_)
    clear hK K
    try simp only [List.getElem_toArray, List.getElem_cons_succ, List.getElem_cons_zero, Act.put, List.setIfInBounds_toArray, List.set_cons_zero, List.set_cons_succ]
    refine wpAnyH_take (i := 29) (v := Value.bool true) rfl (by kernel_rfl) (by kernel_rfl) (by kernel_rfl) (fun _ _ _ h => h) (Or.inl ⟨rfl, fun w' hw' => ?_⟩) hHeld ?_
    · go_simp
    simp only [List.getElem_toArray, List.getElem_cons_succ, List.getElem_cons_zero, Act.put, List.setIfInBounds_toArray, List.set_cons_zero, List.set_cons_succ]
    refine wpAnyH_take (i := 30) (v := Value.bool true) rfl (by kernel_rfl) (by kernel_rfl) (by kernel_rfl) (fun _ _ _ h => h) (Or.inl ⟨rfl, fun w' hw' => ?_⟩) hHeld ?_
    · go_simp
    simp only [List.getElem_toArray, List.getElem_cons_succ, List.getElem_cons_zero, Act.put, List.setIfInBounds_toArray, List.set_cons_zero, List.set_cons_succ]
    refine wpAnyH_done (by kernel_rfl) ?_ _
    refine NoPanic.normal ?_
    clear hHeld
    have HD := Lib.hid (HB10.out.trans (HS28.out.mono HB10.out.size))
    go_wp2_with fail
    go_ret
    exact ⟨rfl, HD.out⟩
end Go.Proofs.Ytcalbcllmmoldaa
