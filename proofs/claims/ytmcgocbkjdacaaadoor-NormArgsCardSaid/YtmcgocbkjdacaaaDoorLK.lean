/- The walk of NormKnown. -/
import Derived.Test.YtmcgocbkjdacaaaDoorNK
import Derived.Test.YtmcgocbkjdacaaaDoorTX6
import Derived.Test.YtmcgocbkjdacaaaDoorZA
import Derived.Test.YtmcgocbkjdacaaaDoorRE
import Derived.Test.YtmcgocbkjdacaaaDoorW18
namespace Go.Proofs.YtmcgocbkjdacaaaDoor
open Go.RowKit Go.BigM
set_option linter.unusedVariables false
set_option linter.unusedSimpArgs false
def kf : Et := evar ⟨#[102]⟩
def kx : Et := evar ⟨#[120]⟩
def ko : Et := .mk 1 ⟨#[49]⟩ [] []
def ksum : Et := .mk 10 ⟨#[43]⟩ [] [kx, ko]
def kapp : Et := .mk 7 ⟨#[]⟩ [] [kf, ksum]
def kl : List Et := [kapp, .mk 7 ⟨#[]⟩ [] [kf, kapp, kx, ksum], .mk 10 ⟨#[43]⟩ [] [kapp, ksum], .mk 10 ⟨#[99, 111, 110, 115]⟩ [] [ksum, .mk 10 ⟨#[99, 111, 110, 115]⟩ [] [ko, kx]], .mk 7 ⟨#[]⟩ [] [kapp, kx], .mk 6 ⟨#[]⟩ [⟨#[121]⟩] [kapp]]
theorem kl_fine : ∀ e ∈ kl, e.fine := by
  have h1 : kf.fine := by unfold kf evar; rw [fine_mk]; exact ⟨by decide, by simp, by simp, by simp⟩
  have h2 : kx.fine := by unfold kx evar; rw [fine_mk]; exact ⟨by decide, by simp, by simp, by simp⟩
  have h3 : ko.fine := by unfold ko; rw [fine_mk]; exact ⟨by decide, by simp, by simp, by simp⟩
  have h4 : ksum.fine := by unfold ksum; rw [fine_mk]; exact ⟨by decide, by simp, by simp, by simp; exact ⟨h2, h3⟩⟩
  have h5 : kapp.fine := by unfold kapp; rw [fine_mk]; exact ⟨by decide, by simp, by simp, by simp; exact ⟨h1, h4⟩⟩
  intro e he
  simp only [kl, List.mem_cons, List.not_mem_nil, or_false] at he
  rcases he with rfl | rfl | rfl | rfl | rfl | rfl
  · exact h5
  · rw [fine_mk]; exact ⟨by decide, by simp, by simp, by simp; exact ⟨h1, h5, h2, h4⟩⟩
  · rw [fine_mk]; exact ⟨by decide, by simp, by simp, by simp; exact ⟨h5, h4⟩⟩
  · rw [fine_mk]
    refine ⟨by decide, by simp, by simp, ?_⟩
    simp only [List.mem_cons, List.not_mem_nil, or_false]
    rintro e (rfl | rfl)
    · exact h4
    · rw [fine_mk]; exact ⟨by decide, by simp, by simp, by simp; exact ⟨h3, h2⟩⟩
  · rw [fine_mk]; exact ⟨by decide, by simp, by simp, by simp; exact ⟨h5, h2⟩⟩
  · rw [fine_mk]; exact ⟨by decide, by simp, by simp; decide, by simp; exact h5⟩
theorem kl_right : ∀ e ∈ kl, e.right num = true := by
  intro e he
  simp only [kl, List.mem_cons, List.not_mem_nil, or_false] at he
  have hn : num ⟨#[49]⟩ = true := by decide
  rcases he with rfl | rfl | rfl | rfl | rfl | rfl <;> simp [kapp, ksum, kf, kx, ko, evar, right_mk, Et.rights, shapeB, textB, namesB, partsB, Lib.toList_data, arity, arityIn, prims, hn, Once]
def kw : List (List UInt8) := [[40, 108, 101, 116, 32, 40, 40, 37, 46, 49, 32, 40, 43, 32, 120, 32, 49, 41, 41, 41, 32, 40, 102, 32, 37, 46, 49, 41, 41], [40, 108, 101, 116, 32, 40, 40, 37, 46, 50, 32, 40, 108, 101, 116, 32, 40, 40, 37, 46, 49, 32, 40, 43, 32, 120, 32, 49, 41, 41, 41, 32, 40, 102, 32, 37, 46, 49, 41, 41, 41, 41, 32, 40, 108, 101, 116, 32, 40, 40, 37, 46, 51, 32, 40, 43, 32, 120, 32, 49, 41, 41, 41, 32, 40, 102, 32, 37, 46, 50, 32, 120, 32, 37, 46, 51, 41, 41, 41], [40, 43, 32, 40, 108, 101, 116, 32, 40, 40, 37, 46, 49, 32, 40, 43, 32, 120, 32, 49, 41, 41, 41, 32, 40, 102, 32, 37, 46, 49, 41, 41, 32, 40, 43, 32, 120, 32, 49, 41, 41], [40, 108, 101, 116, 32, 40, 40, 37, 46, 49, 32, 40, 43, 32, 120, 32, 49, 41, 41, 41, 32, 40, 108, 101, 116, 32, 40, 40, 37, 46, 50, 32, 40, 99, 111, 110, 115, 32, 49, 32, 120, 41, 41, 41, 32, 40, 99, 111, 110, 115, 32, 37, 46, 49, 32, 37, 46, 50, 41, 41, 41], [40, 40, 108, 101, 116, 32, 40, 40, 37, 46, 49, 32, 40, 43, 32, 120, 32, 49, 41, 41, 41, 32, 40, 102, 32, 37, 46, 49, 41, 41, 32, 120, 41], [40, 108, 97, 109, 98, 100, 97, 32, 40, 121, 41, 32, 40, 108, 101, 116, 32, 40, 40, 37, 46, 49, 32, 40, 43, 32, 120, 32, 49, 41, 41, 41, 32, 40, 102, 32, 37, 46, 49, 41, 41, 41]]
theorem kl_wr0 : ∀ i : Fin 6, ((kl[i.1]'i.2).nrm 0).2.wr = kw.getD i.1 [] := by decide +kernel
theorem kl_wr (i : Nat) (h : i < 6) : ((kl[i]'h).nrm 0).2.wr = kw.getD i [] := kl_wr0 ⟨i, h⟩
def kwA : Array Value := (kw.map fun s => Value.string ⟨s.toArray⟩).toArray
theorem kwA_get (r : Nat) (h : r < 6) : kwA[r]? = some (.string ⟨(kw.getD r []).toArray⟩) := by
  match r, h with
  | 0, _ => rfl
  | 1, _ => rfl
  | 2, _ => rfl
  | 3, _ => rfl
  | 4, _ => rfl
  | 5, _ => rfl
theorem kl_size : ∀ e ∈ kl, e.size ≤ 20 := by
  intro e he
  simp only [kl, List.mem_cons, List.not_mem_nil, or_false] at he
  rcases he with rfl | rfl | rfl | rfl | rfl | rfl <;> simp [kapp, ksum, kf, kx, ko, evar, Et.size, Et.sizes]
def k1t : Et := .mk 7 ⟨#[]⟩ [] [kf, kapp, kx, ksum]
def k2t : Et := .mk 10 ⟨#[43]⟩ [] [kapp, ksum]
def k3c : Et := .mk 10 ⟨#[99, 111, 110, 115]⟩ [] [ko, kx]
def k3t : Et := .mk 10 ⟨#[99, 111, 110, 115]⟩ [] [ksum, k3c]
def k4t : Et := .mk 7 ⟨#[]⟩ [] [kapp, kx]
def k5t : Et := .mk 6 ⟨#[]⟩ [⟨#[121]⟩] [kapp]
def LKt : Nat → Sh
  | 0 => .t kapp
  | 1 => .t kf
  | 2 => .t kapp
  | 3 => .t kx
  | 4 => .t ksum
  | 5 => .r [kf, kapp, kx, ksum]
  | 6 => .t k1t
  | 7 => .t kapp
  | 8 => .t ksum
  | 9 => .r [kapp, ksum]
  | 10 => .t k2t
  | 11 => .t ksum
  | 12 => .t ko
  | 13 => .t kx
  | 14 => .r [ko, kx]
  | 15 => .t k3c
  | 16 => .r [ksum, k3c]
  | 17 => .t k3t
  | 18 => .t kapp
  | 19 => .t kx
  | 20 => .r [kapp, kx]
  | 21 => .t k4t
  | 22 => .n [⟨#[121]⟩]
  | 23 => .t kapp
  | 24 => .r [kapp]
  | 25 => .t k5t
  | 26 => .r kl
  | _ => .r kl
set_option maxHeartbeats 8000000 in
set_option maxRecDepth 100000 in
theorem nknown_walk (which : Int) (w : World) (hI : I64 which) (ht : Tab w) : Calls Tryd.prog 7 #[.int .i64 which] w (RetBool true w) := by
  have K0 := Lib.hid (known_any w ht)
  have HT := Lib.hid ht
  have HI := Lib.hid hI
  clear ht hI
  go_enter Tryd.func7, Tryd.ntmps7
  go_wp2_with fail
  refine K0.out.mono ?_
  rintro e w1 ⟨rfl, hb1⟩
  have HB1 := Lib.hid hb1
  replace HT := Lib.hid (HT.out.below hb1)
  clear hb1 K0
  go_wp2_with fail
  refine (var_any ⟨#[102]⟩ w1).mono ?_
  rintro e w2 ⟨rfl, hb2⟩
  go_wp2_with fail
  refine (var_any ⟨#[120]⟩ w2).mono ?_
  rintro e w3 ⟨rfl, hb3⟩
  have HB3 := Lib.hid (HB1.out.trans ((hb2.trans (hb3.mono hb2.size)).mono HB1.out.size))
  replace HT := Lib.hid (HT.out.below (hb2.trans (hb3.mono hb2.size)))
  clear hb2 hb3
  have s1 : (w3.alloc (.cells #[.int .i64 5, .string ⟨#[102]⟩, .slice none 0 0, .slice none 0 0] 28)).heap.size = w3.heap.size + 1 := by simp
  have b1 := (Below.refl w3.heap.size w3).alloc (Nat.le_refl _) (.cells #[.int .i64 5, .string ⟨#[102]⟩, .slice none 0 0, .slice none 0 0] 28)
  have b2 := b1.alloc b1.size (.cells #[.int .i64 5, .string ⟨#[120]⟩, .slice none 0 0, .slice none 0 0] 28)
  have RF : Hid (EB ((w3.alloc (.cells #[.int .i64 5, .string ⟨#[102]⟩, .slice none 0 0, .slice none 0 0] 28)).alloc (.cells #[.int .i64 5, .string ⟨#[120]⟩, .slice none 0 0, .slice none 0 0] 28)) w3.heap.size 5 ⟨#[102]⟩ (.slice none 0 0) (.slice none 0 0)) := (Lib.alloc_old _ _ _ (by rw [s1]; omega)).trans (alloc_at w3 _)
  have RX : Hid (EB ((w3.alloc (.cells #[.int .i64 5, .string ⟨#[102]⟩, .slice none 0 0, .slice none 0 0] 28)).alloc (.cells #[.int .i64 5, .string ⟨#[120]⟩, .slice none 0 0, .slice none 0 0] 28)) (w3.heap.size + 1) 5 ⟨#[120]⟩ (.slice none 0 0) (.slice none 0 0)) := by
    have h := alloc_at (w3.alloc (.cells #[.int .i64 5, .string ⟨#[102]⟩, .slice none 0 0, .slice none 0 0] 28)) (.cells #[.int .i64 5, .string ⟨#[120]⟩, .slice none 0 0, .slice none 0 0] 28); rw [s1] at h; exact h
  have HB4 := Lib.hid (HB3.out.trans (b2.mono HB3.out.size))
  replace HT := Lib.hid (HT.out.below b2)
  clear b1 b2 s1 HB1 HB3
  go_upto_region 4 with fail
  generalize (w3.alloc (.cells #[.int .i64 5, .string ⟨#[102]⟩, .slice none 0 0, .slice none 0 0] 28)).alloc (.cells #[.int .i64 5, .string ⟨#[120]⟩, .slice none 0 0, .slice none 0 0] 28) = W4 at RF RX HB4 HT ⊢
  generalize w3.heap.size + 1 = gx at RX ⊢
  generalize w3.heap.size = gf at RF ⊢
  have b1 := (Below.refl W4.heap.size W4).alloc (Nat.le_refl _) (.cells #[.int .i64 1, .string ⟨#[49]⟩, .slice none 0 0, .slice none 0 0] 28)
  have RO : Hid (EB (W4.alloc (.cells #[.int .i64 1, .string ⟨#[49]⟩, .slice none 0 0, .slice none 0 0] 28)) W4.heap.size 1 ⟨#[49]⟩ (.slice none 0 0) (.slice none 0 0)) := alloc_at _ _
  have HB5 := Lib.hid (HB4.out.trans (b1.mono HB4.out.size))
  replace HT := Lib.hid (HT.out.below b1)
  replace RF : Hid (EB (W4.alloc (.cells #[.int .i64 1, .string ⟨#[49]⟩, .slice none 0 0, .slice none 0 0] 28)) gf 5 ⟨#[102]⟩ (.slice none 0 0) (.slice none 0 0)) := row_below b1 RF.out
  replace RX : Hid (EB (W4.alloc (.cells #[.int .i64 1, .string ⟨#[49]⟩, .slice none 0 0, .slice none 0 0] 28)) gx 5 ⟨#[120]⟩ (.slice none 0 0) (.slice none 0 0)) := row_below b1 RX.out
  clear b1 HB4
  go_upto_region 5 with fail
  generalize W4.alloc (.cells #[.int .i64 1, .string ⟨#[49]⟩, .slice none 0 0, .slice none 0 0] 28) = W5 at RF RX RO HB5 HT ⊢
  generalize W4.heap.size = go at RO ⊢
  have AX : Hid (Et.At (fun _ => True) W5 kx #[.int .i64 5, .string ⟨#[120]⟩, .slice none 0 0, .slice none 0 0]) := leaf_at _ _ 5 ⟨#[120]⟩
  have AF : Hid (Et.At (fun _ => True) W5 kf #[.int .i64 5, .string ⟨#[102]⟩, .slice none 0 0, .slice none 0 0]) := leaf_at _ _ 5 ⟨#[102]⟩
  have AO : Hid (Et.At (fun _ => True) W5 ko #[.int .i64 1, .string ⟨#[49]⟩, .slice none 0 0, .slice none 0 0]) := leaf_at _ _ 1 ⟨#[49]⟩
  have s1 : (W5.alloc (.cells #[.int .i64 5, .string ⟨#[120]⟩, .slice none 0 0, .slice none 0 0, .int .i64 1, .string ⟨#[49]⟩, .slice none 0 0, .slice none 0 0] 28)).heap.size = W5.heap.size + 1 := by simp
  have b1 := (Below.refl W5.heap.size W5).alloc (Nat.le_refl _) (.cells #[.int .i64 5, .string ⟨#[120]⟩, .slice none 0 0, .slice none 0 0, .int .i64 1, .string ⟨#[49]⟩, .slice none 0 0, .slice none 0 0] 28)
  have b2 := b1.alloc b1.size (.cells #[.int .i64 10, .string ⟨#[43]⟩, .slice none 0 0, .slice (some ⟨W5.heap.size, 0, none⟩) 2 2] 28)
  have r1 : ((W5.alloc (.cells #[.int .i64 5, .string ⟨#[120]⟩, .slice none 0 0, .slice none 0 0, .int .i64 1, .string ⟨#[49]⟩, .slice none 0 0, .slice none 0 0] 28)).alloc (.cells #[.int .i64 10, .string ⟨#[43]⟩, .slice none 0 0, .slice (some ⟨W5.heap.size, 0, none⟩) 2 2] 28)).heap[W5.heap.size]? = some (.cells (#[.int .i64 5, .string ⟨#[120]⟩, .slice none 0 0, .slice none 0 0] ++ #[.int .i64 1, .string ⟨#[49]⟩, .slice none 0 0, .slice none 0 0]) 28 (0, 0)) := (Lib.alloc_old _ _ _ (by rw [s1]; omega)).trans (alloc_at W5 _)
  have RS : Hid (EB ((W5.alloc (.cells #[.int .i64 5, .string ⟨#[120]⟩, .slice none 0 0, .slice none 0 0, .int .i64 1, .string ⟨#[49]⟩, .slice none 0 0, .slice none 0 0] 28)).alloc (.cells #[.int .i64 10, .string ⟨#[43]⟩, .slice none 0 0, .slice (some ⟨W5.heap.size, 0, none⟩) 2 2] 28)) (W5.heap.size + 1) 10 ⟨#[43]⟩ (.slice none 0 0) (.slice (some ⟨W5.heap.size, 0, none⟩) 2 2)) := by
    have h := alloc_at (W5.alloc (.cells #[.int .i64 5, .string ⟨#[120]⟩, .slice none 0 0, .slice none 0 0, .int .i64 1, .string ⟨#[49]⟩, .slice none 0 0, .slice none 0 0] 28)) (.cells #[.int .i64 10, .string ⟨#[43]⟩, .slice none 0 0, .slice (some ⟨W5.heap.size, 0, none⟩) 2 2] 28); rw [s1] at h; exact h
  replace AX := Lib.hid (Et.At.keeps (Keeps.of_below b2) _ _ AX.out)
  replace AF := Lib.hid (Et.At.keeps (Keeps.of_below b2) _ _ AF.out)
  replace AO := Lib.hid (Et.At.keeps (Keeps.of_below b2) _ _ AO.out)
  have AS : Hid (Et.At (fun _ => True) ((W5.alloc (.cells #[.int .i64 5, .string ⟨#[120]⟩, .slice none 0 0, .slice none 0 0, .int .i64 1, .string ⟨#[49]⟩, .slice none 0 0, .slice none 0 0] 28)).alloc (.cells #[.int .i64 10, .string ⟨#[43]⟩, .slice none 0 0, .slice (some ⟨W5.heap.size, 0, none⟩) 2 2] 28)) ksum #[.int .i64 10, .string ⟨#[43]⟩, .slice none 0 0, .slice (some ⟨W5.heap.size, 0, none⟩) 2 2]) := by
    unfold ksum; refine (EAt_mk _ _ _ _ _ _ _).2 ?_
    exact ⟨_, _, rfl, .inl ⟨rfl, rfl⟩, two_at trivial AX.out AO.out rfl rfl r1⟩
  have HB6 := Lib.hid (HB5.out.trans (b2.mono HB5.out.size))
  replace HT := Lib.hid (HT.out.below b2)
  have RF6 : Hid (EB ((W5.alloc (.cells #[.int .i64 5, .string ⟨#[120]⟩, .slice none 0 0, .slice none 0 0, .int .i64 1, .string ⟨#[49]⟩, .slice none 0 0, .slice none 0 0] 28)).alloc (.cells #[.int .i64 10, .string ⟨#[43]⟩, .slice none 0 0, .slice (some ⟨W5.heap.size, 0, none⟩) 2 2] 28)) gf 5 ⟨#[102]⟩ (.slice none 0 0) (.slice none 0 0)) := row_below b2 RF.out
  have RX6 : Hid (EB ((W5.alloc (.cells #[.int .i64 5, .string ⟨#[120]⟩, .slice none 0 0, .slice none 0 0, .int .i64 1, .string ⟨#[49]⟩, .slice none 0 0, .slice none 0 0] 28)).alloc (.cells #[.int .i64 10, .string ⟨#[43]⟩, .slice none 0 0, .slice (some ⟨W5.heap.size, 0, none⟩) 2 2] 28)) gx 5 ⟨#[120]⟩ (.slice none 0 0) (.slice none 0 0)) := row_below b2 RX.out
  have RO6 : Hid (EB ((W5.alloc (.cells #[.int .i64 5, .string ⟨#[120]⟩, .slice none 0 0, .slice none 0 0, .int .i64 1, .string ⟨#[49]⟩, .slice none 0 0, .slice none 0 0] 28)).alloc (.cells #[.int .i64 10, .string ⟨#[43]⟩, .slice none 0 0, .slice (some ⟨W5.heap.size, 0, none⟩) 2 2] 28)) go 1 ⟨#[49]⟩ (.slice none 0 0) (.slice none 0 0)) := row_below b2 RO.out
  clear b1 b2 s1 r1 HB5 RF
  go_upto_region 6 with (first | refine wpList_load_row rfl 28 _ rfl gx rfl 28 #[.int .i64 5, .string ⟨#[120]⟩, .slice none 0 0, .slice none 0 0] (0, 0) _ RX.out Tryd.underlying28 rfl info28 ?_ | refine wpList_load_row rfl 28 _ rfl go rfl 28 #[.int .i64 1, .string ⟨#[49]⟩, .slice none 0 0, .slice none 0 0] (0, 0) _ RO.out Tryd.underlying28 rfl info28 ?_)
  generalize (W5.alloc (.cells #[.int .i64 5, .string ⟨#[120]⟩, .slice none 0 0, .slice none 0 0, .int .i64 1, .string ⟨#[49]⟩, .slice none 0 0, .slice none 0 0] 28)).alloc (.cells #[.int .i64 10, .string ⟨#[43]⟩, .slice none 0 0, .slice (some ⟨W5.heap.size, 0, none⟩) 2 2] 28) = W6 at AX AF AO AS RS RF6 RX6 RO6 HB6 HT ⊢
  clear RX RO
  generalize W5.heap.size + 1 = gs at RS ⊢
  generalize W5.heap.size = gq at RS AS ⊢
  have s1 : (W6.alloc (.cells #[.int .i64 5, .string ⟨#[102]⟩, .slice none 0 0, .slice none 0 0, .int .i64 10, .string ⟨#[43]⟩, .slice none 0 0, .slice (some ⟨gq, 0, none⟩) 2 2] 28)).heap.size = W6.heap.size + 1 := by simp
  have b1 := (Below.refl W6.heap.size W6).alloc (Nat.le_refl _) (.cells #[.int .i64 5, .string ⟨#[102]⟩, .slice none 0 0, .slice none 0 0, .int .i64 10, .string ⟨#[43]⟩, .slice none 0 0, .slice (some ⟨gq, 0, none⟩) 2 2] 28)
  have b2 := b1.alloc b1.size (.cells #[.int .i64 7, .string ⟨#[]⟩, .slice none 0 0, .slice (some ⟨W6.heap.size, 0, none⟩) 2 2] 28)
  have r1 : ((W6.alloc (.cells #[.int .i64 5, .string ⟨#[102]⟩, .slice none 0 0, .slice none 0 0, .int .i64 10, .string ⟨#[43]⟩, .slice none 0 0, .slice (some ⟨gq, 0, none⟩) 2 2] 28)).alloc (.cells #[.int .i64 7, .string ⟨#[]⟩, .slice none 0 0, .slice (some ⟨W6.heap.size, 0, none⟩) 2 2] 28)).heap[W6.heap.size]? = some (.cells (#[.int .i64 5, .string ⟨#[102]⟩, .slice none 0 0, .slice none 0 0] ++ #[.int .i64 10, .string ⟨#[43]⟩, .slice none 0 0, .slice (some ⟨gq, 0, none⟩) 2 2]) 28 (0, 0)) := (Lib.alloc_old _ _ _ (by rw [s1]; omega)).trans (alloc_at W6 _)
  have RA : Hid (EB ((W6.alloc (.cells #[.int .i64 5, .string ⟨#[102]⟩, .slice none 0 0, .slice none 0 0, .int .i64 10, .string ⟨#[43]⟩, .slice none 0 0, .slice (some ⟨gq, 0, none⟩) 2 2] 28)).alloc (.cells #[.int .i64 7, .string ⟨#[]⟩, .slice none 0 0, .slice (some ⟨W6.heap.size, 0, none⟩) 2 2] 28)) (W6.heap.size + 1) 7 ⟨#[]⟩ (.slice none 0 0) (.slice (some ⟨W6.heap.size, 0, none⟩) 2 2)) := by
    have h := alloc_at (W6.alloc (.cells #[.int .i64 5, .string ⟨#[102]⟩, .slice none 0 0, .slice none 0 0, .int .i64 10, .string ⟨#[43]⟩, .slice none 0 0, .slice (some ⟨gq, 0, none⟩) 2 2] 28)) (.cells #[.int .i64 7, .string ⟨#[]⟩, .slice none 0 0, .slice (some ⟨W6.heap.size, 0, none⟩) 2 2] 28); rw [s1] at h; exact h
  replace AX := Lib.hid (Et.At.keeps (Keeps.of_below b2) _ _ AX.out)
  replace AF := Lib.hid (Et.At.keeps (Keeps.of_below b2) _ _ AF.out)
  replace AO := Lib.hid (Et.At.keeps (Keeps.of_below b2) _ _ AO.out)
  replace AS := Lib.hid (Et.At.keeps (Keeps.of_below b2) _ _ AS.out)
  have AA : Hid (Et.At (fun _ => True) ((W6.alloc (.cells #[.int .i64 5, .string ⟨#[102]⟩, .slice none 0 0, .slice none 0 0, .int .i64 10, .string ⟨#[43]⟩, .slice none 0 0, .slice (some ⟨gq, 0, none⟩) 2 2] 28)).alloc (.cells #[.int .i64 7, .string ⟨#[]⟩, .slice none 0 0, .slice (some ⟨W6.heap.size, 0, none⟩) 2 2] 28)) kapp #[.int .i64 7, .string ⟨#[]⟩, .slice none 0 0, .slice (some ⟨W6.heap.size, 0, none⟩) 2 2]) := by
    unfold kapp; refine (EAt_mk _ _ _ _ _ _ _).2 ?_
    exact ⟨_, _, rfl, .inl ⟨rfl, rfl⟩, two_at trivial AF.out AS.out rfl rfl r1⟩
  have HB7 := Lib.hid (HB6.out.trans (b2.mono HB6.out.size))
  replace HT := Lib.hid (HT.out.below b2)
  have RF7 : Hid (EB ((W6.alloc (.cells #[.int .i64 5, .string ⟨#[102]⟩, .slice none 0 0, .slice none 0 0, .int .i64 10, .string ⟨#[43]⟩, .slice none 0 0, .slice (some ⟨gq, 0, none⟩) 2 2] 28)).alloc (.cells #[.int .i64 7, .string ⟨#[]⟩, .slice none 0 0, .slice (some ⟨W6.heap.size, 0, none⟩) 2 2] 28)) gf 5 ⟨#[102]⟩ (.slice none 0 0) (.slice none 0 0)) := row_below b2 RF6.out
  have RX7 : Hid (EB ((W6.alloc (.cells #[.int .i64 5, .string ⟨#[102]⟩, .slice none 0 0, .slice none 0 0, .int .i64 10, .string ⟨#[43]⟩, .slice none 0 0, .slice (some ⟨gq, 0, none⟩) 2 2] 28)).alloc (.cells #[.int .i64 7, .string ⟨#[]⟩, .slice none 0 0, .slice (some ⟨W6.heap.size, 0, none⟩) 2 2] 28)) gx 5 ⟨#[120]⟩ (.slice none 0 0) (.slice none 0 0)) := row_below b2 RX6.out
  have RO7 : Hid (EB ((W6.alloc (.cells #[.int .i64 5, .string ⟨#[102]⟩, .slice none 0 0, .slice none 0 0, .int .i64 10, .string ⟨#[43]⟩, .slice none 0 0, .slice (some ⟨gq, 0, none⟩) 2 2] 28)).alloc (.cells #[.int .i64 7, .string ⟨#[]⟩, .slice none 0 0, .slice (some ⟨W6.heap.size, 0, none⟩) 2 2] 28)) go 1 ⟨#[49]⟩ (.slice none 0 0) (.slice none 0 0)) := row_below b2 RO6.out
  have RS7 : Hid (EB ((W6.alloc (.cells #[.int .i64 5, .string ⟨#[102]⟩, .slice none 0 0, .slice none 0 0, .int .i64 10, .string ⟨#[43]⟩, .slice none 0 0, .slice (some ⟨gq, 0, none⟩) 2 2] 28)).alloc (.cells #[.int .i64 7, .string ⟨#[]⟩, .slice none 0 0, .slice (some ⟨W6.heap.size, 0, none⟩) 2 2] 28)) gs 10 ⟨#[43]⟩ (.slice none 0 0) (.slice (some ⟨gq, 0, none⟩) 2 2)) := row_below b2 RS.out
  clear b1 b2 s1 r1 HB6 RX6 RO6
  go_upto_region 7 with (first | refine wpList_load_row rfl 28 _ rfl gf rfl 28 #[.int .i64 5, .string ⟨#[102]⟩, .slice none 0 0, .slice none 0 0] (0, 0) _ RF6.out Tryd.underlying28 rfl info28 ?_ | refine wpList_load_row rfl 28 _ rfl gs rfl 28 #[.int .i64 10, .string ⟨#[43]⟩, .slice none 0 0, .slice (some ⟨gq, 0, none⟩) 2 2] (0, 0) _ RS.out Tryd.underlying28 rfl info28 ?_)
  rename_i K hK
  generalize (W6.alloc (.cells #[.int .i64 5, .string ⟨#[102]⟩, .slice none 0 0, .slice none 0 0, .int .i64 10, .string ⟨#[43]⟩, .slice none 0 0, .slice (some ⟨gq, 0, none⟩) 2 2] 28)).alloc (.cells #[.int .i64 7, .string ⟨#[]⟩, .slice none 0 0, .slice (some ⟨W6.heap.size, 0, none⟩) 2 2] 28) = W7 at AX AF AO AS AA RA RF7 RX7 RO7 RS7 HB7 HT ⊢
  clear RF6 RS
  generalize W6.heap.size + 1 = ga at RA ⊢
  generalize W6.heap.size = gp at RA AA ⊢
  refine wp_straight 67 [] _ (fun j v w => (LKt j).ok v w) (by kernel_rfl) (by kernel_rfl) (by kernel_rfl) rfl (slots_of _ _ 67 rfl) (fun j v w1 w2 h hb => Sh.below (s := LKt j) h hb) ?_ ?_
  · refine ⟨?_, ?_, ?_, ?_, ?_, ?_, ?_, ?_, ?_, ?_, ?_, ?_, ?_, ?_, ?_, ?_, ?_, ?_, ?_, ?_, ?_, ?_, ?_, ?_, ?_, ?_, ?_, ?_, trivial⟩
    all_goals (simp only [])
    · intro f w1 hw hf hd K hK
      have q : f 7 = .pointer (some ⟨ga, 0, none⟩) := hf 7 (by kernel_rfl)
      exact wp_ldE (.tmp 7) rfl ga ((slots_eval [] f (show 7 < 67 by decide)).trans q) (kapp) _ (row_below hw RA.out) (Et.At.keeps (Keeps.of_below hw) _ _ AA.out) hK
    · intro f w1 hw hf hd K hK
      have q : f 3 = .pointer (some ⟨gf, 0, none⟩) := hf 3 (by kernel_rfl)
      exact wp_ldE (.tmp 3) rfl gf ((slots_eval [] f (show 3 < 67 by decide)).trans q) (kf) _ (row_below hw RF7.out) (Et.At.keeps (Keeps.of_below hw) _ _ AF.out) hK
    · intro f w1 hw hf hd K hK
      have q : f 7 = .pointer (some ⟨ga, 0, none⟩) := hf 7 (by kernel_rfl)
      exact wp_ldE (.tmp 7) rfl ga ((slots_eval [] f (show 7 < 67 by decide)).trans q) (kapp) _ (row_below hw RA.out) (Et.At.keeps (Keeps.of_below hw) _ _ AA.out) hK
    · intro f w1 hw hf hd K hK
      have q : f 4 = .pointer (some ⟨gx, 0, none⟩) := hf 4 (by kernel_rfl)
      exact wp_ldE (.tmp 4) rfl gx ((slots_eval [] f (show 4 < 67 by decide)).trans q) (kx) _ (row_below hw RX7.out) (Et.At.keeps (Keeps.of_below hw) _ _ AX.out) hK
    · intro f w1 hw hf hd K hK
      have q : f 6 = .pointer (some ⟨gs, 0, none⟩) := hf 6 (by kernel_rfl)
      exact wp_ldE (.tmp 6) rfl gs ((slots_eval [] f (show 6 < 67 by decide)).trans q) (ksum) _ (row_below hw RS7.out) (Et.At.keeps (Keeps.of_below hw) _ _ AS.out) hK
    · intro f w1 hw hf hd K hK
      have h25 := hd ⟨1, .data⟩ (by simp) rfl _ rfl
      have h25 : (Sh.t kf).ok (f 25) w1 := h25
      rw [← slots_eval [] f (show 25 < 67 by decide)] at h25
      have h26 := hd ⟨2, .data⟩ (by simp) rfl _ rfl
      have h26 : (Sh.t kapp).ok (f 26) w1 := h26
      rw [← slots_eval [] f (show 26 < 67 by decide)] at h26
      have h27 := hd ⟨3, .data⟩ (by simp) rfl _ rfl
      have h27 : (Sh.t kx).ok (f 27) w1 := h27
      rw [← slots_eval [] f (show 27 < 67 by decide)] at h27
      have h28 := hd ⟨4, .data⟩ (by simp) rfl _ rfl
      have h28 : (Sh.t ksum).ok (f 28) w1 := h28
      rw [← slots_eval [] f (show 28 < 67 by decide)] at h28
      exact wp_row4 (.tmp 25) (.tmp 26) (.tmp 27) (.tmp 28) rfl _ _ _ _ h25 h26 h27 h28 hK
    · intro f w1 hw hf hd K hK
      have h29 := hd ⟨5, .data⟩ (by simp) rfl _ rfl
      have h29 : (Sh.r [kf, kapp, kx, ksum]).ok (f 29) w1 := h29
      rw [← slots_eval [] f (show 29 < 67 by decide)] at h29
      exact wp_bld_a 7 (.tmp 29) rfl _ h29 hK
    · intro f w1 hw hf hd K hK
      have q : f 7 = .pointer (some ⟨ga, 0, none⟩) := hf 7 (by kernel_rfl)
      exact wp_ldE (.tmp 7) rfl ga ((slots_eval [] f (show 7 < 67 by decide)).trans q) (kapp) _ (row_below hw RA.out) (Et.At.keeps (Keeps.of_below hw) _ _ AA.out) hK
    · intro f w1 hw hf hd K hK
      have q : f 6 = .pointer (some ⟨gs, 0, none⟩) := hf 6 (by kernel_rfl)
      exact wp_ldE (.tmp 6) rfl gs ((slots_eval [] f (show 6 < 67 by decide)).trans q) (ksum) _ (row_below hw RS7.out) (Et.At.keeps (Keeps.of_below hw) _ _ AS.out) hK
    · intro f w1 hw hf hd K hK
      have h31 := hd ⟨7, .data⟩ (by simp) rfl _ rfl
      have h31 : (Sh.t kapp).ok (f 31) w1 := h31
      rw [← slots_eval [] f (show 31 < 67 by decide)] at h31
      have h32 := hd ⟨8, .data⟩ (by simp) rfl _ rfl
      have h32 : (Sh.t ksum).ok (f 32) w1 := h32
      rw [← slots_eval [] f (show 32 < 67 by decide)] at h32
      exact wp_row2 (.tmp 31) (.tmp 32) rfl _ _ h31 h32 hK
    · intro f w1 hw hf hd K hK
      have h33 := hd ⟨9, .data⟩ (by simp) rfl _ rfl
      have h33 : (Sh.r [kapp, ksum]).ok (f 33) w1 := h33
      rw [← slots_eval [] f (show 33 < 67 by decide)] at h33
      exact wp_bld_p 10 ⟨#[43]⟩ (.tmp 33) rfl _ h33 hK
    · intro f w1 hw hf hd K hK
      have q : f 6 = .pointer (some ⟨gs, 0, none⟩) := hf 6 (by kernel_rfl)
      exact wp_ldE (.tmp 6) rfl gs ((slots_eval [] f (show 6 < 67 by decide)).trans q) (ksum) _ (row_below hw RS7.out) (Et.At.keeps (Keeps.of_below hw) _ _ AS.out) hK
    · intro f w1 hw hf hd K hK
      have q : f 5 = .pointer (some ⟨go, 0, none⟩) := hf 5 (by kernel_rfl)
      exact wp_ldE (.tmp 5) rfl go ((slots_eval [] f (show 5 < 67 by decide)).trans q) (ko) _ (row_below hw RO7.out) (Et.At.keeps (Keeps.of_below hw) _ _ AO.out) hK
    · intro f w1 hw hf hd K hK
      have q : f 4 = .pointer (some ⟨gx, 0, none⟩) := hf 4 (by kernel_rfl)
      exact wp_ldE (.tmp 4) rfl gx ((slots_eval [] f (show 4 < 67 by decide)).trans q) (kx) _ (row_below hw RX7.out) (Et.At.keeps (Keeps.of_below hw) _ _ AX.out) hK
    · intro f w1 hw hf hd K hK
      have h36 := hd ⟨12, .data⟩ (by simp) rfl _ rfl
      have h36 : (Sh.t ko).ok (f 36) w1 := h36
      rw [← slots_eval [] f (show 36 < 67 by decide)] at h36
      have h37 := hd ⟨13, .data⟩ (by simp) rfl _ rfl
      have h37 : (Sh.t kx).ok (f 37) w1 := h37
      rw [← slots_eval [] f (show 37 < 67 by decide)] at h37
      exact wp_row2 (.tmp 36) (.tmp 37) rfl _ _ h36 h37 hK
    · intro f w1 hw hf hd K hK
      have h38 := hd ⟨14, .data⟩ (by simp) rfl _ rfl
      have h38 : (Sh.r [ko, kx]).ok (f 38) w1 := h38
      rw [← slots_eval [] f (show 38 < 67 by decide)] at h38
      exact wp_bld_p 10 ⟨#[99, 111, 110, 115]⟩ (.tmp 38) rfl _ h38 hK
    · intro f w1 hw hf hd K hK
      have h35 := hd ⟨11, .data⟩ (by simp) rfl _ rfl
      have h35 : (Sh.t ksum).ok (f 35) w1 := h35
      rw [← slots_eval [] f (show 35 < 67 by decide)] at h35
      have h39 := hd ⟨15, .data⟩ (by simp) rfl _ rfl
      have h39 : (Sh.t k3c).ok (f 39) w1 := h39
      rw [← slots_eval [] f (show 39 < 67 by decide)] at h39
      exact wp_row2 (.tmp 35) (.tmp 39) rfl _ _ h35 h39 hK
    · intro f w1 hw hf hd K hK
      have h40 := hd ⟨16, .data⟩ (by simp) rfl _ rfl
      have h40 : (Sh.r [ksum, k3c]).ok (f 40) w1 := h40
      rw [← slots_eval [] f (show 40 < 67 by decide)] at h40
      exact wp_bld_p 10 ⟨#[99, 111, 110, 115]⟩ (.tmp 40) rfl _ h40 hK
    · intro f w1 hw hf hd K hK
      have q : f 7 = .pointer (some ⟨ga, 0, none⟩) := hf 7 (by kernel_rfl)
      exact wp_ldE (.tmp 7) rfl ga ((slots_eval [] f (show 7 < 67 by decide)).trans q) (kapp) _ (row_below hw RA.out) (Et.At.keeps (Keeps.of_below hw) _ _ AA.out) hK
    · intro f w1 hw hf hd K hK
      have q : f 4 = .pointer (some ⟨gx, 0, none⟩) := hf 4 (by kernel_rfl)
      exact wp_ldE (.tmp 4) rfl gx ((slots_eval [] f (show 4 < 67 by decide)).trans q) (kx) _ (row_below hw RX7.out) (Et.At.keeps (Keeps.of_below hw) _ _ AX.out) hK
    · intro f w1 hw hf hd K hK
      have h42 := hd ⟨18, .data⟩ (by simp) rfl _ rfl
      have h42 : (Sh.t kapp).ok (f 42) w1 := h42
      rw [← slots_eval [] f (show 42 < 67 by decide)] at h42
      have h43 := hd ⟨19, .data⟩ (by simp) rfl _ rfl
      have h43 : (Sh.t kx).ok (f 43) w1 := h43
      rw [← slots_eval [] f (show 43 < 67 by decide)] at h43
      exact wp_row2 (.tmp 42) (.tmp 43) rfl _ _ h42 h43 hK
    · intro f w1 hw hf hd K hK
      have h44 := hd ⟨20, .data⟩ (by simp) rfl _ rfl
      have h44 : (Sh.r [kapp, kx]).ok (f 44) w1 := h44
      rw [← slots_eval [] f (show 44 < 67 by decide)] at h44
      exact wp_bld_a 7 (.tmp 44) rfl _ h44 hK
    · intro f w1 hw hf hd K hK
      exact wp_nm1 ⟨#[121]⟩ rfl hK
    · intro f w1 hw hf hd K hK
      have q : f 7 = .pointer (some ⟨ga, 0, none⟩) := hf 7 (by kernel_rfl)
      exact wp_ldE (.tmp 7) rfl ga ((slots_eval [] f (show 7 < 67 by decide)).trans q) (kapp) _ (row_below hw RA.out) (Et.At.keeps (Keeps.of_below hw) _ _ AA.out) hK
    · intro f w1 hw hf hd K hK
      have h47 := hd ⟨23, .data⟩ (by simp) rfl _ rfl
      have h47 : (Sh.t kapp).ok (f 47) w1 := h47
      rw [← slots_eval [] f (show 47 < 67 by decide)] at h47
      exact wp_row1 (.tmp 47) rfl _ h47 hK
    · intro f w1 hw hf hd K hK
      have h46 := hd ⟨22, .data⟩ (by simp) rfl _ rfl
      have h46 : (Sh.n [⟨#[121]⟩]).ok (f 46) w1 := h46
      rw [← slots_eval [] f (show 46 < 67 by decide)] at h46
      have h48 := hd ⟨24, .data⟩ (by simp) rfl _ rfl
      have h48 : (Sh.r [kapp]).ok (f 48) w1 := h48
      rw [← slots_eval [] f (show 48 < 67 by decide)] at h48
      exact wp_bld_l 6 (.tmp 46) (.tmp 48) rfl _ h46 _ h48 hK
    · intro f w1 hw hf hd K hK
      have h24 := hd ⟨0, .data⟩ (by simp) rfl _ rfl
      have h24 : (Sh.t kapp).ok (f 24) w1 := h24
      rw [← slots_eval [] f (show 24 < 67 by decide)] at h24
      have h30 := hd ⟨6, .data⟩ (by simp) rfl _ rfl
      have h30 : (Sh.t k1t).ok (f 30) w1 := h30
      rw [← slots_eval [] f (show 30 < 67 by decide)] at h30
      have h34 := hd ⟨10, .data⟩ (by simp) rfl _ rfl
      have h34 : (Sh.t k2t).ok (f 34) w1 := h34
      rw [← slots_eval [] f (show 34 < 67 by decide)] at h34
      have h41 := hd ⟨17, .data⟩ (by simp) rfl _ rfl
      have h41 : (Sh.t k3t).ok (f 41) w1 := h41
      rw [← slots_eval [] f (show 41 < 67 by decide)] at h41
      have h45 := hd ⟨21, .data⟩ (by simp) rfl _ rfl
      have h45 : (Sh.t k4t).ok (f 45) w1 := h45
      rw [← slots_eval [] f (show 45 < 67 by decide)] at h45
      have h49 := hd ⟨25, .data⟩ (by simp) rfl _ rfl
      have h49 : (Sh.t k5t).ok (f 49) w1 := h49
      rw [← slots_eval [] f (show 49 < 67 by decide)] at h49
      exact wp_row6 (.tmp 24) (.tmp 30) (.tmp 34) (.tmp 41) (.tmp 45) (.tmp 49) rfl _ _ _ _ _ _ h24 h30 h34 h41 h45 h49 hK
    · intro f w1 hw hf hd K hK
      have h50 := hd ⟨26, .data⟩ (by simp) rfl _ rfl
      have h50 : (Sh.r kl).ok (f 50) w1 := h50
      rw [← slots_eval [] f (show 50 < 67 by decide)] at h50
      exact wp_mv (.tmp 50) (.inl rfl) (Sh.r kl) h50 hK
  · intro f w8 hw hf hT
    have hr : AAt (fun _ => True) w8 (f 8) kl := hT 27 _ rfl
    obtain ⟨ar, cr, q8⟩ := AAt.form hr
    rw [q8] at hr
    replace q8 : f 8 = .slice ar 6 cr := q8
    have q0 : f 0 = .int .i64 which := hf 0 (by kernel_rfl)
    have HRW : Hid (AAt (fun _ => True) w8 (.slice ar 6 cr) kl) := hr
    have HBW := Lib.hid (HB7.out.trans (hw.mono HB7.out.size))
    have HT8 := Lib.hid (HT.out.below hw)
    refine hK _ _ ?_
    rw [show slots 67 [] f = { tmps := #[f 0, f 1, f 2, f 3, f 4, f 5, f 6, f 7, f 8, f 9, f 10, f 11, f 12, f 13, f 14, f 15, f 16, f 17, f 18, f 19, f 20, f 21, f 22, f 23, f 24, f 25, f 26, f 27, f 28, f 29, f 30, f 31, f 32, f 33, f 34, f 35, f 36, f 37, f 38, f 39, f 40, f 41, f 42, f 43, f 44, f 45, f 46, f 47, f 48, f 49, f 50, f 51, f 52, f 53, f 54, f 55, f 56, f 57, f 58, f 59, f 60, f 61, f 62, f 63, f 64, f 65, f 66], defers := [] } from rfl]
    simp only [q0, q8]
    clear hT hf hr q0 q8 hw hK K HB7 HT RA RF7 RX7 RO7 RS7 AX AF AO AS AA
    go_upto_region 9 with fail
    generalize hW9 : w8.alloc (.cells _ 9) = W9
    have hb9 : Below w8.heap.size w8 W9 := by rw [← hW9]; exact (Below.refl _ _).alloc (Nat.le_refl _) _
    have hk9 : W9.heap[w8.heap.size]? = some (.cells kwA 9 (0, 0)) := by rw [← hW9]; exact alloc_at w8 _
    have HK9 := Lib.hid hk9
    have HB9 := Lib.hid (HBW.out.trans (hb9.mono HBW.out.size))
    have HT9 := Lib.hid (HT8.out.below hb9)
    replace HRW := Lib.hid (AAt.keeps HRW.out (Keeps.of_below hb9))
    clear hb9 hk9 hW9 HBW HT8
    generalize w8.heap.size = gw at HK9 ⊢
    go_wp2_with fail
    refine (within18_some which 6 HI.out (by omega) (by omega) W9).mono ?_
    rintro r9 w11 ⟨r, hr6, rfl, rfl⟩
    have hlr : r < kl.length := hr6
    obtain ⟨g, o, kd, td, nvd, avd, rfl, hS, -, hat, e0, e1, e2, e3, o1', o2'⟩ := HRW.out.get r hlr
    have hfd := kl_fine _ (List.getElem_mem hlr)
    have hrd := nrm_right _ (kl_right _ (List.getElem_mem hlr)) 0
    have hsd := kl_size _ (List.getElem_mem hlr)
    have htd := thick_lt kl[r]
    have hnf := nrm_fine _ hfd 0 (by omega)
    have hns := (nrm_f kl[r] 0).size
    obtain ⟨nod, nnd, ncd, aod, ad, cd, rfl, rfl⟩ : ∃ nod nnd ncd aod ad cd, nvd = .slice nod nnd ncd ∧ avd = .slice aod ad cd := by
      obtain ⟨k3, t3, no2, nn2, nc2, ao4, an2, ac2, e4⟩ := EAt_sl hat
      simp only [Array.mk.injEq, List.cons.injEq, Value.int.injEq, Value.string.injEq, and_true, true_and] at e4
      exact ⟨_, _, _, _, _, _, e4.2.2.1, e4.2.2.2⟩
    have HN : Hid (∀ w', Below W9.heap.size W9 w' → Calls Tryd.prog 16 #[.agg #[.int .i64 kd, .string td, .slice nod nnd ncd, .slice aod ad cd]] w' (RetN kl[r] w')) := fun w' hw' => norm_any kl[r] hfd (by omega) (by omega) _ _ w' (Et.At.keeps (Keeps.of_below hw') _ _ hat) (HT9.out.below hw')
    obtain ⟨sv, hsv⟩ : ∃ sv : ByteArray, sv = ⟨(kw.getD r []).toArray⟩ := ⟨_, rfl⟩
    have HX : Hid (∀ (S : Nat → Prop) (cs : Array Value) (w' : World), Et.At S w' (kl[r].nrm 0).2 cs → Calls Tryd.prog 26 #[.agg cs] w' (RetStr sv w')) := fun S cs w' h => by
      have h2 := reftext_any _ hrd hnf (by omega) S cs w' h
      have e9 : ((kl[r]'hlr).nrm 0).2.wr = kw.getD r [] := kl_wr r hr6
      rw [e9, ← hsv] at h2
      exact h2
    have HC : Hid (∀ w', Below W9.heap.size W9 w' → (w'.cell? ⟨g, o + r * 4, none⟩ = some (.int .i64 kd) ∧ w'.cell? ⟨g, o + r * 4 + 1, none⟩ = some (.string td) ∧ w'.cell? ⟨g, o + r * 4 + 2, none⟩ = some (.slice nod nnd ncd) ∧ w'.cell? ⟨g, o + r * 4 + 3, none⟩ = some (.slice aod ad cd)) ∧ w'.cell? ⟨gw, r, none⟩ = some (.string sv)) := fun w' hw' =>
      ⟨⟨cell_below hw' e0, cell_below hw' e1, cell_below hw' e2, cell_below hw' e3⟩, by rw [Lib.cell_of_heap (row_below hw' HK9.out), hsv]; exact kwA_get r hr6⟩
    clear e0 e1 e2 e3 hat hfd hrd hsd htd hnf hns hsv hS o1' o2' HK9 HT9
    go_upto_region 10 with fail
    have HS0 : Hid (Below W9.heap.size W9 W9.drew) := (Below.refl _ _).drew
    refine wp_region_noPanic ?_
    refine wp_region_held_drew (S := Below W9.heap.size W9) (by kernel_rfl) HS0.out (fun hHeld => ?_)
    generalize W9.drew = X at HS0 hHeld ⊢
    refine wpAnyH_take (i := 0) (v := Value.slice (some ⟨g, o, none⟩) 6 cr) rfl (by kernel_rfl) (by kernel_rfl) (by kernel_rfl) (fun _ _ _ h => h) (Or.inl ⟨rfl, fun w' hw' => ?_⟩) hHeld ?_
    · go_simp
    simp only [List.getElem_toArray, List.getElem_cons_succ, List.getElem_cons_zero, Act.put, List.setIfInBounds_toArray, List.set_cons_zero, List.set_cons_succ]
    refine wpAnyH_take (i := 1) (v := Value.int .i64 (r : Int)) rfl (by kernel_rfl) (by kernel_rfl) (by kernel_rfl) (fun _ _ _ h => h) (Or.inl ⟨rfl, fun w' hw' => ?_⟩) hHeld ?_
    · go_simp
    simp only [List.getElem_toArray, List.getElem_cons_succ, List.getElem_cons_zero, Act.put, List.setIfInBounds_toArray, List.set_cons_zero, List.set_cons_succ]
    refine wpAnyH_take (i := 2) (v := Value.pointer (some ⟨g, o + r * 4, none⟩)) rfl (by kernel_rfl) (by kernel_rfl) (by kernel_rfl) (fun _ _ _ h => h) (Or.inl ⟨rfl, fun w' hw' => ?_⟩) hHeld ?_
    · go_simp; intro hh; omega
    simp only [List.getElem_toArray, List.getElem_cons_succ, List.getElem_cons_zero, Act.put, List.setIfInBounds_toArray, List.set_cons_zero, List.set_cons_succ]
    refine wpAnyH_take (i := 3) (v := Value.agg #[.int .i64 kd, .string td, .slice nod nnd ncd, .slice aod ad cd]) rfl (by kernel_rfl) (by kernel_rfl) (by kernel_rfl) (fun _ _ _ h => h) (Or.inl ⟨rfl, fun w' hw' => ?_⟩) hHeld ?_
    · obtain ⟨⟨g0, g1, g2, g3⟩, s0⟩ := HC.out w' hw'; go_simp
    simp only [List.getElem_toArray, List.getElem_cons_succ, List.getElem_cons_zero, Act.put, List.setIfInBounds_toArray, List.set_cons_zero, List.set_cons_succ]
    refine wpAnyH_take (i := 6) (v := Value.slice (some ⟨gw, 0, none⟩) 6 6) rfl (by kernel_rfl) (by kernel_rfl) (by kernel_rfl) (fun _ _ _ h => h) (Or.inl ⟨rfl, fun w' hw' => ?_⟩) hHeld ?_
    · go_simp
    simp only [List.getElem_toArray, List.getElem_cons_succ, List.getElem_cons_zero, Act.put, List.setIfInBounds_toArray, List.set_cons_zero, List.set_cons_succ]
    refine wpAnyH_take (i := 7) (v := Value.int .i64 (r : Int)) rfl (by kernel_rfl) (by kernel_rfl) (by kernel_rfl) (fun _ _ _ h => h) (Or.inl ⟨rfl, fun w' hw' => ?_⟩) hHeld ?_
    · go_simp
    simp only [List.getElem_toArray, List.getElem_cons_succ, List.getElem_cons_zero, Act.put, List.setIfInBounds_toArray, List.set_cons_zero, List.set_cons_succ]
    refine wpAnyH_take (i := 8) (v := Value.pointer (some ⟨gw, r, none⟩)) rfl (by kernel_rfl) (by kernel_rfl) (by kernel_rfl) (fun _ _ _ h => h) (Or.inl ⟨rfl, fun w' hw' => ?_⟩) hHeld ?_
    · go_simp; intro hh; omega
    simp only [List.getElem_toArray, List.getElem_cons_succ, List.getElem_cons_zero, Act.put, List.setIfInBounds_toArray, List.set_cons_zero, List.set_cons_succ]
    refine wpAnyH_take (i := 9) (v := Value.string sv) rfl (by kernel_rfl) (by kernel_rfl) (by kernel_rfl) (fun _ _ _ h => h) (Or.inl ⟨rfl, fun w' hw' => ?_⟩) hHeld ?_
    · obtain ⟨⟨g0, g1, g2, g3⟩, s0⟩ := HC.out w' hw'; go_simp
    simp only [List.getElem_toArray, List.getElem_cons_succ, List.getElem_cons_zero, Act.put, List.setIfInBounds_toArray, List.set_cons_zero, List.set_cons_succ]
    refine wpAnyH_ready (rs := [4]) (by kernel_rfl) (by simp) ?_
    refine (AllReadyH.cons rfl (fun K hK => ?_) AllReadyH.nil)
    go_simp
    refine (HN.out _ HS0.out).mono ?_
    rintro r u4 ⟨csq, rfl, hatq, hbq⟩
    have HS4 : Hid (Below W9.heap.size W9 u4) := HS0.out.trans (hbq.mono HS0.out.size)
    have HX5 := Lib.hid (HX.out _ _ _ hatq)
    clear hatq
    clear hbq
    refine hK.out _ _ HS4.out (fun hHeld => ?_)
    clear hK K
    try simp only [List.getElem_toArray, List.getElem_cons_succ, List.getElem_cons_zero, Act.put, List.setIfInBounds_toArray, List.set_cons_zero, List.set_cons_succ]
    refine wpAnyH_ready (rs := [5]) (by kernel_rfl) (by simp) ?_
    refine (AllReadyH.cons rfl (fun K hK => ?_) AllReadyH.nil)
    go_simp
    refine (HX5.out).mono ?_
    rintro r u5 ⟨rfl, hbq⟩
    have HS5 : Hid (Below W9.heap.size W9 u5) := HS4.out.trans (hbq.mono HS4.out.size)
    clear hbq
    refine hK.out _ _ HS5.out (fun hHeld => ?_)
    clear hK K
    try simp only [List.getElem_toArray, List.getElem_cons_succ, List.getElem_cons_zero, Act.put, List.setIfInBounds_toArray, List.set_cons_zero, List.set_cons_succ]
    refine wpAnyH_take (i := 10) (v := Value.bool true) rfl (by kernel_rfl) (by kernel_rfl) (by kernel_rfl) (fun _ _ _ h => h) (Or.inl ⟨rfl, fun w' hw' => ?_⟩) hHeld ?_
    · go_simp
    simp only [List.getElem_toArray, List.getElem_cons_succ, List.getElem_cons_zero, Act.put, List.setIfInBounds_toArray, List.set_cons_zero, List.set_cons_succ]
    refine wpAnyH_take (i := 11) (v := Value.bool true) rfl (by kernel_rfl) (by kernel_rfl) (by kernel_rfl) (fun _ _ _ h => h) (Or.inl ⟨rfl, fun w' hw' => ?_⟩) hHeld ?_
    · go_simp
    simp only [List.getElem_toArray, List.getElem_cons_succ, List.getElem_cons_zero, Act.put, List.setIfInBounds_toArray, List.set_cons_zero, List.set_cons_succ]
    refine wpAnyH_done (by kernel_rfl) ?_ _
    refine NoPanic.normal ?_
    clear hHeld
    have HD := Lib.hid (HB9.out.trans (HS5.out.mono HB9.out.size))
    go_wp2_with fail
    go_ret
    exact ⟨rfl, HD.out⟩
end Go.Proofs.YtmcgocbkjdacaaaDoor
