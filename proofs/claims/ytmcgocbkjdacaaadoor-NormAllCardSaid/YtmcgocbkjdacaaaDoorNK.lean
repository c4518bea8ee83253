/- What thunklaw7 knows. -/
import Derived.Test.YtmcgocbkjdacaaaDoorNN
import Derived.Test.YtmcgocbkjdacaaaDoorNS
namespace Go.Proofs.YtmcgocbkjdacaaaDoor
open Go.RowKit Go.BigM
set_option linter.unusedVariables false
set_option linter.unusedSimpArgs false
def five : Et := .mk 1 ⟨#[53]⟩ [] []
def fplus : Et := .mk 10 ⟨#[43]⟩ [] [five, five]
def fcons : Et := .mk 10 ⟨#[99, 111, 110, 115]⟩ [] [fplus, five]
theorem leaf_at (S : Nat → Prop) (w : World) (k : Int) (t : ByteArray) : Et.At S w (.mk k t [] []) #[.int .i64 k, .string t, .slice none 0 0, .slice none 0 0] := by
  rw [EAt_mk]; exact ⟨_, _, rfl, .inl ⟨rfl, rfl⟩, .inl ⟨rfl, rfl⟩⟩
theorem five_fine : five.fine := by unfold five; rw [fine_mk]; exact ⟨by decide, by simp, by simp, by simp⟩
theorem fplus_fine : fplus.fine := by unfold fplus; rw [fine_mk]; exact ⟨by decide, by simp, by simp, by simp; exact five_fine⟩
theorem fcons_fine : fcons.fine := by unfold fcons; rw [fine_mk]; exact ⟨by decide, by simp, by simp, by simp; exact ⟨fplus_fine, five_fine⟩⟩
theorem five_is : five.is = true := by unfold five; rw [is_mk, iss_nil]
theorem fcons_is : fcons.is = false := by
  unfold fcons
  rw [is_mk, iss_cons]
  simp [slot, fplus, Et.atom, atomB, Et.kind, Lib.toList_data]
theorem five_thick : five.thick = 0 := by unfold five; rw [thick_mk, thicks_nil]
theorem fcons_nrm : (fcons.nrm 0).2 = .mk 9 ⟨#[]⟩ [pn 1] [fplus, .mk 10 ⟨#[99, 111, 110, 115]⟩ [] [evar (pn 1), five]] := by
  have h5 : ∀ n, (five.nrm n) = (n, five) := fun n => by unfold five; rw [nrm_mk, nrms_nil]; rfl
  have hp : ∀ n, (fplus.nrm n) = (n, fplus) := fun n => by
    unfold fplus
    rw [nrm_mk]
    simp [nrms_cons, nrms_nil, h5, slot, Lib.toList_data, lets]
  unfold fcons
  rw [nrm_mk]
  simp [nrms_cons, nrms_nil, h5, hp, slot, Lib.toList_data, lets, ebind, Et.atom, atomB]
  simp [fplus, five, Et.kind, lets, ebind]
set_option maxHeartbeats 8000000 in
set_option maxRecDepth 100000 in
theorem known_any (w : World) (ht : Tab w) : Calls Tryd.prog 10 #[] w (RetBool true w) := by
  have A1 := (Below.refl w.heap.size w).alloc (Nat.le_refl _) (.cells #[.int .i64 1, .string ⟨#[53]⟩, .slice none 0 0, .slice none 0 0] 28)
  have A2 := A1.alloc A1.size (.cells #[.int .i64 1, .string ⟨#[53]⟩, .slice none 0 0, .slice none 0 0, .int .i64 1, .string ⟨#[53]⟩, .slice none 0 0, .slice none 0 0] 28)
  have A3 := A2.alloc A2.size (.cells #[.int .i64 10, .string ⟨#[43]⟩, .slice none 0 0, .slice (some ⟨w.heap.size + 1, 0, none⟩) 2 2, .int .i64 1, .string ⟨#[53]⟩, .slice none 0 0, .slice none 0 0] 28)
  have A4 := A3.alloc A3.size (.cells #[.int .i64 10, .string ⟨#[99, 111, 110, 115]⟩, .slice none 0 0, .slice (some ⟨w.heap.size + 1 + 1, 0, none⟩) 2 2] 28)
  have s1 : (w.alloc (.cells #[.int .i64 1, .string ⟨#[53]⟩, .slice none 0 0, .slice none 0 0] 28)).heap.size = w.heap.size + 1 := by simp
  have s2 : ((w.alloc (.cells #[.int .i64 1, .string ⟨#[53]⟩, .slice none 0 0, .slice none 0 0] 28)).alloc (.cells #[.int .i64 1, .string ⟨#[53]⟩, .slice none 0 0, .slice none 0 0, .int .i64 1, .string ⟨#[53]⟩, .slice none 0 0, .slice none 0 0] 28)).heap.size = w.heap.size + 1 + 1 := by simp
  have s3 : (((w.alloc (.cells #[.int .i64 1, .string ⟨#[53]⟩, .slice none 0 0, .slice none 0 0] 28)).alloc (.cells #[.int .i64 1, .string ⟨#[53]⟩, .slice none 0 0, .slice none 0 0, .int .i64 1, .string ⟨#[53]⟩, .slice none 0 0, .slice none 0 0] 28)).alloc (.cells #[.int .i64 10, .string ⟨#[43]⟩, .slice none 0 0, .slice (some ⟨w.heap.size + 1, 0, none⟩) 2 2, .int .i64 1, .string ⟨#[53]⟩, .slice none 0 0, .slice none 0 0] 28)).heap.size = w.heap.size + 1 + 1 + 1 := by simp
  have r0 : ((((w.alloc (.cells #[.int .i64 1, .string ⟨#[53]⟩, .slice none 0 0, .slice none 0 0] 28)).alloc (.cells #[.int .i64 1, .string ⟨#[53]⟩, .slice none 0 0, .slice none 0 0, .int .i64 1, .string ⟨#[53]⟩, .slice none 0 0, .slice none 0 0] 28)).alloc (.cells #[.int .i64 10, .string ⟨#[43]⟩, .slice none 0 0, .slice (some ⟨w.heap.size + 1, 0, none⟩) 2 2, .int .i64 1, .string ⟨#[53]⟩, .slice none 0 0, .slice none 0 0] 28)).alloc (.cells #[.int .i64 10, .string ⟨#[99, 111, 110, 115]⟩, .slice none 0 0, .slice (some ⟨w.heap.size + 1 + 1, 0, none⟩) 2 2] 28)).heap[w.heap.size]? = some (.cells #[.int .i64 1, .string ⟨#[53]⟩, .slice none 0 0, .slice none 0 0] 28 (0, 0)) := (Lib.alloc_old _ _ _ (by rw [s3]; omega)).trans ((Lib.alloc_old _ _ _ (by rw [s2]; omega)).trans ((Lib.alloc_old _ _ _ (by rw [s1]; omega)).trans (alloc_at w _)))
  have r1 : ((((w.alloc (.cells #[.int .i64 1, .string ⟨#[53]⟩, .slice none 0 0, .slice none 0 0] 28)).alloc (.cells #[.int .i64 1, .string ⟨#[53]⟩, .slice none 0 0, .slice none 0 0, .int .i64 1, .string ⟨#[53]⟩, .slice none 0 0, .slice none 0 0] 28)).alloc (.cells #[.int .i64 10, .string ⟨#[43]⟩, .slice none 0 0, .slice (some ⟨w.heap.size + 1, 0, none⟩) 2 2, .int .i64 1, .string ⟨#[53]⟩, .slice none 0 0, .slice none 0 0] 28)).alloc (.cells #[.int .i64 10, .string ⟨#[99, 111, 110, 115]⟩, .slice none 0 0, .slice (some ⟨w.heap.size + 1 + 1, 0, none⟩) 2 2] 28)).heap[w.heap.size + 1]? = some (.cells (#[.int .i64 1, .string ⟨#[53]⟩, .slice none 0 0, .slice none 0 0] ++ #[.int .i64 1, .string ⟨#[53]⟩, .slice none 0 0, .slice none 0 0]) 28 (0, 0)) := (Lib.alloc_old _ _ _ (by rw [s3]; omega)).trans ((Lib.alloc_old _ _ _ (by rw [s2]; omega)).trans (by have h := alloc_at (w.alloc (.cells #[.int .i64 1, .string ⟨#[53]⟩, .slice none 0 0, .slice none 0 0] 28)) (.cells #[.int .i64 1, .string ⟨#[53]⟩, .slice none 0 0, .slice none 0 0, .int .i64 1, .string ⟨#[53]⟩, .slice none 0 0, .slice none 0 0] 28); rw [s1] at h; exact h))
  have r2 : ((((w.alloc (.cells #[.int .i64 1, .string ⟨#[53]⟩, .slice none 0 0, .slice none 0 0] 28)).alloc (.cells #[.int .i64 1, .string ⟨#[53]⟩, .slice none 0 0, .slice none 0 0, .int .i64 1, .string ⟨#[53]⟩, .slice none 0 0, .slice none 0 0] 28)).alloc (.cells #[.int .i64 10, .string ⟨#[43]⟩, .slice none 0 0, .slice (some ⟨w.heap.size + 1, 0, none⟩) 2 2, .int .i64 1, .string ⟨#[53]⟩, .slice none 0 0, .slice none 0 0] 28)).alloc (.cells #[.int .i64 10, .string ⟨#[99, 111, 110, 115]⟩, .slice none 0 0, .slice (some ⟨w.heap.size + 1 + 1, 0, none⟩) 2 2] 28)).heap[w.heap.size + 1 + 1]? = some (.cells (#[.int .i64 10, .string ⟨#[43]⟩, .slice none 0 0, .slice (some ⟨w.heap.size + 1, 0, none⟩) 2 2] ++ #[.int .i64 1, .string ⟨#[53]⟩, .slice none 0 0, .slice none 0 0]) 28 (0, 0)) := (Lib.alloc_old _ _ _ (by rw [s3]; omega)).trans (by have h := alloc_at ((w.alloc (.cells #[.int .i64 1, .string ⟨#[53]⟩, .slice none 0 0, .slice none 0 0] 28)).alloc (.cells #[.int .i64 1, .string ⟨#[53]⟩, .slice none 0 0, .slice none 0 0, .int .i64 1, .string ⟨#[53]⟩, .slice none 0 0, .slice none 0 0] 28)) (.cells #[.int .i64 10, .string ⟨#[43]⟩, .slice none 0 0, .slice (some ⟨w.heap.size + 1, 0, none⟩) 2 2, .int .i64 1, .string ⟨#[53]⟩, .slice none 0 0, .slice none 0 0] 28); rw [s2] at h; exact h)
  have r3 : ((((w.alloc (.cells #[.int .i64 1, .string ⟨#[53]⟩, .slice none 0 0, .slice none 0 0] 28)).alloc (.cells #[.int .i64 1, .string ⟨#[53]⟩, .slice none 0 0, .slice none 0 0, .int .i64 1, .string ⟨#[53]⟩, .slice none 0 0, .slice none 0 0] 28)).alloc (.cells #[.int .i64 10, .string ⟨#[43]⟩, .slice none 0 0, .slice (some ⟨w.heap.size + 1, 0, none⟩) 2 2, .int .i64 1, .string ⟨#[53]⟩, .slice none 0 0, .slice none 0 0] 28)).alloc (.cells #[.int .i64 10, .string ⟨#[99, 111, 110, 115]⟩, .slice none 0 0, .slice (some ⟨w.heap.size + 1 + 1, 0, none⟩) 2 2] 28)).heap[w.heap.size + 1 + 1 + 1]? = some (.cells #[.int .i64 10, .string ⟨#[99, 111, 110, 115]⟩, .slice none 0 0, .slice (some ⟨w.heap.size + 1 + 1, 0, none⟩) 2 2] 28 (0, 0)) := by have h := alloc_at (((w.alloc (.cells #[.int .i64 1, .string ⟨#[53]⟩, .slice none 0 0, .slice none 0 0] 28)).alloc (.cells #[.int .i64 1, .string ⟨#[53]⟩, .slice none 0 0, .slice none 0 0, .int .i64 1, .string ⟨#[53]⟩, .slice none 0 0, .slice none 0 0] 28)).alloc (.cells #[.int .i64 10, .string ⟨#[43]⟩, .slice none 0 0, .slice (some ⟨w.heap.size + 1, 0, none⟩) 2 2, .int .i64 1, .string ⟨#[53]⟩, .slice none 0 0, .slice none 0 0] 28)) (.cells #[.int .i64 10, .string ⟨#[99, 111, 110, 115]⟩, .slice none 0 0, .slice (some ⟨w.heap.size + 1 + 1, 0, none⟩) 2 2] 28); rw [s3] at h; exact h
  have hF : ∀ W, Et.At (fun _ => True) W five #[.int .i64 1, .string ⟨#[53]⟩, .slice none 0 0, .slice none 0 0] := fun W => leaf_at _ W 1 ⟨#[53]⟩
  have hP : Et.At (fun _ => True) ((((w.alloc (.cells #[.int .i64 1, .string ⟨#[53]⟩, .slice none 0 0, .slice none 0 0] 28)).alloc (.cells #[.int .i64 1, .string ⟨#[53]⟩, .slice none 0 0, .slice none 0 0, .int .i64 1, .string ⟨#[53]⟩, .slice none 0 0, .slice none 0 0] 28)).alloc (.cells #[.int .i64 10, .string ⟨#[43]⟩, .slice none 0 0, .slice (some ⟨w.heap.size + 1, 0, none⟩) 2 2, .int .i64 1, .string ⟨#[53]⟩, .slice none 0 0, .slice none 0 0] 28)).alloc (.cells #[.int .i64 10, .string ⟨#[99, 111, 110, 115]⟩, .slice none 0 0, .slice (some ⟨w.heap.size + 1 + 1, 0, none⟩) 2 2] 28)) fplus #[.int .i64 10, .string ⟨#[43]⟩, .slice none 0 0, .slice (some ⟨w.heap.size + 1, 0, none⟩) 2 2] := by
    unfold fplus; rw [EAt_mk]
    exact ⟨_, _, rfl, .inl ⟨rfl, rfl⟩, two_at trivial (hF _) (hF _) rfl rfl r1⟩
  have hE : Et.At (fun _ => True) ((((w.alloc (.cells #[.int .i64 1, .string ⟨#[53]⟩, .slice none 0 0, .slice none 0 0] 28)).alloc (.cells #[.int .i64 1, .string ⟨#[53]⟩, .slice none 0 0, .slice none 0 0, .int .i64 1, .string ⟨#[53]⟩, .slice none 0 0, .slice none 0 0] 28)).alloc (.cells #[.int .i64 10, .string ⟨#[43]⟩, .slice none 0 0, .slice (some ⟨w.heap.size + 1, 0, none⟩) 2 2, .int .i64 1, .string ⟨#[53]⟩, .slice none 0 0, .slice none 0 0] 28)).alloc (.cells #[.int .i64 10, .string ⟨#[99, 111, 110, 115]⟩, .slice none 0 0, .slice (some ⟨w.heap.size + 1 + 1, 0, none⟩) 2 2] 28)) fcons #[.int .i64 10, .string ⟨#[99, 111, 110, 115]⟩, .slice none 0 0, .slice (some ⟨w.heap.size + 1 + 1, 0, none⟩) 2 2] := by
    unfold fcons; rw [EAt_mk]
    exact ⟨_, _, rfl, .inl ⟨rfl, rfl⟩, two_at trivial hP (hF _) rfl rfl r2⟩
  have HF := Lib.hid hF
  have HE := Lib.hid hE
  have HA4 := Lib.hid A4
  have HR0 := Lib.hid r0
  have HR3 := Lib.hid r3
  have HT := Lib.hid (ht.below A4)
  clear A1 A2 A3 A4 s1 s2 s3 r0 r1 r2 r3 hF hP hE ht
  have hone : (#[.int .i64 10, .string ⟨#[99, 111, 110, 115]⟩, .slice none 0 0, .slice (some ⟨w.heap.size + 1 + 1, 0, none⟩) 2 2] : Array Value).all (·.oneCell') = true := by simp [Value.oneCell']
  go_enter Tryd.func10, Tryd.ntmps10
  go_upto_region 3 with fail
  generalize ((((w.alloc (.cells #[.int .i64 1, .string ⟨#[53]⟩, .slice none 0 0, .slice none 0 0] 28)).alloc (.cells #[.int .i64 1, .string ⟨#[53]⟩, .slice none 0 0, .slice none 0 0, .int .i64 1, .string ⟨#[53]⟩, .slice none 0 0, .slice none 0 0] 28)).alloc (.cells #[.int .i64 10, .string ⟨#[43]⟩, .slice none 0 0, .slice (some ⟨w.heap.size + 1, 0, none⟩) 2 2, .int .i64 1, .string ⟨#[53]⟩, .slice none 0 0, .slice none 0 0] 28)).alloc (.cells #[.int .i64 10, .string ⟨#[99, 111, 110, 115]⟩, .slice none 0 0, .slice (some ⟨w.heap.size + 1 + 1, 0, none⟩) 2 2] 28)) = W4 at HF HE HA4 HR0 HR3 HT ⊢
  have HN := Lib.hid (norm_any fcons fcons_fine (by decide) (by have h := thick_lt fcons; have h2 : fcons.size = 5 := (by decide); omega) _ _ W4 HE.out HT.out)
  go_wp2_with (refine wpList_load_row rfl 28 _ rfl (w.heap.size + 1 + 1 + 1) rfl 28 #[.int .i64 10, .string ⟨#[99, 111, 110, 115]⟩, .slice none 0 0, .slice (some ⟨w.heap.size + 1 + 1, 0, none⟩) 2 2] (0, 0) _ HR3.out Tryd.underlying28 rfl info28 ?_)
  refine HN.out.mono ?_
  rintro r w5 ⟨cs5, rfl, hat5, hb5⟩
  rw [fcons_nrm, EAt_mk] at hat5
  obtain ⟨nv5, av5, rfl, hnv5, hav5⟩ := hat5
  obtain ⟨ao5, ac5, rfl⟩ := hav5.form
  obtain ⟨no5, nc5, rfl⟩ := hnv5.form
  obtain ⟨gn, on, rfl, -, cn⟩ := hnv5.get 0 (by simp)
  have z5 : (#[.int .i64 9, .string ⟨#[]⟩, .slice (some ⟨gn, on, none⟩) [pn 1].length nc5, .slice ao5 [fplus, .mk 10 ⟨#[99, 111, 110, 115]⟩ [] [evar (pn 1), five]].length ac5] : Array Value).all (·.oneCell') = true := by simp [Value.oneCell']
  have hpn : ([pn 1][0]'(by simp)) = ⟨#[37, 46, 49]⟩ := by show pn 1 = _; unfold pn; rw [dgn_small 1 (by decide)]; rfl
  rw [hpn] at cn
  simp only [List.length_cons, List.length_nil, Nat.zero_add, Nat.reduceAdd, Nat.add_zero] at z5 cn ⊢
  have A6 := (Below.refl w5.heap.size w5).alloc (Nat.le_refl _) (.cells #[.int .i64 9, .string ⟨#[]⟩, .slice (some ⟨gn, on, none⟩) 1 nc5, .slice ao5 2 ac5] 28)
  have HA6 := Lib.hid (HA4.out.trans ((hb5.trans (A6.mono hb5.size)).mono HA4.out.size))
  have HR6 : Hid (EB (w5.alloc (.cells #[.int .i64 9, .string ⟨#[]⟩, .slice (some ⟨gn, on, none⟩) 1 nc5, .slice ao5 2 ac5] 28)) w5.heap.size 9 ⟨#[]⟩ (.slice (some ⟨gn, on, none⟩) 1 nc5) (.slice ao5 2 ac5)) := alloc_at _ _
  have H05 : Hid (EB (w5.alloc (.cells #[.int .i64 9, .string ⟨#[]⟩, .slice (some ⟨gn, on, none⟩) 1 nc5, .slice ao5 2 ac5] 28)) w.heap.size 1 ⟨#[53]⟩ (.slice none 0 0) (.slice none 0 0)) := row_below A6 (row_below hb5 HR0.out)
  have H35 : Hid (EB (w5.alloc (.cells #[.int .i64 9, .string ⟨#[]⟩, .slice (some ⟨gn, on, none⟩) 1 nc5, .slice ao5 2 ac5] 28)) (w.heap.size + 1 + 1 + 1) 10 ⟨#[99, 111, 110, 115]⟩ (.slice none 0 0) (.slice (some ⟨w.heap.size + 1 + 1, 0, none⟩) 2 2)) := row_below A6 (row_below hb5 HR3.out)
  have HC6 := Lib.hid (cell_below A6 cn)
  have HT6 := Lib.hid ((HT.out.below hb5).below A6)
  have HE6 := Lib.hid (Et.At.keeps (Keeps.of_below A6) _ _ (Et.At.keeps (Keeps.of_below hb5) _ _ HE.out))
  clear hnv5 hav5 cn hb5 hpn A6 HN HT HR0 HR3 HE HA4
  go_upto_region 4 with (refine wpList_store_row rfl 28 _ _ rfl w5.heap.size #[.int .i64 9, .string ⟨#[]⟩, .slice (some ⟨gn, on, none⟩) 1 nc5, .slice ao5 2 ac5] rfl rfl 28 Z4 (alloc_at _ _) info28 rfl z5 ?_)
  try simp only [Act.put]
  have EE : (w5.alloc (.cells #[.int .i64 0, .string ⟨#[]⟩, .slice none 0 0, .slice none 0 0] 28)).setRow w5.heap.size #[.int .i64 9, .string ⟨#[]⟩, .slice (some ⟨gn, on, none⟩) 1 nc5, .slice ao5 2 ac5] = w5.alloc (.cells #[.int .i64 9, .string ⟨#[]⟩, .slice (some ⟨gn, on, none⟩) 1 nc5, .slice ao5 2 ac5] 28) := setRow_new _ _ _ _
  try rw [EE]
  clear EE
  generalize w5.alloc (.cells #[.int .i64 9, .string ⟨#[]⟩, .slice (some ⟨gn, on, none⟩) 1 nc5, .slice ao5 2 ac5] 28) = W6 at HA6 HR6 H05 H35 HC6 HT6 HE6 ⊢
  generalize w5.heap.size = gx at HR6 ⊢
  obtain ⟨g0, hg0⟩ : ∃ g0, g0 = w.heap.size := ⟨_, rfl⟩
  obtain ⟨g3, hg3⟩ : ∃ g3, g3 = g0 + 1 + 1 + 1 := ⟨_, rfl⟩
  rw [← hg0] at H05 H35
  rw [← hg3] at H35
  simp only [← hg0]
  simp only [← hg3]
  have HG0 := Lib.hid hg0
  clear hg0 hg3
  have HN5 : Hid (∀ w', Below W6.heap.size W6 w' → Calls Tryd.prog 16 #[.agg #[.int .i64 1, .string ⟨#[53]⟩, .slice none 0 0, .slice none 0 0]] w' (RetN five w')) := fun w' hw' => norm_any five five_fine (by decide) (by rw [five_thick]; omega) _ _ w' (HF.out w') (HT6.out.below hw')
  have HI5 : Hid (∀ w', Calls Tryd.prog 13 #[.agg #[.int .i64 1, .string ⟨#[53]⟩, .slice none 0 0, .slice none 0 0]] w' (RetBool true w')) := fun w' => by
    have h := is_any five five_fine (by decide) _ _ w' (HF.out w')
    rw [five_is] at h; exact h
  have HIE : Hid (∀ w', Below W6.heap.size W6 w' → Calls Tryd.prog 13 #[.agg #[.int .i64 10, .string ⟨#[99, 111, 110, 115]⟩, .slice none 0 0, .slice (some ⟨g0 + 1 + 1, 0, none⟩) 2 2]] w' (RetBool false w')) := fun w' hw' => by
    have h := is_any fcons fcons_fine (by decide) _ _ w' (Et.At.keeps (Keeps.of_below hw') _ _ HE6.out)
    rw [fcons_is] at h; rw [HG0.out]; exact h
  have HS0 : Hid (Below W6.heap.size W6 W6.drew) := (Below.refl _ _).drew
  have HC0 : Hid (∀ w', Below W6.heap.size W6 w' → w'.cell? ⟨g0, 0, none⟩ = some (.int .i64 1) ∧ w'.cell? ⟨g0, 1, none⟩ = some (.string ⟨#[53]⟩) ∧ w'.cell? ⟨g0, 2, none⟩ = some (.slice none 0 0) ∧ w'.cell? ⟨g0, 3, none⟩ = some (.slice none 0 0)) := fun w' hw' => EB.cell w' g0 _ _ _ _ (row_below hw' H05.out)
  have HC3 : Hid (∀ w', Below W6.heap.size W6 w' → w'.cell? ⟨g3, 0, none⟩ = some (.int .i64 10) ∧ w'.cell? ⟨g3, 1, none⟩ = some (.string ⟨#[99, 111, 110, 115]⟩) ∧ w'.cell? ⟨g3, 2, none⟩ = some (.slice none 0 0) ∧ w'.cell? ⟨g3, 3, none⟩ = some (.slice (some ⟨g0 + 1 + 1, 0, none⟩) 2 2)) := fun w' hw' => EB.cell w' g3 _ _ _ _ (row_below hw' H35.out)
  have HCX : Hid (∀ w', Below W6.heap.size W6 w' → w'.cell? ⟨gx, 0, none⟩ = some (.int .i64 9) ∧ w'.cell? ⟨gx, 2, none⟩ = some (.slice (some ⟨gn, on, none⟩) 1 nc5) ∧ w'.cell? ⟨gn, on, none⟩ = some (.string ⟨#[37, 46, 49]⟩)) := fun w' hw' => by
    obtain ⟨a0, a1, a2, a3⟩ := EB.cell w' gx _ _ _ _ (row_below hw' HR6.out)
    exact ⟨a0, a2, cell_below hw' HC6.out⟩
  refine wp_region_noPanic ?_
  refine wp_region_held_drew (S := Below W6.heap.size W6) (by kernel_rfl) HS0.out (fun hHeld => ?_)
  generalize W6.drew = X at HS0 hHeld ⊢
  refine wpAnyH_take (i := 0) (v := Value.agg #[.int .i64 1, .string ⟨#[53]⟩, .slice none 0 0, .slice none 0 0]) rfl (by kernel_rfl) (by kernel_rfl) (by kernel_rfl) (fun _ _ _ h => h) (Or.inl ⟨rfl, fun w' hw' => ?_⟩) hHeld ?_
  · obtain ⟨d0, d1, d2, d3⟩ := HC0.out w' hw'; go_simp
  simp only [List.getElem_toArray, List.getElem_cons_succ, List.getElem_cons_zero, Act.put, List.setIfInBounds_toArray, List.set_cons_zero, List.set_cons_succ]
  refine wpAnyH_take (i := 2) (v := Value.agg #[.int .i64 1, .string ⟨#[53]⟩, .slice none 0 0, .slice none 0 0]) rfl (by kernel_rfl) (by kernel_rfl) (by kernel_rfl) (fun _ _ _ h => h) (Or.inl ⟨rfl, fun w' hw' => ?_⟩) hHeld ?_
  · obtain ⟨d0, d1, d2, d3⟩ := HC0.out w' hw'; go_simp
  simp only [List.getElem_toArray, List.getElem_cons_succ, List.getElem_cons_zero, Act.put, List.setIfInBounds_toArray, List.set_cons_zero, List.set_cons_succ]
  refine wpAnyH_ready (rs := [1]) (by kernel_rfl) (by simp) ?_
  refine (AllReadyH.cons rfl (fun K hK => ?_) AllReadyH.nil)
  go_simp
  refine (HN5.out _ HS0.out).mono ?_
  rintro r u1 ⟨csq, rfl, hatq, hbq⟩
  have HS1 : Hid (Below W6.heap.size W6 u1) := HS0.out.trans (hbq.mono HS0.out.size)
  obtain ⟨k8, t8, no8, nn8, nc8, ao8, an8, ac8, rfl⟩ := EAt_sl hatq
  have hst := ((nrm_f five 0).stays five_is).1
  rw [hst] at hatq
  have HSM := Lib.hid (same_any five five (by decide) five_fine five_fine _ _ _ _ u1 hatq (HF.out u1))
  have hss : Et.same five five = true := (same_iff _ _).2 rfl
  rw [hss] at HSM
  clear hatq hst hss
  clear hbq
  refine hK.out _ _ HS1.out (fun hHeld => ?_)
  clear hK K
  try simp only [List.getElem_toArray, List.getElem_cons_succ, List.getElem_cons_zero, Act.put, List.setIfInBounds_toArray, List.set_cons_zero, List.set_cons_succ]
  refine wpAnyH_ready (rs := [3]) (by kernel_rfl) (by simp) ?_
  refine (AllReadyH.cons rfl (fun K hK => ?_) AllReadyH.nil)
  go_simp
  refine (HSM.out).mono ?_
  rintro r u3 ⟨rfl, hbq⟩
  have HS3 : Hid (Below W6.heap.size W6 u3) := HS1.out.trans (hbq.mono HS1.out.size)
  clear hbq
  refine hK.out _ _ HS3.out (fun hHeld => ?_)
  clear hK K
  try simp only [List.getElem_toArray, List.getElem_cons_succ, List.getElem_cons_zero, Act.put, List.setIfInBounds_toArray, List.set_cons_zero, List.set_cons_succ]
  refine wpAnyH_take (i := 4) (v := Value.bool true) rfl (by kernel_rfl) (by kernel_rfl) (by kernel_rfl) (fun _ _ _ h => h) (Or.inl ⟨rfl, fun w' hw' => ?_⟩) hHeld ?_
  · go_simp
  simp only [List.getElem_toArray, List.getElem_cons_succ, List.getElem_cons_zero, Act.put, List.setIfInBounds_toArray, List.set_cons_zero, List.set_cons_succ]
  refine wpAnyH_take (i := 5) (v := Value.agg #[.int .i64 1, .string ⟨#[53]⟩, .slice none 0 0, .slice none 0 0]) rfl (by kernel_rfl) (by kernel_rfl) (by kernel_rfl) (fun _ _ _ h => h) (Or.inl ⟨rfl, fun w' hw' => ?_⟩) hHeld ?_
  · obtain ⟨d0, d1, d2, d3⟩ := HC0.out w' hw'; go_simp
  simp only [List.getElem_toArray, List.getElem_cons_succ, List.getElem_cons_zero, Act.put, List.setIfInBounds_toArray, List.set_cons_zero, List.set_cons_succ]
  refine wpAnyH_ready (rs := [6]) (by kernel_rfl) (by simp) ?_
  refine (AllReadyH.cons rfl (fun K hK => ?_) AllReadyH.nil)
  go_simp
  refine (HI5.out _).mono ?_
  rintro r u6 ⟨rfl, hbq⟩
  have HS6 : Hid (Below W6.heap.size W6 u6) := HS3.out.trans (hbq.mono HS3.out.size)
  clear hbq
  refine hK.out _ _ HS6.out (fun hHeld => ?_)
  clear hK K
  try simp only [List.getElem_toArray, List.getElem_cons_succ, List.getElem_cons_zero, Act.put, List.setIfInBounds_toArray, List.set_cons_zero, List.set_cons_succ]
  refine wpAnyH_take (i := 7) (v := Value.bool true) rfl (by kernel_rfl) (by kernel_rfl) (by kernel_rfl) (fun _ _ _ h => h) (Or.inl ⟨rfl, fun w' hw' => ?_⟩) hHeld ?_
  · go_simp
  simp only [List.getElem_toArray, List.getElem_cons_succ, List.getElem_cons_zero, Act.put, List.setIfInBounds_toArray, List.set_cons_zero, List.set_cons_succ]
  refine wpAnyH_take (i := 8) (v := Value.bool true) rfl (by kernel_rfl) (by kernel_rfl) (by kernel_rfl) (fun _ _ _ h => h) (Or.inl ⟨rfl, fun w' hw' => ?_⟩) hHeld ?_
  · go_simp
  simp only [List.getElem_toArray, List.getElem_cons_succ, List.getElem_cons_zero, Act.put, List.setIfInBounds_toArray, List.set_cons_zero, List.set_cons_succ]
  refine wpAnyH_take (i := 9) (v := Value.agg #[.int .i64 10, .string ⟨#[99, 111, 110, 115]⟩, .slice none 0 0, .slice (some ⟨g0 + 1 + 1, 0, none⟩) 2 2]) rfl (by kernel_rfl) (by kernel_rfl) (by kernel_rfl) (fun _ _ _ h => h) (Or.inl ⟨rfl, fun w' hw' => ?_⟩) hHeld ?_
  · obtain ⟨d0, d1, d2, d3⟩ := HC3.out w' hw'; go_simp
  simp only [List.getElem_toArray, List.getElem_cons_succ, List.getElem_cons_zero, Act.put, List.setIfInBounds_toArray, List.set_cons_zero, List.set_cons_succ]
  refine wpAnyH_ready (rs := [10]) (by kernel_rfl) (by simp) ?_
  refine (AllReadyH.cons rfl (fun K hK => ?_) AllReadyH.nil)
  go_simp
  refine (HIE.out _ HS6.out).mono ?_
  rintro r u10 ⟨rfl, hbq⟩
  have HSZ : Hid (Below W6.heap.size W6 u10) := HS6.out.trans (hbq.mono HS6.out.size)
  clear hbq
  refine hK.out _ _ HSZ.out (fun hHeld => ?_)
  clear hK K
  try simp only [List.getElem_toArray, List.getElem_cons_succ, List.getElem_cons_zero, Act.put, List.setIfInBounds_toArray, List.set_cons_zero, List.set_cons_succ]
  refine wpAnyH_take (i := 11) (v := Value.bool true) rfl (by kernel_rfl) (by kernel_rfl) (by kernel_rfl) (fun _ _ _ h => h) (Or.inl ⟨rfl, fun w' hw' => ?_⟩) hHeld ?_
  · go_simp
  simp only [List.getElem_toArray, List.getElem_cons_succ, List.getElem_cons_zero, Act.put, List.setIfInBounds_toArray, List.set_cons_zero, List.set_cons_succ]
  refine wpAnyH_take (i := 12) (v := Value.bool true) rfl (by kernel_rfl) (by kernel_rfl) (by kernel_rfl) (fun _ _ _ h => h) (Or.inl ⟨rfl, fun w' hw' => ?_⟩) hHeld ?_
  · go_simp
  simp only [List.getElem_toArray, List.getElem_cons_succ, List.getElem_cons_zero, Act.put, List.setIfInBounds_toArray, List.set_cons_zero, List.set_cons_succ]
  refine wpAnyH_take (i := 13) (v := Value.bool true) rfl (by kernel_rfl) (by kernel_rfl) (by kernel_rfl) (fun _ _ _ h => h) (Or.inl ⟨rfl, fun w' hw' => ?_⟩) hHeld ?_
  · go_simp
  simp only [List.getElem_toArray, List.getElem_cons_succ, List.getElem_cons_zero, Act.put, List.setIfInBounds_toArray, List.set_cons_zero, List.set_cons_succ]
  refine wpAnyH_take (i := 14) (v := Value.pointer (some ⟨gx, 0, none⟩)) rfl (by kernel_rfl) (by kernel_rfl) (by kernel_rfl) (fun _ _ _ h => h) (Or.inl ⟨rfl, fun w' hw' => ?_⟩) hHeld ?_
  · go_simp
  simp only [List.getElem_toArray, List.getElem_cons_succ, List.getElem_cons_zero, Act.put, List.setIfInBounds_toArray, List.set_cons_zero, List.set_cons_succ]
  refine wpAnyH_take (i := 15) (v := Value.int .i64 9) rfl (by kernel_rfl) (by kernel_rfl) (by kernel_rfl) (fun _ _ _ h => h) (Or.inl ⟨rfl, fun w' hw' => ?_⟩) hHeld ?_
  · obtain ⟨d0, d2, d4⟩ := HCX.out w' hw'; go_simp
  simp only [List.getElem_toArray, List.getElem_cons_succ, List.getElem_cons_zero, Act.put, List.setIfInBounds_toArray, List.set_cons_zero, List.set_cons_succ]
  refine wpAnyH_take (i := 16) (v := Value.bool true) rfl (by kernel_rfl) (by kernel_rfl) (by kernel_rfl) (fun _ _ _ h => h) (Or.inl ⟨rfl, fun w' hw' => ?_⟩) hHeld ?_
  · go_simp
  simp only [List.getElem_toArray, List.getElem_cons_succ, List.getElem_cons_zero, Act.put, List.setIfInBounds_toArray, List.set_cons_zero, List.set_cons_succ]
  refine wpAnyH_take (i := 17) (v := Value.bool true) rfl (by kernel_rfl) (by kernel_rfl) (by kernel_rfl) (fun _ _ _ h => h) (Or.inl ⟨rfl, fun w' hw' => ?_⟩) hHeld ?_
  · go_simp
  simp only [List.getElem_toArray, List.getElem_cons_succ, List.getElem_cons_zero, Act.put, List.setIfInBounds_toArray, List.set_cons_zero, List.set_cons_succ]
  refine wpAnyH_take (i := 18) (v := Value.bool true) rfl (by kernel_rfl) (by kernel_rfl) (by kernel_rfl) (fun _ _ _ h => h) (Or.inl ⟨rfl, fun w' hw' => ?_⟩) hHeld ?_
  · go_simp
  simp only [List.getElem_toArray, List.getElem_cons_succ, List.getElem_cons_zero, Act.put, List.setIfInBounds_toArray, List.set_cons_zero, List.set_cons_succ]
  refine wpAnyH_take (i := 19) (v := Value.pointer (some ⟨gx, 2, none⟩)) rfl (by kernel_rfl) (by kernel_rfl) (by kernel_rfl) (fun _ _ _ h => h) (Or.inl ⟨rfl, fun w' hw' => ?_⟩) hHeld ?_
  · go_simp
  simp only [List.getElem_toArray, List.getElem_cons_succ, List.getElem_cons_zero, Act.put, List.setIfInBounds_toArray, List.set_cons_zero, List.set_cons_succ]
  refine wpAnyH_take (i := 20) (v := Value.slice (some ⟨gn, on, none⟩) 1 nc5) rfl (by kernel_rfl) (by kernel_rfl) (by kernel_rfl) (fun _ _ _ h => h) (Or.inl ⟨rfl, fun w' hw' => ?_⟩) hHeld ?_
  · obtain ⟨d0, d2, d4⟩ := HCX.out w' hw'; go_simp
  simp only [List.getElem_toArray, List.getElem_cons_succ, List.getElem_cons_zero, Act.put, List.setIfInBounds_toArray, List.set_cons_zero, List.set_cons_succ]
  refine wpAnyH_take (i := 21) (v := Value.int .i64 1) rfl (by kernel_rfl) (by kernel_rfl) (by kernel_rfl) (fun _ _ _ h => h) (Or.inl ⟨rfl, fun w' hw' => ?_⟩) hHeld ?_
  · go_simp
  simp only [List.getElem_toArray, List.getElem_cons_succ, List.getElem_cons_zero, Act.put, List.setIfInBounds_toArray, List.set_cons_zero, List.set_cons_succ]
  refine wpAnyH_take (i := 22) (v := Value.bool true) rfl (by kernel_rfl) (by kernel_rfl) (by kernel_rfl) (fun _ _ _ h => h) (Or.inl ⟨rfl, fun w' hw' => ?_⟩) hHeld ?_
  · go_simp
  simp only [List.getElem_toArray, List.getElem_cons_succ, List.getElem_cons_zero, Act.put, List.setIfInBounds_toArray, List.set_cons_zero, List.set_cons_succ]
  refine wpAnyH_take (i := 23) (v := Value.bool true) rfl (by kernel_rfl) (by kernel_rfl) (by kernel_rfl) (fun _ _ _ h => h) (Or.inl ⟨rfl, fun w' hw' => ?_⟩) hHeld ?_
  · go_simp
  simp only [List.getElem_toArray, List.getElem_cons_succ, List.getElem_cons_zero, Act.put, List.setIfInBounds_toArray, List.set_cons_zero, List.set_cons_succ]
  refine wpAnyH_take (i := 24) (v := Value.bool true) rfl (by kernel_rfl) (by kernel_rfl) (by kernel_rfl) (fun _ _ _ h => h) (Or.inl ⟨rfl, fun w' hw' => ?_⟩) hHeld ?_
  · go_simp
  simp only [List.getElem_toArray, List.getElem_cons_succ, List.getElem_cons_zero, Act.put, List.setIfInBounds_toArray, List.set_cons_zero, List.set_cons_succ]
  refine wpAnyH_take (i := 25) (v := Value.pointer (some ⟨gx, 2, none⟩)) rfl (by kernel_rfl) (by kernel_rfl) (by kernel_rfl) (fun _ _ _ h => h) (Or.inl ⟨rfl, fun w' hw' => ?_⟩) hHeld ?_
  · go_simp
  simp only [List.getElem_toArray, List.getElem_cons_succ, List.getElem_cons_zero, Act.put, List.setIfInBounds_toArray, List.set_cons_zero, List.set_cons_succ]
  refine wpAnyH_take (i := 26) (v := Value.slice (some ⟨gn, on, none⟩) 1 nc5) rfl (by kernel_rfl) (by kernel_rfl) (by kernel_rfl) (fun _ _ _ h => h) (Or.inl ⟨rfl, fun w' hw' => ?_⟩) hHeld ?_
  · obtain ⟨d0, d2, d4⟩ := HCX.out w' hw'; go_simp
  simp only [List.getElem_toArray, List.getElem_cons_succ, List.getElem_cons_zero, Act.put, List.setIfInBounds_toArray, List.set_cons_zero, List.set_cons_succ]
  refine wpAnyH_take (i := 27) (v := Value.pointer (some ⟨gn, on, none⟩)) rfl (by kernel_rfl) (by kernel_rfl) (by kernel_rfl) (fun _ _ _ h => h) (Or.inl ⟨rfl, fun w' hw' => ?_⟩) hHeld ?_
  · go_simp
  simp only [List.getElem_toArray, List.getElem_cons_succ, List.getElem_cons_zero, Act.put, List.setIfInBounds_toArray, List.set_cons_zero, List.set_cons_succ]
  refine wpAnyH_take (i := 28) (v := Value.string ⟨#[37, 46, 49]⟩) rfl (by kernel_rfl) (by kernel_rfl) (by kernel_rfl) (fun _ _ _ h => h) (Or.inl ⟨rfl, fun w' hw' => ?_⟩) hHeld ?_
  · obtain ⟨d0, d2, d4⟩ := HCX.out w' hw'; go_simp
  simp only [List.getElem_toArray, List.getElem_cons_succ, List.getElem_cons_zero, Act.put, List.setIfInBounds_toArray, List.set_cons_zero, List.set_cons_succ]
  refine wpAnyH_take (i := 29) (v := Value.bool true) rfl (by kernel_rfl) (by kernel_rfl) (by kernel_rfl) (fun _ _ _ h => h) (Or.inl ⟨rfl, fun w' hw' => ?_⟩) hHeld ?_
  · go_simp
  simp only [List.getElem_toArray, List.getElem_cons_succ, List.getElem_cons_zero, Act.put, List.setIfInBounds_toArray, List.set_cons_zero, List.set_cons_succ]
  refine wpAnyH_take (i := 30) (v := Value.bool true) rfl (by kernel_rfl) (by kernel_rfl) (by kernel_rfl) (fun _ _ _ h => h) (Or.inl ⟨rfl, fun w' hw' => ?_⟩) hHeld ?_
  · go_simp
  simp only [List.getElem_toArray, List.getElem_cons_succ, List.getElem_cons_zero, Act.put, List.setIfInBounds_toArray, List.set_cons_zero, List.set_cons_succ]
  refine wpAnyH_take (i := 31) (v := Value.bool true) rfl (by kernel_rfl) (by kernel_rfl) (by kernel_rfl) (fun _ _ _ h => h) (Or.inl ⟨rfl, fun w' hw' => ?_⟩) hHeld ?_
  · go_simp
  simp only [List.getElem_toArray, List.getElem_cons_succ, List.getElem_cons_zero, Act.put, List.setIfInBounds_toArray, List.set_cons_zero, List.set_cons_succ]
  refine wpAnyH_done (by kernel_rfl) ?_ _
  refine NoPanic.normal ?_
  clear hHeld
  have HD := Lib.hid (HA6.out.trans (HSZ.out.mono HA6.out.size))
  go_wp2_with fail
  go_ret
  exact ⟨rfl, HD.out⟩
end Go.Proofs.YtmcgocbkjdacaaaDoor
