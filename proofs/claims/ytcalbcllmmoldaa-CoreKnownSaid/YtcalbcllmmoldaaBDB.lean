/- A let of one; leaves. -/
import Derived.Test.YtcalbcllmmoldaaMK1
import Derived.Test.YtcalbcllmmoldaaTM1
import Derived.Test.YtcalbcllmmoldaaTX5
import Derived.Test.YtcalbcllmmoldaaFR3
import Derived.Test.YtcalbcllmmoldaaK2
import Derived.Test.YtcalbcllmmoldaaR2
import Derived.Test.YtcalbcllmmoldaaOW
import Derived.Laws.Cover1
namespace Go.Proofs.Ytcalbcllmmoldaa
open Go.RowKit Go.BigM
set_option linter.unusedVariables false
set_option linter.unusedSimpArgs false
theorem EAt_sl {S : Nat → Prop} {w : World} {e : Et} {cs : Array Value} (h : Et.At S w e cs) : ∃ k t no nn nc ao an ac, cs = #[.int .i64 k, .string t, .slice no nn nc, .slice ao an ac] := by
  obtain ⟨k, t, ns, l⟩ := e
  rw [EAt_mk] at h
  obtain ⟨nv, av, e, hm, hl⟩ := h
  obtain ⟨no, nc, rfl⟩ := hm.form
  obtain ⟨ao, ac, rfl⟩ := hl.form
  exact ⟨_, _, _, _, _, _, _, _, e⟩
def RetBind (s : ByteArray) (v e : Et) (w : World) (r : Ending) (w' : World) : Prop :=
  ∃ cs, r = .returned (.agg cs) ∧ Et.At (fun _ => True) w' (.mk 9 ⟨#[]⟩ [s] [v, e]) cs ∧ Below w.heap.size w w'
theorem two_at {S : Nat → Prop} {w : World} {t0 t1 : Et} {c0 c1 : Array Value} {g : Nat} (hg : S g) (h0 : Et.At S w t0 c0) (h1 : Et.At S w t1 c1) (hc0 : c0.size = 4) (hc1 : c1.size = 4) (hr : w.heap[g]? = some (.cells (c0 ++ c1) 28 (0, 0))) : AAt S w (.slice (some ⟨g, 0, none⟩) 2 2) [t0, t1] := by
  refine .inr ⟨g, 0, 2, _, (0, 0), rfl, hg, hr, ?_, Nat.le_refl _⟩
  unfold Ets.At
  refine ⟨⟨c0, fun i hi => ?_, h0⟩, ?_⟩
  · rw [Nat.zero_add, Array.getElem?_append_left (by omega)]
  unfold Ets.At
  refine ⟨⟨c1, fun i hi => ?_, h1⟩, by unfold Ets.At; trivial⟩
  rw [Array.getElem?_append_right (by omega)]
  congr 1; omega
set_option maxHeartbeats 8000000 in
set_option maxRecDepth 100000 in
theorem bind_any (s : ByteArray) (v e : Et) (S : Nat → Prop) (cv ce : Array Value) (w : World) (hv : Et.At S w v cv) (he : Et.At S w e ce) : Calls Try.prog 29 #[.string s, .agg cv, .agg ce] w (RetBind s v e w) := by
  obtain ⟨k1, t1, no1, nn1, nc1, ao1, an1, ac1, rfl⟩ := EAt_sl hv
  obtain ⟨k2, t2, no2, nn2, nc2, ao2, an2, ac2, rfl⟩ := EAt_sl he
  obtain ⟨C1, hC1⟩ : ∃ C : Array Value, C = #[.int .i64 k1, .string t1, .slice no1 nn1 nc1, .slice ao1 an1 ac1] := ⟨_, rfl⟩
  obtain ⟨C2, hC2⟩ : ∃ C : Array Value, C = #[.int .i64 k2, .string t2, .slice no2 nn2 nc2, .slice ao2 an2 ac2] := ⟨_, rfl⟩
  have A1 := (Below.refl w.heap.size w).alloc (Nat.le_refl _) (.cells C1 28)
  have A2 := A1.alloc A1.size (.cells C2 28)
  have A3 := A2.alloc A2.size (.cells Z4 28)
  have s1 : (w.alloc (.cells C1 28)).heap.size = w.heap.size + 1 := by simp
  have s2 : ((w.alloc (.cells C1 28)).alloc (.cells C2 28)).heap.size = w.heap.size + 1 + 1 := by simp
  have r0 : (((w.alloc (.cells C1 28)).alloc (.cells C2 28)).alloc (.cells Z4 28)).heap[w.heap.size]? = some (.cells C1 28 (0, 0)) := (Lib.alloc_old _ _ _ (by rw [s2]; omega)).trans ((Lib.alloc_old _ _ _ (by rw [s1]; omega)).trans (alloc_at w _))
  have r1 : (((w.alloc (.cells C1 28)).alloc (.cells C2 28)).alloc (.cells Z4 28)).heap[w.heap.size + 1]? = some (.cells C2 28 (0, 0)) := (Lib.alloc_old _ _ _ (by rw [s2]; omega)).trans (by have h := alloc_at (w.alloc (.cells C1 28)) (.cells C2 28); rw [s1] at h; exact h)
  have r2 : (((w.alloc (.cells C1 28)).alloc (.cells C2 28)).alloc (.cells Z4 28)).heap[w.heap.size + 1 + 1]? = some (.cells Z4 28 (0, 0)) := by have h := alloc_at ((w.alloc (.cells C1 28)).alloc (.cells C2 28)) (.cells Z4 28); rw [s2] at h; exact h
  have s3 : (((w.alloc (.cells C1 28)).alloc (.cells C2 28)).alloc (.cells Z4 28)).heap.size = w.heap.size + 3 := by simp
  rw [hC1, hC2] at A3 r0 r1 r2 s3
  have HV := Lib.hid (Et.At.keeps (Keeps.of_below A3) _ _ (Et.At.mono (fun _ h => h.2) _ _ (Et.At.bound _ _ hv)))
  have HE := Lib.hid (Et.At.keeps (Keeps.of_below A3) _ _ (Et.At.mono (fun _ h => h.2) _ _ (Et.At.bound _ _ he)))
  have HA3 := Lib.hid A3
  have HR0 := Lib.hid r0
  have HR1 := Lib.hid r1
  have HR2 := Lib.hid r2
  have HS3 := Lib.hid s3
  clear hv he A1 A2 A3 s1 s2 r0 r1 r2 s3 hC1 hC2
  go_enter Try.func29, Try.ntmps29
  go_upto_region 1 with fail
  obtain ⟨g0, hg0⟩ : ∃ g0, g0 = w.heap.size := ⟨_, rfl⟩
  obtain ⟨g1, hg1⟩ : ∃ g1, g1 = g0 + 1 := ⟨_, rfl⟩
  obtain ⟨g2, hg2⟩ : ∃ g2, g2 = g1 + 1 := ⟨_, rfl⟩
  rw [← hg0] at HR0 HR1 HR2
  rw [← hg1] at HR1 HR2
  rw [← hg2] at HR2
  simp only [← hg0]
  simp only [← hg1]
  simp only [← hg2]
  generalize (((w.alloc (.cells #[.int .i64 k1, .string t1, .slice no1 nn1 nc1, .slice ao1 an1 ac1] 28)).alloc (.cells #[.int .i64 k2, .string t2, .slice no2 nn2 nc2, .slice ao2 an2 ac2] 28)).alloc (.cells Z4 28)) = W3 at HA3 HR0 HR1 HR2 HS3 HV HE ⊢
  have hg2w : w.heap.size ≤ g2 := by omega
  have hg2l : g2 < W3.heap.size := by have := HS3.out; omega
  clear hg0 hg1 hg2
  have B4 := (Below.refl W3.heap.size W3).alloc (Nat.le_refl _) (.cells #[.string s] 9)
  have s4 : (W3.alloc (.cells #[.string s] 9)).heap.size = W3.heap.size + 1 := by simp
  obtain ⟨d0, d1, d2, d3⟩ := EB.cell _ _ _ _ _ _ (show EB (W3.alloc (.cells #[.string s] 9)) g0 k1 t1 _ _ from row_below B4 HR0.out)
  obtain ⟨f0, f1, f2, f3⟩ := EB.cell _ _ _ _ _ _ (show EB (W3.alloc (.cells #[.string s] 9)) g1 k2 t2 _ _ from row_below B4 HR1.out)
  have B5 := B4.alloc B4.size (.cells (#[.int .i64 k1, .string t1, .slice no1 nn1 nc1, .slice ao1 an1 ac1] ++ #[.int .i64 k2, .string t2, .slice no2 nn2 nc2, .slice ao2 an2 ac2]) 28)
  have HZ5 : Hid (((W3.alloc (.cells #[.string s] 9)).alloc (.cells #[.int .i64 k1, .string t1, .slice no1 nn1 nc1, .slice ao1 an1 ac1, .int .i64 k2, .string t2, .slice no2 nn2 nc2, .slice ao2 an2 ac2] 28)).heap[g2]? = some (.cells Z4 28 (0, 0))) := row_below B5 HR2.out
  have hone : (#[.int .i64 9, .string ⟨#[]⟩, .slice (some ⟨W3.heap.size, 0, none⟩) 1 1, .slice (some ⟨W3.heap.size + 1, 0, none⟩) 2 2] : Array Value).all (·.oneCell') = true := by simp [Value.oneCell']
  have HFIN : Hid (RetBind s v e w (.returned (.agg #[.int .i64 9, .string ⟨#[]⟩, .slice (some ⟨W3.heap.size, 0, none⟩) 1 1, .slice (some ⟨W3.heap.size + 1, 0, none⟩) 2 2])) (((W3.alloc (.cells #[.string s] 9)).alloc (.cells #[.int .i64 k1, .string t1, .slice no1 nn1 nc1, .slice ao1 an1 ac1, .int .i64 k2, .string t2, .slice no2 nn2 nc2, .slice ao2 an2 ac2] 28)).setRow g2 #[.int .i64 9, .string ⟨#[]⟩, .slice (some ⟨W3.heap.size, 0, none⟩) 1 1, .slice (some ⟨W3.heap.size + 1, 0, none⟩) 2 2])) := by
    have hk : ∀ {S : Nat → Prop} {W : World} (_ : ∀ x, S x → x ≠ g2), Keeps S W (W.setRow g2 #[.int .i64 9, .string ⟨#[]⟩, .slice (some ⟨W3.heap.size, 0, none⟩) 1 1, .slice (some ⟨W3.heap.size + 1, 0, none⟩) 2 2]) := fun {S W} hS x c T fz hx hxx _ => ⟨fz, by rw [setRow_other W g2 x _ (hS x hx)]; exact hxx⟩
    obtain ⟨W5, hW5⟩ : ∃ W5, W5 = (W3.alloc (.cells #[.string s] 9)).alloc (.cells #[.int .i64 k1, .string t1, .slice no1 nn1 nc1, .slice ao1 an1 ac1, .int .i64 k2, .string t2, .slice no2 nn2 nc2, .slice ao2 an2 ac2] 28) := ⟨_, rfl⟩
    have b5 : Below W3.heap.size W3 W5 := by rw [hW5]; exact B5
    have n5 : W5.heap[W3.heap.size]? = some (.cells #[.string s] 9 (0, 0)) := by rw [hW5]; exact (Lib.alloc_old _ _ _ (by rw [s4]; omega)).trans (alloc_at W3 _)
    have p5 : W5.heap[W3.heap.size + 1]? = some (.cells (#[.int .i64 k1, .string t1, .slice no1 nn1 nc1, .slice ao1 an1 ac1] ++ #[.int .i64 k2, .string t2, .slice no2 nn2 nc2, .slice ao2 an2 ac2]) 28 (0, 0)) := by
      rw [hW5]
      have h := alloc_at (W3.alloc (.cells #[.string s] 9)) (.cells #[.int .i64 k1, .string t1, .slice no1 nn1 nc1, .slice ao1 an1 ac1, .int .i64 k2, .string t2, .slice no2 nn2 nc2, .slice ao2 an2 ac2] 28)
      rw [s4] at h; exact h
    rw [← hW5]
    refine ⟨_, rfl, ?_, ?_⟩
    · rw [EAt_mk]
      refine ⟨_, _, rfl, .inr ⟨W3.heap.size, 0, 1, #[.string s], (0, 0), rfl, trivial, by rw [setRow_other W5 g2 _ _ (by omega)]; exact n5, fun j hj => ?_, Nat.le_refl _⟩, two_at trivial (Et.At.mono (fun _ _ => trivial) _ _ (Et.At.keeps (hk fun x hx => by have : x < w.heap.size := hx; omega) _ _ (Et.At.keeps (Keeps.of_below b5) _ _ HV.out))) (Et.At.mono (fun _ _ => trivial) _ _ (Et.At.keeps (hk fun x hx => by have : x < w.heap.size := hx; omega) _ _ (Et.At.keeps (Keeps.of_below b5) _ _ HE.out))) rfl rfl (by rw [setRow_other W5 g2 _ _ (by omega)]; exact p5)⟩
      have hj0 : j = 0 := by simp at hj; omega
      subst hj0; rfl
    · exact Below.setRowUp (HA3.out.trans (b5.mono HA3.out.size)) _ _ hg2w
  clear B4 B5 s4
  go_wp2_with (first | (refine wpList_store_row rfl 28 _ _ rfl g2 #[.int .i64 9, .string ⟨#[]⟩, .slice (some ⟨W3.heap.size, 0, none⟩) 1 1, .slice (some ⟨W3.heap.size + 1, 0, none⟩) 2 2] rfl rfl 28 Z4 HZ5.out info28 rfl hone ?_))
  refine bodyPost_ret (results_cell_row rfl _ _ g2 28 #[.int .i64 9, .string ⟨#[]⟩, .slice (some ⟨W3.heap.size, 0, none⟩) 1 1, .slice (some ⟨W3.heap.size + 1, 0, none⟩) 2 2] (0, 0) _ rfl (setRow_heap _ _ _ _ 28 _ HZ5.out) Try.underlying28 rfl info28) rfl ?_
  exact HFIN.out
/-- The loop over what is free: names of the scope, in rising order. -/
theorem leaf_at (S : Nat → Prop) (w : World) (k : Int) (t : ByteArray) : Et.At S w (.mk k t [] []) #[.int .i64 k, .string t, .slice none 0 0, .slice none 0 0] := by
  rw [EAt_mk]; exact ⟨_, _, rfl, .inl ⟨rfl, rfl⟩, .inl ⟨rfl, rfl⟩⟩
end Go.Proofs.Ytcalbcllmmoldaa
