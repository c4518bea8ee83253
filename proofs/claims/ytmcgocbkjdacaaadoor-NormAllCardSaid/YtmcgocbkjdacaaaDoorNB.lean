/- A let of one: the document's Bind; how it lies. -/
import Derived.Test.YtmcgocbkjdacaaaDoorNM
import Derived.Test.YtmcgocbkjdacaaaDoorTM1
namespace Go.Proofs.YtmcgocbkjdacaaaDoor
open Go.RowKit Go.BigM
set_option linter.unusedVariables false
set_option linter.unusedSimpArgs false
theorem EAt_sl {S : Nat → Prop} {w : World} {e : Et} {cs : Array Value} (h : Et.At S w e cs) : ∃ k t no nn nc ao an ac, cs = #[.int .i64 k, .string t, .slice no nn nc, .slice ao an ac] := by
  obtain ⟨k, t, ns, l⟩ := e
  rw [EAt_mk] at h
  obtain ⟨nv, av, e, hm, hl⟩ := h
  obtain ⟨no, nc, rfl⟩ := hm.form
  obtain ⟨ao, ac, rfl⟩ := hl.form
  exact ⟨_, _, _, _, _, _, _, _, e⟩
theorem two_at {S : Nat → Prop} {w : World} {t0 t1 : Et} {c0 c1 : Array Value} {g : Nat} (hg : S g) (h0 : Et.At S w t0 c0) (h1 : Et.At S w t1 c1) (hc0 : c0.size = 4) (hc1 : c1.size = 4) (hr : w.heap[g]? = some (.cells (c0 ++ c1) 28 (0, 0))) : AAt S w (.slice (some ⟨g, 0, none⟩) 2 2) [t0, t1] := by
  refine .inr ⟨g, 0, 2, _, (0, 0), rfl, hg, hr, ?_, Nat.le_refl _⟩
  unfold Ets.At
  refine ⟨⟨c0, fun i hi => ?_, h0⟩, ?_⟩
  · rw [Nat.zero_add, Array.getElem?_append_left (by omega)]
  unfold Ets.At
  refine ⟨⟨c1, fun i hi => ?_, h1⟩, by unfold Ets.At; trivial⟩
  rw [Array.getElem?_append_right (by omega)]
  congr 1; omega
/-- What a let's row leads to. -/
abbrev bindRow (g : Nat) : Array Value := #[.int .i64 9, .string ⟨#[]⟩, .slice (some ⟨g, 0, none⟩) 1 1, .slice (some ⟨g + 1, 0, none⟩) 2 2]
theorem bind_row {S : Nat → Prop} {W : World} {s : ByteArray} {v e : Et} {cv ce : Array Value} {g2 : Nat} (hv : Et.At S W v cv) (he : Et.At S W e ce) (hS : ∀ x, S x → x ≠ g2) (hg2 : g2 < W.heap.size) (h4 : cv.size = 4) (h5 : ce.size = 4) :
    Et.At (fun x => S x ∨ W.heap.size ≤ x) (((W.alloc (.cells #[.string s] 9)).alloc (.cells (cv ++ ce) 28)).setRow g2 (bindRow W.heap.size)) (ebind s v e) (bindRow W.heap.size) := by
  have B4 := (Below.refl W.heap.size W).alloc (Nat.le_refl _) (.cells #[.string s] 9)
  have s4 : (W.alloc (.cells #[.string s] 9)).heap.size = W.heap.size + 1 := by simp
  have B5 := B4.alloc B4.size (.cells (cv ++ ce) 28)
  have hk : ∀ {T : Nat → Prop} {Y : World} (_ : ∀ x, T x → x ≠ g2), Keeps T Y (Y.setRow g2 (bindRow W.heap.size)) := fun {T Y} hT x c U fz hx hxx _ => ⟨fz, by rw [setRow_other Y g2 x _ (hT x hx)]; exact hxx⟩
  obtain ⟨W5, hW5⟩ : ∃ W5, W5 = (W.alloc (.cells #[.string s] 9)).alloc (.cells (cv ++ ce) 28) := ⟨_, rfl⟩
  have b5 : Below W.heap.size W W5 := by rw [hW5]; exact B5
  have n5 : W5.heap[W.heap.size]? = some (.cells #[.string s] 9 (0, 0)) := by rw [hW5]; exact (Lib.alloc_old _ _ _ (by rw [s4]; omega)).trans (alloc_at W _)
  have p5 : W5.heap[W.heap.size + 1]? = some (.cells (cv ++ ce) 28 (0, 0)) := by
    rw [hW5]
    have h := alloc_at (W.alloc (.cells #[.string s] 9)) (.cells (cv ++ ce) 28)
    rw [s4] at h; exact h
  rw [← hW5]
  unfold ebind
  rw [EAt_mk]
  refine ⟨_, _, rfl, .inr ⟨W.heap.size, 0, 1, #[.string s], (0, 0), rfl, .inr (Nat.le_refl _), by rw [setRow_other W5 g2 _ _ (by omega)]; exact n5, fun j hj => ?_, Nat.le_refl _⟩, two_at (.inr (Nat.le_succ _)) (Et.At.mono (fun _ h => .inl h) _ _ (Et.At.keeps (hk hS) _ _ (Et.At.keeps (Keeps.of_below b5) _ _ hv))) (Et.At.mono (fun _ h => .inl h) _ _ (Et.At.keeps (hk hS) _ _ (Et.At.keeps (Keeps.of_below b5) _ _ he))) h4 h5 (by rw [setRow_other W5 g2 _ _ (by omega)]; exact p5)⟩
  have hj0 : j = 0 := by simp at hj; omega
  subst hj0; rfl
def RetBind (S : Nat → Prop) (s : ByteArray) (v e : Et) (w : World) (r : Ending) (w' : World) : Prop :=
  ∃ cs, r = .returned (.agg cs) ∧ Et.At (fun x => S x ∨ w.heap.size ≤ x) w' (ebind s v e) cs ∧ Below w.heap.size w w'
set_option maxHeartbeats 8000000 in
set_option maxRecDepth 100000 in
theorem bind_any (s : ByteArray) (v e : Et) (S : Nat → Prop) (cv ce : Array Value) (w : World) (hv : Et.At S w v cv) (he : Et.At S w e ce) : Calls Tryd.prog 27 #[.string s, .agg cv, .agg ce] w (RetBind S s v e w) := by
  obtain ⟨k1, t1, no1, nn1, nc1, ao1, an1, ac1, rfl⟩ := EAt_sl hv
  obtain ⟨k2, t2, no2, nn2, nc2, ao2, an2, ac2, rfl⟩ := EAt_sl he
  obtain ⟨C1, hC1⟩ : ∃ C : Array Value, C = #[.int .i64 k1, .string t1, .slice no1 nn1 nc1, .slice ao1 an1 ac1] := ⟨_, rfl⟩
  obtain ⟨C2, hC2⟩ : ∃ C : Array Value, C = #[.int .i64 k2, .string t2, .slice no2 nn2 nc2, .slice ao2 an2 ac2] := ⟨_, rfl⟩
  have A1 := (Below.refl w.heap.size w).alloc (Nat.le_refl _) (.cells C1 28)
  have A2 := A1.alloc A1.size (.cells C2 28)
  have A3 := A2.alloc A2.size (.cells Z4 28)
  have s1 : (w.alloc (.cells C1 28)).heap.size = w.heap.size + 1 := by simp
  have s2 : ((w.alloc (.cells C1 28)).alloc (.cells C2 28)).heap.size = w.heap.size + 1 + 1 := by simp
  have r0 : (((w.alloc (.cells C1 28)).alloc (.cells C2 28)).alloc (.cells Z4 28)).heap[w.heap.size]? = some (.cells C1 28 (0, 0)) := (Lib.alloc_old _ _ _ (by rw [s2]; omega)).trans ((Lib.alloc_old _ _ _ (by rw [s1]; omega)).trans (alloc_at w _))
  have r1 : (((w.alloc (.cells C1 28)).alloc (.cells C2 28)).alloc (.cells Z4 28)).heap[w.heap.size + 1]? = some (.cells C2 28 (0, 0)) := (Lib.alloc_old _ _ _ (by rw [s2]; omega)).trans (by have h := alloc_at (w.alloc (.cells C1 28)) (.cells C2 28); rw [s1] at h; exact h)
  have r2 : (((w.alloc (.cells C1 28)).alloc (.cells C2 28)).alloc (.cells Z4 28)).heap[w.heap.size + 1 + 1]? = some (.cells Z4 28 (0, 0)) := by have h := alloc_at ((w.alloc (.cells C1 28)).alloc (.cells C2 28)) (.cells Z4 28); rw [s2] at h; exact h
  have s3 : (((w.alloc (.cells C1 28)).alloc (.cells C2 28)).alloc (.cells Z4 28)).heap.size = w.heap.size + 3 := by simp
  rw [hC1, hC2] at A3 r0 r1 r2 s3
  have HV := Lib.hid (Et.At.keeps (Keeps.of_below A3) _ _ (Et.At.bound _ _ hv))
  have HE := Lib.hid (Et.At.keeps (Keeps.of_below A3) _ _ (Et.At.bound _ _ he))
  have HA3 := Lib.hid A3
  have HR0 := Lib.hid r0
  have HR1 := Lib.hid r1
  have HR2 := Lib.hid r2
  have HS3 := Lib.hid s3
  clear hv he A1 A2 A3 s1 s2 r0 r1 r2 s3 hC1 hC2
  go_enter Tryd.func27, Tryd.ntmps27
  go_upto_region 1 with fail
  obtain ⟨g0, hg0⟩ : ∃ g0, g0 = w.heap.size := ⟨_, rfl⟩
  obtain ⟨g1, hg1⟩ : ∃ g1, g1 = g0 + 1 := ⟨_, rfl⟩
  obtain ⟨g2, hg2⟩ : ∃ g2, g2 = g1 + 1 := ⟨_, rfl⟩
  rw [← hg0] at HR0 HR1 HR2
  rw [← hg1] at HR1 HR2
  rw [← hg2] at HR2
  simp only [← hg0]
  simp only [← hg1]
  simp only [← hg2]
  generalize (((w.alloc (.cells #[.int .i64 k1, .string t1, .slice no1 nn1 nc1, .slice ao1 an1 ac1] 28)).alloc (.cells #[.int .i64 k2, .string t2, .slice no2 nn2 nc2, .slice ao2 an2 ac2] 28)).alloc (.cells Z4 28)) = W3 at HA3 HR0 HR1 HR2 HS3 HV HE ⊢
  have hg2w : w.heap.size ≤ g2 := by omega
  have hg2l : g2 < W3.heap.size := by have := HS3.out; omega
  clear hg0 hg1 hg2
  have B4 := (Below.refl W3.heap.size W3).alloc (Nat.le_refl _) (.cells #[.string s] 9)
  have s4 : (W3.alloc (.cells #[.string s] 9)).heap.size = W3.heap.size + 1 := by simp
  obtain ⟨d0, d1, d2, d3⟩ := EB.cell _ _ _ _ _ _ (show EB (W3.alloc (.cells #[.string s] 9)) g0 k1 t1 _ _ from row_below B4 HR0.out)
  obtain ⟨f0, f1, f2, f3⟩ := EB.cell _ _ _ _ _ _ (show EB (W3.alloc (.cells #[.string s] 9)) g1 k2 t2 _ _ from row_below B4 HR1.out)
  have B5 := B4.alloc B4.size (.cells (#[.int .i64 k1, .string t1, .slice no1 nn1 nc1, .slice ao1 an1 ac1] ++ #[.int .i64 k2, .string t2, .slice no2 nn2 nc2, .slice ao2 an2 ac2]) 28)
  have HZ5 : Hid (((W3.alloc (.cells #[.string s] 9)).alloc (.cells #[.int .i64 k1, .string t1, .slice no1 nn1 nc1, .slice ao1 an1 ac1, .int .i64 k2, .string t2, .slice no2 nn2 nc2, .slice ao2 an2 ac2] 28)).heap[g2]? = some (.cells Z4 28 (0, 0))) := row_below B5 HR2.out
  have hone : (#[.int .i64 9, .string ⟨#[]⟩, .slice (some ⟨W3.heap.size, 0, none⟩) 1 1, .slice (some ⟨W3.heap.size + 1, 0, none⟩) 2 2] : Array Value).all (·.oneCell') = true := by simp [Value.oneCell']
  have HFIN : Hid (RetBind S s v e w (.returned (.agg #[.int .i64 9, .string ⟨#[]⟩, .slice (some ⟨W3.heap.size, 0, none⟩) 1 1, .slice (some ⟨W3.heap.size + 1, 0, none⟩) 2 2])) (((W3.alloc (.cells #[.string s] 9)).alloc (.cells #[.int .i64 k1, .string t1, .slice no1 nn1 nc1, .slice ao1 an1 ac1, .int .i64 k2, .string t2, .slice no2 nn2 nc2, .slice ao2 an2 ac2] 28)).setRow g2 #[.int .i64 9, .string ⟨#[]⟩, .slice (some ⟨W3.heap.size, 0, none⟩) 1 1, .slice (some ⟨W3.heap.size + 1, 0, none⟩) 2 2])) := by
    have hgw : w.heap.size ≤ W3.heap.size := HA3.out.size
    refine ⟨_, rfl, Et.At.mono (fun x hx => ?_) _ _ (bind_row (s := s) HV.out HE.out (fun x hx => by have := hx.2; omega) hg2l rfl rfl), ?_⟩
    · rcases hx with hx | hx
      · exact .inl hx.1
      · exact .inr (by have : W3.heap.size ≤ x := hx; omega)
    · exact Below.setRowUp (HA3.out.trans (B5.mono HA3.out.size)) _ _ hg2w
  clear B4 B5 s4
  go_wp2_with (first | (refine wpList_store_row rfl 28 _ _ rfl g2 #[.int .i64 9, .string ⟨#[]⟩, .slice (some ⟨W3.heap.size, 0, none⟩) 1 1, .slice (some ⟨W3.heap.size + 1, 0, none⟩) 2 2] rfl rfl 28 Z4 HZ5.out info28 rfl hone ?_))
  refine bodyPost_ret (results_cell_row rfl _ _ g2 28 #[.int .i64 9, .string ⟨#[]⟩, .slice (some ⟨W3.heap.size, 0, none⟩) 1 1, .slice (some ⟨W3.heap.size + 1, 0, none⟩) 2 2] (0, 0) _ rfl (setRow_heap _ _ _ _ 28 _ HZ5.out) Tryd.underlying28 rfl info28) rfl ?_
  exact HFIN.out
end Go.Proofs.YtmcgocbkjdacaaaDoor
