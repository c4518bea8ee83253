/- The walk of CoreFree. -/
import Derived.Test.YtpkcoplpfenliaaZF
import Derived.Test.YtpkcoplpfenliaaZT
import Derived.Test.YtpkcoplpfenliaaTM4
import Derived.Test.YtpkcoplpfenliaaK2
import Derived.Laws.Cover1
namespace Go.Proofs.Ytpkcoplpfenliaa
open Go.RowKit Go.BigM
set_option linter.unusedVariables false
set_option linter.unusedSimpArgs false
def abc : List ByteArray := [⟨#[97]⟩, ⟨#[98]⟩, ⟨#[99]⟩]
theorem abc_good : Good abc := by
  intro s hs
  simp [abc] at hs
  rcases hs with rfl | rfl | rfl <;> exact ⟨by decide, by decide⟩
theorem abc_srt : Srt abc := by
  unfold Srt abc
  simp [List.pairwise_cons]
  decide
theorem abc_len {L : List ByteArray} (h : Srt L) (h2 : ∀ s ∈ L, s ∈ abc) : L.length ≤ 3 := by
  have e : L = abc.filter (fun s => decide (s ∈ L)) := srt_ext h (abc_srt.sublist List.filter_sublist) (fun s => by simp; exact h2 s)
  rw [e]
  exact List.length_filter_le _ abc
theorem abc_get (q : Nat) (h : q < 3) : ∃ x, abc.getD q ⟨#[]⟩ = x ∧ x ∈ abc ∧ x.size ≤ 100 ∧ x ≠ ⟨#[]⟩ := by
  match q, h with
  | 0, _ => exact ⟨_, rfl, by simp [abc], by decide, by decide⟩
  | 1, _ => exact ⟨_, rfl, by simp [abc], by decide, by decide⟩
  | 2, _ => exact ⟨_, rfl, by simp [abc], by decide, by decide⟩
  | n + 3, h => exact absurd h (by omega)
theorem EAt_sl {S : Nat → Prop} {w : World} {e : Et} {cs : Array Value} (h : Et.At S w e cs) : ∃ k t no nn nc ao an ac, cs = #[.int .i64 k, .string t, .slice no nn nc, .slice ao an ac] := by
  obtain ⟨k, t, ns, l⟩ := e
  rw [EAt_mk] at h
  obtain ⟨nv, av, e, hm, hl⟩ := h
  obtain ⟨no, nc, rfl⟩ := hm.form
  obtain ⟨ao, ac, rfl⟩ := hl.form
  exact ⟨_, _, _, _, _, _, _, _, e⟩
def RetBind (s : ByteArray) (v e : Et) (w : World) (r : Ending) (w' : World) : Prop :=
  ∃ cs, r = .returned (.agg cs) ∧ Et.At (fun _ => True) w' (.mk 9 ⟨#[]⟩ [s] [v, e]) cs ∧ Below w.heap.size w w'
theorem two_at {S : Nat → Prop} {w : World} {t0 t1 : Et} {c0 c1 : Array Value} {g : Nat} (hg : S g) (h0 : Et.At S w t0 c0) (h1 : Et.At S w t1 c1) (hc0 : c0.size = 4) (hc1 : c1.size = 4) (hr : w.heap[g]? = some (.cells (c0 ++ c1) 28 (0, 0))) : AAt S w (.slice (some ⟨g, 0, none⟩) 2 2) [t0, t1] := by
  refine .inr ⟨g, 0, 2, _, (0, 0), rfl, hg, hr, ?_, Nat.le_refl _⟩
  unfold Ets.At
  refine ⟨⟨c0, fun i hi => ?_, h0⟩, ?_⟩
  · rw [Nat.zero_add, Array.getElem?_append_left (by omega)]
  unfold Ets.At
  refine ⟨⟨c1, fun i hi => ?_, h1⟩, by unfold Ets.At; trivial⟩
  rw [Array.getElem?_append_right (by omega)]
  congr 1; omega
set_option maxHeartbeats 8000000 in
set_option maxRecDepth 100000 in
theorem bind_any (s : ByteArray) (v e : Et) (S : Nat → Prop) (cv ce : Array Value) (w : World) (hv : Et.At S w v cv) (he : Et.At S w e ce) : Calls Try.prog 29 #[.string s, .agg cv, .agg ce] w (RetBind s v e w) := by
  obtain ⟨k1, t1, no1, nn1, nc1, ao1, an1, ac1, rfl⟩ := EAt_sl hv
  obtain ⟨k2, t2, no2, nn2, nc2, ao2, an2, ac2, rfl⟩ := EAt_sl he
  obtain ⟨C1, hC1⟩ : ∃ C : Array Value, C = #[.int .i64 k1, .string t1, .slice no1 nn1 nc1, .slice ao1 an1 ac1] := ⟨_, rfl⟩
  obtain ⟨C2, hC2⟩ : ∃ C : Array Value, C = #[.int .i64 k2, .string t2, .slice no2 nn2 nc2, .slice ao2 an2 ac2] := ⟨_, rfl⟩
  have A1 := (Below.refl w.heap.size w).alloc (Nat.le_refl _) (.cells C1 28)
  have A2 := A1.alloc A1.size (.cells C2 28)
  have A3 := A2.alloc A2.size (.cells Z4 28)
  have s1 : (w.alloc (.cells C1 28)).heap.size = w.heap.size + 1 := by simp
  have s2 : ((w.alloc (.cells C1 28)).alloc (.cells C2 28)).heap.size = w.heap.size + 1 + 1 := by simp
  have r0 : (((w.alloc (.cells C1 28)).alloc (.cells C2 28)).alloc (.cells Z4 28)).heap[w.heap.size]? = some (.cells C1 28 (0, 0)) := (Lib.alloc_old _ _ _ (by rw [s2]; omega)).trans ((Lib.alloc_old _ _ _ (by rw [s1]; omega)).trans (alloc_at w _))
  have r1 : (((w.alloc (.cells C1 28)).alloc (.cells C2 28)).alloc (.cells Z4 28)).heap[w.heap.size + 1]? = some (.cells C2 28 (0, 0)) := (Lib.alloc_old _ _ _ (by rw [s2]; omega)).trans (by have h := alloc_at (w.alloc (.cells C1 28)) (.cells C2 28); rw [s1] at h; exact h)
  have r2 : (((w.alloc (.cells C1 28)).alloc (.cells C2 28)).alloc (.cells Z4 28)).heap[w.heap.size + 1 + 1]? = some (.cells Z4 28 (0, 0)) := by have h := alloc_at ((w.alloc (.cells C1 28)).alloc (.cells C2 28)) (.cells Z4 28); rw [s2] at h; exact h
  have s3 : (((w.alloc (.cells C1 28)).alloc (.cells C2 28)).alloc (.cells Z4 28)).heap.size = w.heap.size + 3 := by simp
  rw [hC1, hC2] at A3 r0 r1 r2 s3
  have HV := Lib.hid (Et.At.keeps (Keeps.of_below A3) _ _ (Et.At.mono (fun _ h => h.2) _ _ (Et.At.bound _ _ hv)))
  have HE := Lib.hid (Et.At.keeps (Keeps.of_below A3) _ _ (Et.At.mono (fun _ h => h.2) _ _ (Et.At.bound _ _ he)))
  have HA3 := Lib.hid A3
  have HR0 := Lib.hid r0
  have HR1 := Lib.hid r1
  have HR2 := Lib.hid r2
  have HS3 := Lib.hid s3
  clear hv he A1 A2 A3 s1 s2 r0 r1 r2 s3 hC1 hC2
  go_enter Try.func29, Try.ntmps29
  go_upto_region 1 with fail
  obtain ⟨g0, hg0⟩ : ∃ g0, g0 = w.heap.size := ⟨_, rfl⟩
  obtain ⟨g1, hg1⟩ : ∃ g1, g1 = g0 + 1 := ⟨_, rfl⟩
  obtain ⟨g2, hg2⟩ : ∃ g2, g2 = g1 + 1 := ⟨_, rfl⟩
  rw [← hg0] at HR0 HR1 HR2
  rw [← hg1] at HR1 HR2
  rw [← hg2] at HR2
  simp only [← hg0]
  simp only [← hg1]
  simp only [← hg2]
  generalize (((w.alloc (.cells #[.int .i64 k1, .string t1, .slice no1 nn1 nc1, .slice ao1 an1 ac1] 28)).alloc (.cells #[.int .i64 k2, .string t2, .slice no2 nn2 nc2, .slice ao2 an2 ac2] 28)).alloc (.cells Z4 28)) = W3 at HA3 HR0 HR1 HR2 HS3 HV HE ⊢
  have hg2w : w.heap.size ≤ g2 := by omega
  have hg2l : g2 < W3.heap.size := by have := HS3.out; omega
  clear hg0 hg1 hg2
  have B4 := (Below.refl W3.heap.size W3).alloc (Nat.le_refl _) (.cells #[.string s] 9)
  have s4 : (W3.alloc (.cells #[.string s] 9)).heap.size = W3.heap.size + 1 := by simp
  obtain ⟨d0, d1, d2, d3⟩ := EB.cell _ _ _ _ _ _ (show EB (W3.alloc (.cells #[.string s] 9)) g0 k1 t1 _ _ from row_below B4 HR0.out)
  obtain ⟨f0, f1, f2, f3⟩ := EB.cell _ _ _ _ _ _ (show EB (W3.alloc (.cells #[.string s] 9)) g1 k2 t2 _ _ from row_below B4 HR1.out)
  have B5 := B4.alloc B4.size (.cells (#[.int .i64 k1, .string t1, .slice no1 nn1 nc1, .slice ao1 an1 ac1] ++ #[.int .i64 k2, .string t2, .slice no2 nn2 nc2, .slice ao2 an2 ac2]) 28)
  have HZ5 : Hid (((W3.alloc (.cells #[.string s] 9)).alloc (.cells #[.int .i64 k1, .string t1, .slice no1 nn1 nc1, .slice ao1 an1 ac1, .int .i64 k2, .string t2, .slice no2 nn2 nc2, .slice ao2 an2 ac2] 28)).heap[g2]? = some (.cells Z4 28 (0, 0))) := row_below B5 HR2.out
  have hone : (#[.int .i64 9, .string ⟨#[]⟩, .slice (some ⟨W3.heap.size, 0, none⟩) 1 1, .slice (some ⟨W3.heap.size + 1, 0, none⟩) 2 2] : Array Value).all (·.oneCell') = true := by simp [Value.oneCell']
  have HFIN : Hid (RetBind s v e w (.returned (.agg #[.int .i64 9, .string ⟨#[]⟩, .slice (some ⟨W3.heap.size, 0, none⟩) 1 1, .slice (some ⟨W3.heap.size + 1, 0, none⟩) 2 2])) (((W3.alloc (.cells #[.string s] 9)).alloc (.cells #[.int .i64 k1, .string t1, .slice no1 nn1 nc1, .slice ao1 an1 ac1, .int .i64 k2, .string t2, .slice no2 nn2 nc2, .slice ao2 an2 ac2] 28)).setRow g2 #[.int .i64 9, .string ⟨#[]⟩, .slice (some ⟨W3.heap.size, 0, none⟩) 1 1, .slice (some ⟨W3.heap.size + 1, 0, none⟩) 2 2])) := by
    have hk : ∀ {S : Nat → Prop} {W : World} (_ : ∀ x, S x → x ≠ g2), Keeps S W (W.setRow g2 #[.int .i64 9, .string ⟨#[]⟩, .slice (some ⟨W3.heap.size, 0, none⟩) 1 1, .slice (some ⟨W3.heap.size + 1, 0, none⟩) 2 2]) := fun {S W} hS x c T fz hx hxx _ => ⟨fz, by rw [setRow_other W g2 x _ (hS x hx)]; exact hxx⟩
    obtain ⟨W5, hW5⟩ : ∃ W5, W5 = (W3.alloc (.cells #[.string s] 9)).alloc (.cells #[.int .i64 k1, .string t1, .slice no1 nn1 nc1, .slice ao1 an1 ac1, .int .i64 k2, .string t2, .slice no2 nn2 nc2, .slice ao2 an2 ac2] 28) := ⟨_, rfl⟩
    have b5 : Below W3.heap.size W3 W5 := by rw [hW5]; exact B5
    have n5 : W5.heap[W3.heap.size]? = some (.cells #[.string s] 9 (0, 0)) := by rw [hW5]; exact (Lib.alloc_old _ _ _ (by rw [s4]; omega)).trans (alloc_at W3 _)
    have p5 : W5.heap[W3.heap.size + 1]? = some (.cells (#[.int .i64 k1, .string t1, .slice no1 nn1 nc1, .slice ao1 an1 ac1] ++ #[.int .i64 k2, .string t2, .slice no2 nn2 nc2, .slice ao2 an2 ac2]) 28 (0, 0)) := by
      rw [hW5]
      have h := alloc_at (W3.alloc (.cells #[.string s] 9)) (.cells #[.int .i64 k1, .string t1, .slice no1 nn1 nc1, .slice ao1 an1 ac1, .int .i64 k2, .string t2, .slice no2 nn2 nc2, .slice ao2 an2 ac2] 28)
      rw [s4] at h; exact h
    rw [← hW5]
    refine ⟨_, rfl, ?_, ?_⟩
    · rw [EAt_mk]
      refine ⟨_, _, rfl, .inr ⟨W3.heap.size, 0, 1, #[.string s], (0, 0), rfl, trivial, by rw [setRow_other W5 g2 _ _ (by omega)]; exact n5, fun j hj => ?_, Nat.le_refl _⟩, two_at trivial (Et.At.mono (fun _ _ => trivial) _ _ (Et.At.keeps (hk fun x hx => by have : x < w.heap.size := hx; omega) _ _ (Et.At.keeps (Keeps.of_below b5) _ _ HV.out))) (Et.At.mono (fun _ _ => trivial) _ _ (Et.At.keeps (hk fun x hx => by have : x < w.heap.size := hx; omega) _ _ (Et.At.keeps (Keeps.of_below b5) _ _ HE.out))) rfl rfl (by rw [setRow_other W5 g2 _ _ (by omega)]; exact p5)⟩
      have hj0 : j = 0 := by simp at hj; omega
      subst hj0; rfl
    · exact Below.setRowUp (HA3.out.trans (b5.mono HA3.out.size)) _ _ hg2w
  clear B4 B5 s4
  go_wp2_with (first | (refine wpList_store_row rfl 28 _ _ rfl g2 #[.int .i64 9, .string ⟨#[]⟩, .slice (some ⟨W3.heap.size, 0, none⟩) 1 1, .slice (some ⟨W3.heap.size + 1, 0, none⟩) 2 2] rfl rfl 28 Z4 HZ5.out info28 rfl hone ?_))
  refine bodyPost_ret (results_cell_row rfl _ _ g2 28 #[.int .i64 9, .string ⟨#[]⟩, .slice (some ⟨W3.heap.size, 0, none⟩) 1 1, .slice (some ⟨W3.heap.size + 1, 0, none⟩) 2 2] (0, 0) _ rfl (setRow_heap _ _ _ _ 28 _ HZ5.out) Try.underlying28 rfl info28) rfl ?_
  exact HFIN.out
/-- The loop over what is free: names of the scope, in rising order. -/
def CfInv (L : List ByteArray) (w : World) (iv : Value) (wr : World) : Prop := ∃ i : Nat, i ≤ L.length ∧ iv = .int .i64 (i : Int) ∧ Below w.heap.size w wr
theorem lam_at {S : Nat → Prop} {W : World} {e : Et} {cs : Array Value} {s : ByteArray} (h : Et.At S W e cs) (h4 : cs.size = 4) :
    Et.At (fun _ => True) ((W.alloc (.cells #[.string s] 9)).alloc (.cells cs 28)) (.mk 6 ⟨#[]⟩ [s] [e]) #[.int .i64 6, .string ⟨#[]⟩, .slice (some ⟨W.heap.size, 0, none⟩) 1 1, .slice (some ⟨W.heap.size + 1, 0, none⟩) 1 1] := by
  have b1 := (Below.refl W.heap.size W).alloc (Nat.le_refl _) (.cells #[.string s] 9)
  have b2 := b1.alloc b1.size (.cells cs 28)
  have s1 : (W.alloc (.cells #[.string s] 9)).heap.size = W.heap.size + 1 := by simp
  rw [EAt_mk]
  refine ⟨_, _, rfl, .inr ⟨W.heap.size, 0, 1, #[.string s], (0, 0), rfl, trivial, (Lib.alloc_old _ _ _ (by rw [s1]; omega)).trans (alloc_at W _), fun j hj => ?_, Nat.le_refl _⟩, .inr ⟨W.heap.size + 1, 0, 1, cs, (0, 0), rfl, trivial, by have h := alloc_at (W.alloc (.cells #[.string s] 9)) (.cells cs 28); rw [s1] at h; exact h, ?_, Nat.le_refl _⟩⟩
  · have hj0 : j = 0 := by simp at hj; omega
    subst hj0; rfl
  · unfold Ets.At
    refine ⟨⟨cs, fun i hi => by rw [Nat.zero_add], Et.At.mono (fun _ _ => trivial) _ _ (Et.At.keeps (Keeps.of_below b2) _ _ h)⟩, by unfold Ets.At; trivial⟩
theorem fr_mk (k : Int) (t : ByteArray) (ns : List ByteArray) (a : List Et) (s : ByteArray) : (Et.mk k t ns a).fr s ↔ (k = 5 ∧ t = s) ∨ (Et.frs s a ∧ s ∉ ns) := by conv => lhs; unfold Et.fr
theorem lam_fr (e : Et) (s x : ByteArray) : (Et.mk 6 ⟨#[]⟩ [s] [e]).fr x ↔ e.fr x ∧ x ∉ [s] := by
  rw [fr_mk]; simp [Et.frs]
theorem bind_fr (e : Et) (s x : ByteArray) : (Et.mk 9 ⟨#[]⟩ [s] [e, e]).fr x ↔ e.fr x ∧ x ∉ [s] := by
  rw [fr_mk]; simp [Et.frs]
theorem lam_fine {e : Et} {s : ByteArray} {k : Int} {l : List Et} (h : e.fine) (hs : s.size ≤ 100) (hl : ∀ x ∈ l, x = e) : (Et.mk k ⟨#[]⟩ [s] l).fine := by
  rw [fine_mk]; exact ⟨by decide, by simp, fun x hx => by simp at hx; subst hx; exact hs, fun x hx => by rw [hl x hx]; exact h⟩
set_option maxHeartbeats 8000000 in
set_option maxRecDepth 100000 in
theorem free_walk (l : List Rw) (ao0 : Option Addr) (cap : Nat) (n : Int) (w : World) (hR : RsAt w ao0 l) (hn : I64 n) : Calls Try.prog 5 #[.slice ao0 l.length cap, .int .i64 n] w (RetBool true w) := by
  have K0 := Lib.hid (fun w => known_any w)
  have HR := Lib.hid hR
  clear hR
  go_enter Try.func5, Try.ntmps5
  go_wp2_with fail
  refine (K0.out _).mono ?_
  rintro e w1 ⟨rfl, hb1⟩
  have HR1 := Lib.hid (HR.out.below hb1)
  have HB1 := Lib.hid hb1
  have HFE := Lib.hid (few_any l ao0 cap w1 HR1.out)
  clear hb1
  go_wp2_with fail
  refine HFE.out.mono ?_
  rintro e w2 ⟨r, rfl, hr, rfl⟩
  cases r with
  | false =>
    go_wp2_with fail
    go_ret
    exact ⟨rfl, HB1.out⟩
  | true =>
    have hcn := hr rfl
    have HT := Lib.hid (term_any l ao0 cap w1 HR1.out hcn)
    clear hr
    go_upto_region 5 with fail
    go_wp2_with fail
    refine HT.out.mono ?_
    rintro e w5 ⟨cs, t0, m', rfl, hat, hM, hsz, hm', hb5⟩
    obtain ⟨k0, x0, nv0, av0, rfl, o10, o20⟩ := EAt_form hat
    have z0 : (#[.int .i64 k0, .string x0, nv0, av0] : Array Value).all (·.oneCell') = true := by simp [Value.oneCell'] at o10 o20 ⊢; exact ⟨o10, o20⟩
    have HB5 := Lib.hid (HB1.out.trans (hb5.mono HB1.out.size))
    have HAT := Lib.hid (Et.At.mono (fun x _ => trivial) _ _ hat : Et.At (fun _ => True) w5 t0 #[.int .i64 k0, .string x0, nv0, av0])
    have HM := Lib.hid hM
    clear hat hM hb5 HT HFE hm'
    go_upto_region 6 with (refine wpList_store_row rfl 28 _ _ rfl w5.heap.size #[.int .i64 k0, .string x0, nv0, av0] rfl rfl 28 Z4 (alloc_at _ _) info28 rfl z0 ?_)
    try simp only [Act.put]
    have E0 : (w5.alloc (.cells #[.int .i64 0, .string ⟨#[]⟩, .slice none 0 0, .slice none 0 0] 28)).setRow w5.heap.size #[.int .i64 k0, .string x0, nv0, av0] = w5.alloc (.cells #[.int .i64 k0, .string x0, nv0, av0] 28) := setRow_new _ _ _ _
    try rw [E0]
    clear E0
    have F0 := (Below.refl w5.heap.size w5).alloc (Nat.le_refl _) (.cells #[.int .i64 k0, .string x0, nv0, av0] 28)
    have HB6 := Lib.hid (HB5.out.trans (F0.mono HB5.out.size))
    have HA6 := Lib.hid (Et.At.bound _ _ (Et.At.keeps (Keeps.of_below F0) _ _ HAT.out))
    have HE6 : Hid (EB (w5.alloc (.cells #[.int .i64 k0, .string x0, nv0, av0] 28)) w5.heap.size k0 x0 nv0 av0) := alloc_at w5 (.cells #[.int .i64 k0, .string x0, nv0, av0] 28)
    have hge6 : w5.heap.size < (w5.alloc (.cells #[.int .i64 k0, .string x0, nv0, av0] 28)).heap.size := by simp
    generalize w5.alloc (.cells #[.int .i64 k0, .string x0, nv0, av0] 28) = W6 at HB6 HA6 HE6 hge6 ⊢
    clear F0 HAT HB5
    generalize w5.heap.size = ge at HE6 hge6 ⊢
    have CST : ∀ W : World, W.alloc (.cells #[.string ⟨#[97]⟩, .string ⟨#[98]⟩, .string ⟨#[99]⟩] 9) = W.alloc (.cells (tcells abc) 9) := fun _ => rfl
    have HCS := Lib.hid CST
    clear CST
    go_upto_region 7 with fail
    rw [HCS.out]
    have A7 := Lib.hid ((Below.refl W6.heap.size W6).alloc (Nat.le_refl _) (.cells (tcells abc) 9))
    have HN7 : Hid (NAt (fun x => x = W6.heap.size) (W6.alloc (.cells (tcells abc) 9)) (.slice (some ⟨W6.heap.size, 0, none⟩) 3 3) abc) := .inr ⟨W6.heap.size, 0, 3, tcells abc, (0, 0), rfl, rfl, alloc_at _ _, fun j hj => by rw [Nat.zero_add]; exact tcells_at abc j hj, Nat.le_refl _⟩
    have hz7 : (W6.alloc (.cells (tcells abc) 9)).heap.size = W6.heap.size + 1 := by simp
    have hg7 := alloc_at W6 (.cells (tcells abc) 9)
    generalize W6.alloc (.cells (tcells abc) 9) = W7 at A7 HN7 hz7 hg7 ⊢
    obtain ⟨gsc, hgsc⟩ : ∃ gsc, gsc = W6.heap.size := ⟨_, rfl⟩
    rw [← hgsc] at HN7 hz7 hg7
    simp only [← hgsc]
    have hgsl : gsc < W7.heap.size := by omega
    have HSC := Lib.hid hgsc
    have HG7 := Lib.hid hg7
    clear hgsc hz7 hg7
    go_upto_region 8 with fail
    have A8 := Lib.hid ((Below.refl W7.heap.size W7).alloc (Nat.le_refl _) (.cells #[.int .i64 1000] 42))
    have HMK8 : Hid (Mk (W7.alloc (.cells #[.int .i64 1000] 42)) W7.heap.size 1000) := alloc_at W7 _
    generalize W7.alloc (.cells #[.int .i64 1000] 42) = W8 at A8 HMK8 ⊢
    obtain ⟨gm, hgm⟩ : ∃ gm, gm = W7.heap.size := ⟨_, rfl⟩
    rw [← hgm] at HMK8 hgsl
    simp only [← hgm]
    have HGM := Lib.hid hgm
    clear hgm
    go_upto_region 9 with fail
    obtain ⟨W9, hW9⟩ : ∃ W9, W9 = W8.alloc (.cells #[.int .i64 6, .int .i64 n, .slice ao0 l.length cap] 44) := ⟨_, rfl⟩
    have A9 : Below W8.heap.size W8 W9 := by rw [hW9]; exact (Below.refl _ _).alloc (Nat.le_refl _) _
    have r9 : W9.heap[W8.heap.size]? = some (.cells #[.int .i64 6, .int .i64 n, .slice ao0 l.length cap] 44 (0, 0)) := by rw [hW9]; exact alloc_at W8 _
    rw [← hW9]
    have h67 := A7.out.size
    have h78 := A8.out.size
    have h89 := A9.size
    have hgmv := HGM.out
    have hgscv := HSC.out
    have hw6 := HB6.out.size
    have hb9 : Below w.heap.size w W9 := ((HB6.out.trans (A7.out.mono hw6)).trans (A8.out.mono (by omega))).trans (A9.mono (by omega))
    have a69 : Below W6.heap.size W6 W9 := (A7.out.trans (A8.out.mono h67)).trans (A9.mono (by omega))
    have hn9 : NAt (fun x => x = gsc) W9 (.slice (some ⟨gsc, 0, none⟩) 3 3) abc := ((HN7.out.keeps (Keeps.of_below A8.out)).keeps (Keeps.of_below A9))
    have hmk9 : Mk W9 gm 1000 := HMK8.out.below A9
    have hgm9 : gm < W9.heap.size := hmk9.lt
    have HB9 := Lib.hid hb9
    have HMAKE := Lib.hid (make_any (Rw.mk 6 n l).cnt (Rw.mk 6 n l) (Nat.le_refl _) w W9 gm 1000 abc (.slice (some ⟨gsc, 0, none⟩) 3 3) ⟨hb9, by omega, hmk9, hn9.mono (fun x hx => by omega), abc_good, by simp [abc]⟩ (by simp only [Rw.cnt]; omega) ao0 cap HR.out (show I64 6 from ⟨by decide, by decide⟩) hn)
    have HA9 := Lib.hid (Et.At.keeps (Keeps.of_below a69) _ _ HA6.out)
    have HE9 : Hid (EB W9 ge k0 x0 nv0 av0) := row_below a69 HE6.out
    have HN9 := Lib.hid hn9
    have g0 : W9.cell? ⟨W8.heap.size, 0, none⟩ = some (.int .i64 6) := by rw [Lib.cell_of_heap r9]; rfl
    have g1 : W9.cell? ⟨W8.heap.size, 1, none⟩ = some (.int .i64 n) := by rw [Lib.cell_of_heap r9]; rfl
    have g2 : W9.cell? ⟨W8.heap.size, 2, none⟩ = some (.slice ao0 l.length cap) := by rw [Lib.cell_of_heap r9]; rfl
    have h69 : W6.heap.size < W9.heap.size := by omega
    have hgmge : ge ≠ gm := by omega
    have hgmsc : gsc ≠ gm := by omega
    have hgm6 : W6.heap.size ≤ gm := by omega
    have hwgm : w.heap.size ≤ gm := by omega
    simp only [Rw.num, Rw.at_, Rw.parts] at HMAKE
    clear hW9 A9 r9 h67 h78 h89 hgmv hgscv hb9 a69 hn9 hmk9 HGM HSC HN7 HA6 HE6 HB6 A7 A8 HG7 HMK8 HCS hgsl hge6 hw6
    generalize W8.heap.size = gr at g0 g1 g2 ⊢
    go_wp2_with fail
    refine HMAKE.out.mono ?_
    rintro e w10 ⟨cs, x, m1, rfl, hatx, hMx, hszx, -, -, hbut⟩
    simp only [Rw.cnt] at hszx
    obtain ⟨k1, t1, nv1, av1, rfl, o11, o21⟩ := EAt_form hatx
    have z1 : (#[.int .i64 k1, .string t1, nv1, av1] : Array Value).all (·.oneCell') = true := by simp [Value.oneCell'] at o11 o21 ⊢; exact ⟨o11, o21⟩
    have hk10 : ∀ {S : Nat → Prop}, (∀ x, S x → x ≠ gm) → Keeps S W9 w10 := fun hS => hbut.keeps hS
    have HB10 := Lib.hid (HB9.out.trans (hbut.toBelow HB9.out.size hwgm))
    have HA10 := Lib.hid (Et.At.keeps (hk10 (fun x hx => by have := hx.2; omega)) _ _ HA9.out)
    have HE10 : Hid (EB w10 ge k0 x0 nv0 av0) := by
      show EB w10 ge k0 x0 nv0 av0
      unfold EB
      rw [hbut.block ge (Array.getElem?_eq_some_iff.1 HE9.out).1 hgmge]; exact HE9.out
    have HN10 := Lib.hid (HN9.out.keeps (hk10 (fun x hx => by omega)))
    have HX10 := Lib.hid hatx
    have HMX := Lib.hid hMx
    have A11 := Lib.hid ((Below.refl w10.heap.size w10).alloc (Nat.le_refl _) (.cells #[.int .i64 k1, .string t1, nv1, av1] 28))
    have HE11 : Hid (EB (w10.alloc (.cells #[.int .i64 k1, .string t1, nv1, av1] 28)) ge k0 x0 nv0 av0) := row_below A11.out HE10.out
    have HEX11 : Hid (EB (w10.alloc (.cells #[.int .i64 k1, .string t1, nv1, av1] 28)) w10.heap.size k1 t1 nv1 av1) := alloc_at _ _
    have HA11 := Lib.hid (Et.At.keeps (Keeps.of_below A11.out) _ _ HA10.out)
    have HX11 := Lib.hid (Et.At.keeps (Keeps.of_below A11.out) _ _ HX10.out)
    have HN11 := Lib.hid (HN10.out.keeps (Keeps.of_below A11.out))
    have HB11 := Lib.hid (HB10.out.trans (A11.out.mono HB10.out.size))
    clear hatx hMx hbut hk10 HA9 HE9 HN9 HB9 HMAKE g0 g1 g2 HA10 HE10 HN10 HX10 HB10
    go_upto_region 10 with (refine wpList_store_row rfl 28 _ _ rfl w10.heap.size #[.int .i64 k1, .string t1, nv1, av1] rfl rfl 28 Z4 (alloc_at _ _) info28 rfl z1 ?_)
    try simp only [Act.put]
    have E0 : (w10.alloc (.cells #[.int .i64 0, .string ⟨#[]⟩, .slice none 0 0, .slice none 0 0] 28)).setRow w10.heap.size #[.int .i64 k1, .string t1, nv1, av1] = w10.alloc (.cells #[.int .i64 k1, .string t1, nv1, av1] 28) := setRow_new _ _ _ _
    try rw [E0]
    clear E0 A11
    generalize w10.alloc (.cells #[.int .i64 k1, .string t1, nv1, av1] 28) = W11 at HE11 HEX11 HA11 HX11 HN11 HB11 ⊢
    generalize w10.heap.size = gx at HEX11 ⊢
    have HF11 := Lib.hid (free_any x HMX.out.fine (by omega) _ _ W11 HX11.out)
    go_wp2_with (refine wpList_load_row rfl 28 _ rfl gx rfl 28 #[.int .i64 k1, .string t1, nv1, av1] (0, 0) _ HEX11.out Try.underlying28 rfl info28 ?_)
    refine HF11.out.mono ?_
    rintro e w12 ⟨v12, L, rfl, f1, f2, f3, hb12⟩
    obtain ⟨fo, fc, rfl⟩ := f1.form
    have HFL1 := Lib.hid f1
    have HFL2 := Lib.hid f2
    have HFL3 := Lib.hid f3
    have HB12 := Lib.hid (HB11.out.trans (hb12.mono HB11.out.size))
    have HE12 : Hid (EB w12 ge k0 x0 nv0 av0) := row_below hb12 HE11.out
    have HEX12 : Hid (EB w12 gx k1 t1 nv1 av1) := row_below hb12 HEX11.out
    have HA12 := Lib.hid (Et.At.keeps (Keeps.of_below hb12) _ _ HA11.out)
    have HX12 := Lib.hid (Et.At.keeps (Keeps.of_below hb12) _ _ HX11.out)
    have HN12 := Lib.hid (HN11.out.keeps (Keeps.of_below hb12))
    clear f1 f2 f3 hb12 HF11 HE11 HEX11 HA11 HX11 HN11 HB11
    have hL3 : L.length ≤ 3 := abc_len HFL2.out (fun s hs => HMX.out.free s ((HFL3.out s).1 hs))
    go_wp2_with fail
    go_loopw [11] (fun iv wr => CfInv L w12 iv wr) (fun iv _ => L.length - (intOf iv).toNat)
    case atStart => exact ⟨0, Nat.zero_le _, rfl, Below.refl _ _⟩
    case round =>
      obtain ⟨i, hi, rfl, hbi⟩ := hrel
      have HBI := Lib.hid hbi
      have HLI := Lib.hid (HFL1.out.keeps (Keeps.of_below hbi))
      have HNI := Lib.hid (HN12.out.keeps (Keeps.of_below hbi))
      clear hbi
      by_cases hlt : i < L.length
      · have q1 : decide ((i : Int) < (L.length : Int)) = true := decide_eq_true (by omega)
        obtain ⟨gf, of_, rfl, -, e0⟩ := HLI.out.get i hlt
        obtain ⟨y, hy⟩ : ∃ y, y = L[i] := ⟨_, rfl⟩
        rw [← hy] at e0
        have hyin : y ∈ abc := HMX.out.free y ((HFL3.out y).1 (by rw [hy]; exact List.getElem_mem hlt))
        have HS0 : Hid (Below wr.heap.size wr wr.drew) := (Below.refl _ _).drew
        have HIN := Lib.hid (in_any y abc _ _ wr.drew (HNI.out.keeps (Keeps.of_below HS0.out)) (by decide))
        rw [decide_eq_true hyin] at HIN
        have HNX : Hid (∀ W, Below wr.heap.size wr W → CfInv L w12 (.int .i64 ((i : Int) + 1)) W) := fun W h => ⟨i + 1, by omega, by go_num, HBI.out.trans (h.mono HBI.out.size)⟩
        by_cases hi0 : 0 < i
        · have q2 : decide ((0 : Int) < (i : Int)) = true := decide_eq_true (by omega)
          obtain ⟨m, hm⟩ : ∃ m, i = m + 1 := ⟨i - 1, by omega⟩
          have hml : m < L.length := by omega
          obtain ⟨gf2, of2, e2, -, e1⟩ := HLI.out.get m hml
          injection e2 with e2
          injection e2 with e3 e4
          subst e3 e4
          obtain ⟨z, hz⟩ : ∃ z, z = L[m] := ⟨_, rfl⟩
          rw [← hz] at e1
          have hless : Op.bytesLess z.toList y.toList = true := by
            rw [less_eq, hz, hy]
            exact decide_eq_true (List.pairwise_iff_getElem.1 HFL2.out m i hml hlt (by omega))
          have hmi : wrap64 ((i : Int) - 1) = (m : Int) := by unfold wrap64; omega
          have p1 : ¬ ((L.length : Int) ≤ (i : Int)) := by omega
          have p2 : ¬ ((L.length : Int) ≤ (m : Int)) := by omega
          have HMI := Lib.hid hmi
          clear hy hz hyin hm hmi
          go_upto_region 14 with fail
          refine wp_region_noPanic ?_
          refine wp_region_held_drew (S := Below wr.heap.size wr) (by kernel_rfl) HS0.out (fun hHeld => ?_)
          generalize wr.drew = X at HS0 HIN hHeld ⊢
          refine wpAnyH_take (i := 0) (v := Value.slice (some ⟨gsc, 0, none⟩) 3 3) rfl (by kernel_rfl) (by kernel_rfl) (by kernel_rfl) (fun _ _ _ h => h) (Or.inl ⟨rfl, fun w' hw' => ?_⟩) hHeld ?_
          · go_simp
          simp only [List.getElem_toArray, List.getElem_cons_succ, List.getElem_cons_zero, Act.put, List.setIfInBounds_toArray, List.set_cons_zero, List.set_cons_succ]
          refine wpAnyH_take (i := 1) (v := Value.slice (some ⟨gf, of_, none⟩) L.length fc) rfl (by kernel_rfl) (by kernel_rfl) (by kernel_rfl) (fun _ _ _ h => h) (Or.inl ⟨rfl, fun w' hw' => ?_⟩) hHeld ?_
          · go_simp
          simp only [List.getElem_toArray, List.getElem_cons_succ, List.getElem_cons_zero, Act.put, List.setIfInBounds_toArray, List.set_cons_zero, List.set_cons_succ]
          refine wpAnyH_take (i := 2) (v := Value.int .i64 (i : Int)) rfl (by kernel_rfl) (by kernel_rfl) (by kernel_rfl) (fun _ _ _ h => h) (Or.inl ⟨rfl, fun w' hw' => ?_⟩) hHeld ?_
          · go_simp
          simp only [List.getElem_toArray, List.getElem_cons_succ, List.getElem_cons_zero, Act.put, List.setIfInBounds_toArray, List.set_cons_zero, List.set_cons_succ]
          refine wpAnyH_take (i := 3) (v := Value.pointer (some ⟨gf, of_ + i, none⟩)) rfl (by kernel_rfl) (by kernel_rfl) (by kernel_rfl) (fun _ _ _ h => h) (Or.inl ⟨rfl, fun w' hw' => ?_⟩) hHeld ?_
          · go_simp
          simp only [List.getElem_toArray, List.getElem_cons_succ, List.getElem_cons_zero, Act.put, List.setIfInBounds_toArray, List.set_cons_zero, List.set_cons_succ]
          refine wpAnyH_take (i := 4) (v := Value.string y) rfl (by kernel_rfl) (by kernel_rfl) (by kernel_rfl) (fun _ _ _ h => h) (Or.inl ⟨rfl, fun w' hw' => ?_⟩) hHeld ?_
          · have q9 := cell_below hw' e0; go_simp
          simp only [List.getElem_toArray, List.getElem_cons_succ, List.getElem_cons_zero, Act.put, List.setIfInBounds_toArray, List.set_cons_zero, List.set_cons_succ]
          refine wpAnyH_ready (rs := [5]) (by kernel_rfl) (by simp) ?_
          refine (AllReadyH.cons rfl (fun K hK => ?_) AllReadyH.nil)
          go_simp
          refine HIN.out.mono ?_
          rintro r u ⟨rfl, rfl⟩
          refine hK.out _ _ HS0.out (fun hHeld => ?_)
          clear hK K
          try simp only [List.getElem_toArray, List.getElem_cons_succ, List.getElem_cons_zero, Act.put, List.setIfInBounds_toArray, List.set_cons_zero, List.set_cons_succ]
          refine wpAnyH_take (i := 6) (v := Value.bool false) rfl (by kernel_rfl) (by kernel_rfl) (by kernel_rfl) (fun _ _ _ h => h) (Or.inl ⟨rfl, fun w' hw' => ?_⟩) hHeld ?_
          · go_simp
          simp only [List.getElem_toArray, List.getElem_cons_succ, List.getElem_cons_zero, Act.put, List.setIfInBounds_toArray, List.set_cons_zero, List.set_cons_succ]
          refine wpAnyH_take (i := 7) (v := Value.bool false) rfl (by kernel_rfl) (by kernel_rfl) (by kernel_rfl) (fun _ _ _ h => h) (Or.inl ⟨rfl, fun w' hw' => ?_⟩) hHeld ?_
          · go_simp
          simp only [List.getElem_toArray, List.getElem_cons_succ, List.getElem_cons_zero, Act.put, List.setIfInBounds_toArray, List.set_cons_zero, List.set_cons_succ]
          refine wpAnyH_take (i := 8) (v := Value.int .i64 (i : Int)) rfl (by kernel_rfl) (by kernel_rfl) (by kernel_rfl) (fun _ _ _ h => h) (Or.inl ⟨rfl, fun w' hw' => ?_⟩) hHeld ?_
          · go_simp
          simp only [List.getElem_toArray, List.getElem_cons_succ, List.getElem_cons_zero, Act.put, List.setIfInBounds_toArray, List.set_cons_zero, List.set_cons_succ]
          refine wpAnyH_take (i := 9) (v := Value.bool true) rfl (by kernel_rfl) (by kernel_rfl) (by kernel_rfl) (fun _ _ _ h => h) (Or.inl ⟨rfl, fun w' hw' => ?_⟩) hHeld ?_
          · go_simp
          simp only [List.getElem_toArray, List.getElem_cons_succ, List.getElem_cons_zero, Act.put, List.setIfInBounds_toArray, List.set_cons_zero, List.set_cons_succ]
          refine wpAnyH_take (i := 10) (v := Value.bool true) rfl (by kernel_rfl) (by kernel_rfl) (by kernel_rfl) (fun _ _ _ h => h) (Or.inl ⟨rfl, fun w' hw' => ?_⟩) hHeld ?_
          · go_simp
          simp only [List.getElem_toArray, List.getElem_cons_succ, List.getElem_cons_zero, Act.put, List.setIfInBounds_toArray, List.set_cons_zero, List.set_cons_succ]
          refine wpAnyH_take (i := 11) (v := Value.slice (some ⟨gf, of_, none⟩) L.length fc) rfl (by kernel_rfl) (by kernel_rfl) (by kernel_rfl) (fun _ _ _ h => h) (Or.inl ⟨rfl, fun w' hw' => ?_⟩) hHeld ?_
          · go_simp
          simp only [List.getElem_toArray, List.getElem_cons_succ, List.getElem_cons_zero, Act.put, List.setIfInBounds_toArray, List.set_cons_zero, List.set_cons_succ]
          refine wpAnyH_take (i := 12) (v := Value.int .i64 (i : Int)) rfl (by kernel_rfl) (by kernel_rfl) (by kernel_rfl) (fun _ _ _ h => h) (Or.inl ⟨rfl, fun w' hw' => ?_⟩) hHeld ?_
          · go_simp
          simp only [List.getElem_toArray, List.getElem_cons_succ, List.getElem_cons_zero, Act.put, List.setIfInBounds_toArray, List.set_cons_zero, List.set_cons_succ]
          refine wpAnyH_take (i := 13) (v := Value.int .i64 (m : Int)) rfl (by kernel_rfl) (by kernel_rfl) (by kernel_rfl) (fun _ _ _ h => h) (Or.inl ⟨rfl, fun w' hw' => ?_⟩) hHeld ?_
          · have q9 := HMI.out; go_simp; first | done | (rw [IntKind.wrap_i64]; unfold wrap64 at q9; omega)
          simp only [List.getElem_toArray, List.getElem_cons_succ, List.getElem_cons_zero, Act.put, List.setIfInBounds_toArray, List.set_cons_zero, List.set_cons_succ]
          refine wpAnyH_take (i := 14) (v := Value.pointer (some ⟨gf, of_ + m, none⟩)) rfl (by kernel_rfl) (by kernel_rfl) (by kernel_rfl) (fun _ _ _ h => h) (Or.inl ⟨rfl, fun w' hw' => ?_⟩) hHeld ?_
          · go_simp
          simp only [List.getElem_toArray, List.getElem_cons_succ, List.getElem_cons_zero, Act.put, List.setIfInBounds_toArray, List.set_cons_zero, List.set_cons_succ]
          refine wpAnyH_take (i := 15) (v := Value.string z) rfl (by kernel_rfl) (by kernel_rfl) (by kernel_rfl) (fun _ _ _ h => h) (Or.inl ⟨rfl, fun w' hw' => ?_⟩) hHeld ?_
          · have q9 := cell_below hw' e1; go_simp
          simp only [List.getElem_toArray, List.getElem_cons_succ, List.getElem_cons_zero, Act.put, List.setIfInBounds_toArray, List.set_cons_zero, List.set_cons_succ]
          refine wpAnyH_take (i := 16) (v := Value.slice (some ⟨gf, of_, none⟩) L.length fc) rfl (by kernel_rfl) (by kernel_rfl) (by kernel_rfl) (fun _ _ _ h => h) (Or.inl ⟨rfl, fun w' hw' => ?_⟩) hHeld ?_
          · go_simp
          simp only [List.getElem_toArray, List.getElem_cons_succ, List.getElem_cons_zero, Act.put, List.setIfInBounds_toArray, List.set_cons_zero, List.set_cons_succ]
          refine wpAnyH_take (i := 17) (v := Value.int .i64 (i : Int)) rfl (by kernel_rfl) (by kernel_rfl) (by kernel_rfl) (fun _ _ _ h => h) (Or.inl ⟨rfl, fun w' hw' => ?_⟩) hHeld ?_
          · go_simp
          simp only [List.getElem_toArray, List.getElem_cons_succ, List.getElem_cons_zero, Act.put, List.setIfInBounds_toArray, List.set_cons_zero, List.set_cons_succ]
          refine wpAnyH_take (i := 18) (v := Value.pointer (some ⟨gf, of_ + i, none⟩)) rfl (by kernel_rfl) (by kernel_rfl) (by kernel_rfl) (fun _ _ _ h => h) (Or.inl ⟨rfl, fun w' hw' => ?_⟩) hHeld ?_
          · go_simp
          simp only [List.getElem_toArray, List.getElem_cons_succ, List.getElem_cons_zero, Act.put, List.setIfInBounds_toArray, List.set_cons_zero, List.set_cons_succ]
          refine wpAnyH_take (i := 19) (v := Value.string y) rfl (by kernel_rfl) (by kernel_rfl) (by kernel_rfl) (fun _ _ _ h => h) (Or.inl ⟨rfl, fun w' hw' => ?_⟩) hHeld ?_
          · have q9 := cell_below hw' e0; go_simp
          simp only [List.getElem_toArray, List.getElem_cons_succ, List.getElem_cons_zero, Act.put, List.setIfInBounds_toArray, List.set_cons_zero, List.set_cons_succ]
          refine wpAnyH_take (i := 20) (v := Value.bool false) rfl (by kernel_rfl) (by kernel_rfl) (by kernel_rfl) (fun _ _ _ h => h) (Or.inl ⟨rfl, fun w' hw' => ?_⟩) hHeld ?_
          · go_simp
          simp only [List.getElem_toArray, List.getElem_cons_succ, List.getElem_cons_zero, Act.put, List.setIfInBounds_toArray, List.set_cons_zero, List.set_cons_succ]
          refine wpAnyH_take (i := 21) (v := Value.bool false) rfl (by kernel_rfl) (by kernel_rfl) (by kernel_rfl) (fun _ _ _ h => h) (Or.inl ⟨rfl, fun w' hw' => ?_⟩) hHeld ?_
          · go_simp
          simp only [List.getElem_toArray, List.getElem_cons_succ, List.getElem_cons_zero, Act.put, List.setIfInBounds_toArray, List.set_cons_zero, List.set_cons_succ]
          refine wpAnyH_take (i := 22) (v := Value.bool false) rfl (by kernel_rfl) (by kernel_rfl) (by kernel_rfl) (fun _ _ _ h => h) (Or.inl ⟨rfl, fun w' hw' => ?_⟩) hHeld ?_
          · go_simp
          simp only [List.getElem_toArray, List.getElem_cons_succ, List.getElem_cons_zero, Act.put, List.setIfInBounds_toArray, List.set_cons_zero, List.set_cons_succ]
          refine wpAnyH_done (by kernel_rfl) ?_ _
          refine NoPanic.normal ?_
          clear hHeld
          have HN9 := Lib.hid (HNX.out X HS0.out)
          go_wp2_with fail
          go_roundw
          case rel => exact HN9.out
          case measure => simp [intOf]; omega
        · have q2 : decide ((0 : Int) < (i : Int)) = false := decide_eq_false (by omega)
          have p1 : ¬ ((L.length : Int) ≤ (i : Int)) := by omega
          clear hy hyin
          go_upto_region 14 with fail
          refine wp_region_noPanic ?_
          refine wp_region_held_drew (S := Below wr.heap.size wr) (by kernel_rfl) HS0.out (fun hHeld => ?_)
          generalize wr.drew = X at HS0 HIN hHeld ⊢
          refine wpAnyH_take (i := 0) (v := Value.slice (some ⟨gsc, 0, none⟩) 3 3) rfl (by kernel_rfl) (by kernel_rfl) (by kernel_rfl) (fun _ _ _ h => h) (Or.inl ⟨rfl, fun w' hw' => ?_⟩) hHeld ?_
          · go_simp
          simp only [List.getElem_toArray, List.getElem_cons_succ, List.getElem_cons_zero, Act.put, List.setIfInBounds_toArray, List.set_cons_zero, List.set_cons_succ]
          refine wpAnyH_take (i := 1) (v := Value.slice (some ⟨gf, of_, none⟩) L.length fc) rfl (by kernel_rfl) (by kernel_rfl) (by kernel_rfl) (fun _ _ _ h => h) (Or.inl ⟨rfl, fun w' hw' => ?_⟩) hHeld ?_
          · go_simp
          simp only [List.getElem_toArray, List.getElem_cons_succ, List.getElem_cons_zero, Act.put, List.setIfInBounds_toArray, List.set_cons_zero, List.set_cons_succ]
          refine wpAnyH_take (i := 2) (v := Value.int .i64 (i : Int)) rfl (by kernel_rfl) (by kernel_rfl) (by kernel_rfl) (fun _ _ _ h => h) (Or.inl ⟨rfl, fun w' hw' => ?_⟩) hHeld ?_
          · go_simp
          simp only [List.getElem_toArray, List.getElem_cons_succ, List.getElem_cons_zero, Act.put, List.setIfInBounds_toArray, List.set_cons_zero, List.set_cons_succ]
          refine wpAnyH_take (i := 3) (v := Value.pointer (some ⟨gf, of_ + i, none⟩)) rfl (by kernel_rfl) (by kernel_rfl) (by kernel_rfl) (fun _ _ _ h => h) (Or.inl ⟨rfl, fun w' hw' => ?_⟩) hHeld ?_
          · go_simp
          simp only [List.getElem_toArray, List.getElem_cons_succ, List.getElem_cons_zero, Act.put, List.setIfInBounds_toArray, List.set_cons_zero, List.set_cons_succ]
          refine wpAnyH_take (i := 4) (v := Value.string y) rfl (by kernel_rfl) (by kernel_rfl) (by kernel_rfl) (fun _ _ _ h => h) (Or.inl ⟨rfl, fun w' hw' => ?_⟩) hHeld ?_
          · have q9 := cell_below hw' e0; go_simp
          simp only [List.getElem_toArray, List.getElem_cons_succ, List.getElem_cons_zero, Act.put, List.setIfInBounds_toArray, List.set_cons_zero, List.set_cons_succ]
          refine wpAnyH_ready (rs := [5]) (by kernel_rfl) (by simp) ?_
          refine (AllReadyH.cons rfl (fun K hK => ?_) AllReadyH.nil)
          go_simp
          refine HIN.out.mono ?_
          rintro r u ⟨rfl, rfl⟩
          refine hK.out _ _ HS0.out (fun hHeld => ?_)
          clear hK K
          try simp only [List.getElem_toArray, List.getElem_cons_succ, List.getElem_cons_zero, Act.put, List.setIfInBounds_toArray, List.set_cons_zero, List.set_cons_succ]
          refine wpAnyH_take (i := 6) (v := Value.bool false) rfl (by kernel_rfl) (by kernel_rfl) (by kernel_rfl) (fun _ _ _ h => h) (Or.inl ⟨rfl, fun w' hw' => ?_⟩) hHeld ?_
          · go_simp
          simp only [List.getElem_toArray, List.getElem_cons_succ, List.getElem_cons_zero, Act.put, List.setIfInBounds_toArray, List.set_cons_zero, List.set_cons_succ]
          refine wpAnyH_take (i := 7) (v := Value.bool false) rfl (by kernel_rfl) (by kernel_rfl) (by kernel_rfl) (fun _ _ _ h => h) (Or.inl ⟨rfl, fun w' hw' => ?_⟩) hHeld ?_
          · go_simp
          simp only [List.getElem_toArray, List.getElem_cons_succ, List.getElem_cons_zero, Act.put, List.setIfInBounds_toArray, List.set_cons_zero, List.set_cons_succ]
          refine wpAnyH_take (i := 8) (v := Value.int .i64 (i : Int)) rfl (by kernel_rfl) (by kernel_rfl) (by kernel_rfl) (fun _ _ _ h => h) (Or.inl ⟨rfl, fun w' hw' => ?_⟩) hHeld ?_
          · go_simp
          simp only [List.getElem_toArray, List.getElem_cons_succ, List.getElem_cons_zero, Act.put, List.setIfInBounds_toArray, List.set_cons_zero, List.set_cons_succ]
          refine wpAnyH_take (i := 9) (v := Value.bool false) rfl (by kernel_rfl) (by kernel_rfl) (by kernel_rfl) (fun _ _ _ h => h) (Or.inl ⟨rfl, fun w' hw' => ?_⟩) hHeld ?_
          · go_simp
          simp only [List.getElem_toArray, List.getElem_cons_succ, List.getElem_cons_zero, Act.put, List.setIfInBounds_toArray, List.set_cons_zero, List.set_cons_succ]
          refine wpAnyH_take (i := 10) (v := Value.bool false) rfl (by kernel_rfl) (by kernel_rfl) (by kernel_rfl) (fun _ _ _ h => h) (Or.inl ⟨rfl, fun w' hw' => ?_⟩) hHeld ?_
          · go_simp
          simp only [List.getElem_toArray, List.getElem_cons_succ, List.getElem_cons_zero, Act.put, List.setIfInBounds_toArray, List.set_cons_zero, List.set_cons_succ]
          refine wpAnyH_take (i := 11) (v := undef) rfl (by kernel_rfl) (by kernel_rfl) (by kernel_rfl) (fun _ _ _ h => h) (Or.inr ⟨rfl, rfl⟩) hHeld ?_
          simp only [List.getElem_toArray, List.getElem_cons_succ, List.getElem_cons_zero, Act.put, List.setIfInBounds_toArray, List.set_cons_zero, List.set_cons_succ]
          refine wpAnyH_take (i := 12) (v := undef) rfl (by kernel_rfl) (by kernel_rfl) (by kernel_rfl) (fun _ _ _ h => h) (Or.inr ⟨rfl, rfl⟩) hHeld ?_
          simp only [List.getElem_toArray, List.getElem_cons_succ, List.getElem_cons_zero, Act.put, List.setIfInBounds_toArray, List.set_cons_zero, List.set_cons_succ]
          refine wpAnyH_take (i := 13) (v := undef) rfl (by kernel_rfl) (by kernel_rfl) (by kernel_rfl) (fun _ _ _ h => h) (Or.inr ⟨rfl, rfl⟩) hHeld ?_
          simp only [List.getElem_toArray, List.getElem_cons_succ, List.getElem_cons_zero, Act.put, List.setIfInBounds_toArray, List.set_cons_zero, List.set_cons_succ]
          refine wpAnyH_take (i := 14) (v := undef) rfl (by kernel_rfl) (by kernel_rfl) (by kernel_rfl) (fun _ _ _ h => h) (Or.inr ⟨rfl, rfl⟩) hHeld ?_
          simp only [List.getElem_toArray, List.getElem_cons_succ, List.getElem_cons_zero, Act.put, List.setIfInBounds_toArray, List.set_cons_zero, List.set_cons_succ]
          refine wpAnyH_take (i := 15) (v := undef) rfl (by kernel_rfl) (by kernel_rfl) (by kernel_rfl) (fun _ _ _ h => h) (Or.inr ⟨rfl, rfl⟩) hHeld ?_
          simp only [List.getElem_toArray, List.getElem_cons_succ, List.getElem_cons_zero, Act.put, List.setIfInBounds_toArray, List.set_cons_zero, List.set_cons_succ]
          refine wpAnyH_take (i := 16) (v := undef) rfl (by kernel_rfl) (by kernel_rfl) (by kernel_rfl) (fun _ _ _ h => h) (Or.inr ⟨rfl, rfl⟩) hHeld ?_
          simp only [List.getElem_toArray, List.getElem_cons_succ, List.getElem_cons_zero, Act.put, List.setIfInBounds_toArray, List.set_cons_zero, List.set_cons_succ]
          refine wpAnyH_take (i := 17) (v := undef) rfl (by kernel_rfl) (by kernel_rfl) (by kernel_rfl) (fun _ _ _ h => h) (Or.inr ⟨rfl, rfl⟩) hHeld ?_
          simp only [List.getElem_toArray, List.getElem_cons_succ, List.getElem_cons_zero, Act.put, List.setIfInBounds_toArray, List.set_cons_zero, List.set_cons_succ]
          refine wpAnyH_take (i := 18) (v := undef) rfl (by kernel_rfl) (by kernel_rfl) (by kernel_rfl) (fun _ _ _ h => h) (Or.inr ⟨rfl, rfl⟩) hHeld ?_
          simp only [List.getElem_toArray, List.getElem_cons_succ, List.getElem_cons_zero, Act.put, List.setIfInBounds_toArray, List.set_cons_zero, List.set_cons_succ]
          refine wpAnyH_take (i := 19) (v := undef) rfl (by kernel_rfl) (by kernel_rfl) (by kernel_rfl) (fun _ _ _ h => h) (Or.inr ⟨rfl, rfl⟩) hHeld ?_
          simp only [List.getElem_toArray, List.getElem_cons_succ, List.getElem_cons_zero, Act.put, List.setIfInBounds_toArray, List.set_cons_zero, List.set_cons_succ]
          refine wpAnyH_take (i := 20) (v := undef) rfl (by kernel_rfl) (by kernel_rfl) (by kernel_rfl) (fun _ _ _ h => h) (Or.inr ⟨rfl, rfl⟩) hHeld ?_
          simp only [List.getElem_toArray, List.getElem_cons_succ, List.getElem_cons_zero, Act.put, List.setIfInBounds_toArray, List.set_cons_zero, List.set_cons_succ]
          refine wpAnyH_take (i := 21) (v := Value.bool false) rfl (by kernel_rfl) (by kernel_rfl) (by kernel_rfl) (fun _ _ _ h => h) (Or.inl ⟨rfl, fun w' hw' => ?_⟩) hHeld ?_
          · go_simp
          simp only [List.getElem_toArray, List.getElem_cons_succ, List.getElem_cons_zero, Act.put, List.setIfInBounds_toArray, List.set_cons_zero, List.set_cons_succ]
          refine wpAnyH_take (i := 22) (v := Value.bool false) rfl (by kernel_rfl) (by kernel_rfl) (by kernel_rfl) (fun _ _ _ h => h) (Or.inl ⟨rfl, fun w' hw' => ?_⟩) hHeld ?_
          · go_simp
          simp only [List.getElem_toArray, List.getElem_cons_succ, List.getElem_cons_zero, Act.put, List.setIfInBounds_toArray, List.set_cons_zero, List.set_cons_succ]
          refine wpAnyH_done (by kernel_rfl) ?_ _
          refine NoPanic.normal ?_
          clear hHeld
          have HN9 := Lib.hid (HNX.out X HS0.out)
          go_wp2_with fail
          go_roundw
          case rel => exact HN9.out
          case measure => simp [intOf]; omega
      · have q1 : decide ((i : Int) < (L.length : Int)) = false := decide_eq_false (by omega)
        have HE := Lib.hid (row_below HBI.out HE12.out)
        have HEX := Lib.hid (row_below HBI.out HEX12.out)
        have HAE := Lib.hid (Et.At.keeps (Keeps.of_below HBI.out) _ _ HA12.out)
        have HXE := Lib.hid (Et.At.keeps (Keeps.of_below HBI.out) _ _ HX12.out)
        have HBW := Lib.hid (HB12.out.trans (HBI.out.mono HB12.out.size))
        have FJ := Lib.hid (fun w => within_some n 3 hn (by decide) (by decide) w)
        clear HBI HE12 HEX12 HA12 HX12 HN12 HFL1 HB12
        go_upto_region 16 with fail
        go_wp2_with fail
        refine (FJ.out _).mono ?_
        rintro r u ⟨q, hq, rfl, rfl⟩
        obtain ⟨s, hs, hsin, hs100, -⟩ := abc_get q hq
        obtain ⟨g5, o5, e5, -, e0⟩ := HNI.out.get q hq
        injection e5 with e5
        injection e5 with e6 e7
        subst e6 e7
        have e1 : wr.cell? ⟨gsc, 0 + q, none⟩ = some (.string s) := by
          rw [e0, ← hs]
          congr 2
          rw [List.getD_eq_getElem?_getD, List.getElem?_eq_getElem hq]; rfl
        rw [Nat.zero_add] at e1
        have p1 : ¬ ((3 : Int) ≤ (q : Int)) := by omega
        clear e0 hs
        go_upto_region 17 with fail
        have A1 := (Below.refl wr.heap.size wr).alloc (Nat.le_refl _) (.cells #[.string s] 9)
        have A2 := A1.alloc A1.size (.cells #[.int .i64 k1, .string t1, nv1, av1] 28)
        have s1 : (wr.alloc (.cells #[.string s] 9)).heap.size = wr.heap.size + 1 := by simp
        have hLam := lam_at (s := s) HXE.out rfl
        have hlf : (Et.mk 6 ⟨#[]⟩ [s] [x]).fine := lam_fine HMX.out.fine hs100 (fun y hy => by simpa using hy)
        have hbf : (Et.mk 9 ⟨#[]⟩ [s] [x, x]).fine := lam_fine HMX.out.fine hs100 (fun y hy => by simp at hy; exact hy)
        have HFLAM := Lib.hid (free_any _ hlf (by simp only [Et.size, Et.sizes]; omega) _ _ _ hLam)
        obtain ⟨W2, hW2⟩ : ∃ W2, W2 = (wr.alloc (.cells #[.string s] 9)).alloc (.cells #[.int .i64 k1, .string t1, nv1, av1] 28) := ⟨_, rfl⟩
        rw [← hW2] at A2 HFLAM
        have HW2 := Lib.hid hW2.symm
        have HEX1 : Hid (EB (wr.alloc (.cells #[.string s] 9)) gx k1 t1 nv1 av1) := row_below A1 HEX.out
        have HA2 := Lib.hid A2
        have hone1 : nv1.oneCell' = true := o11
        have hbf9 := Lib.hid hbf
        clear A1 A2 hW2 s1 hLam hlf hbf
        go_wp2_with (refine wpList_load_row rfl 28 _ rfl gx rfl 28 #[.int .i64 k1, .string t1, nv1, av1] (0, 0) _ HEX1.out Try.underlying28 rfl info28 ?_)
        rw [HW2.out]
        refine HFLAM.out.mono ?_
        rintro r u1 ⟨v13, L1, rfl, a1, a2, a3, hb13⟩
        have b1 : Below wr.heap.size wr u1 := HA2.out.trans (hb13.mono HA2.out.size)
        have HV1 := Lib.hid a1
        have HL1a := Lib.hid a2
        have HL1b := Lib.hid a3
        have HB1' := Lib.hid b1
        have HEX2 : Hid (EB u1 gx k1 t1 nv1 av1) := row_below b1 HEX.out
        have HX2 := Lib.hid (Et.At.keeps (Keeps.of_below b1) _ _ HXE.out)
        have HBIND := Lib.hid (bind_any s x x _ _ _ u1 HX2.out HX2.out)
        obtain ⟨o13, c13, rfl⟩ := a1.form
        clear a1 a2 a3 hb13 b1 HFLAM HW2 HA2 HEX1
        go_wp2_with (refine wpList_load_row rfl 28 _ rfl gx rfl 28 #[.int .i64 k1, .string t1, nv1, av1] (0, 0) _ HEX2.out Try.underlying28 rfl info28 ?_)
        refine HBIND.out.mono ?_
        rintro r u2 ⟨cs9, rfl, hat9, hb9⟩
        obtain ⟨k9, t9, nv9, av9, rfl, o19, o29⟩ := EAt_form hat9
        have HB2' := Lib.hid (HB1'.out.trans (hb9.mono HB1'.out.size))
        have HV2 := Lib.hid (HV1.out.keeps (Keeps.of_below hb9))
        have HFB := Lib.hid (free_any _ hbf9.out (by simp only [Et.size, Et.sizes]; omega) _ _ u2 hat9)
        clear hat9 hb9 HBIND HX2 HEX2
        go_wp2_with fail
        refine HFB.out.mono ?_
        rintro r u3 ⟨v14, L2, rfl, a1, a2, a3, hb14⟩
        have HB3' := Lib.hid (HB2'.out.trans (hb14.mono HB2'.out.size))
        have HV3 := Lib.hid (HV2.out.keeps (Keeps.of_below hb14))
        have HV4 := Lib.hid a1
        have hL12 : L2 = L1 := srt_ext a2 HL1a.out (fun y => (a3 y).trans (((bind_fr x s y).trans (lam_fr x s y).symm).trans (HL1b.out y).symm))
        have hL1w : L1 = wo L [s] := srt_ext HL1a.out (wo_srt HFL2.out) (fun y => (HL1b.out y).trans ((lam_fr x s y).trans (by rw [wo_mem, HFL3.out])))
        have hL1n : L1.length ≤ 3 := by rw [hL1w]; exact Nat.le_trans (wo_len _ _) hL3
        have HL12 := Lib.hid hL12
        have HL1w := Lib.hid hL1w
        obtain ⟨o14, c14, rfl⟩ := a1.form
        have HE3 : Hid (EB u3 ge k0 x0 nv0 av0) := row_below HB3'.out HE.out
        have HFE := Lib.hid (free_any t0 HM.out.fine (by omega) _ _ u3 (Et.At.keeps (Keeps.of_below HB3'.out) _ _ HAE.out))
        clear a1 a2 a3 hb14 hL12 hL1w HFB HV1 HV2
        go_wp2_with (refine wpList_load_row rfl 28 _ rfl ge rfl 28 #[.int .i64 k0, .string x0, nv0, av0] (0, 0) _ HE3.out Try.underlying28 rfl info28 ?_)
        refine HFE.out.mono ?_
        rintro r u4 ⟨v15, L3, rfl, a1, -, a3, hb15⟩
        have hL30 : L3 = [] := by
          cases L3 with
          | nil => rfl
          | cons y l => have := HM.out.free y ((a3 y).1 (by simp)); simp at this
        subst hL30
        obtain ⟨o15, c15, rfl⟩ := a1.form
        have HB4' := Lib.hid (HB3'.out.trans (hb15.mono HB3'.out.size))
        have HV5 := Lib.hid (HV3.out.keeps (Keeps.of_below hb15))
        have HV6 := Lib.hid (HV4.out.keeps (Keeps.of_below hb15))
        have A5 := (Below.refl u4.heap.size u4).alloc (Nat.le_refl _) (.cells (tcells [s]) 9)
        have HV7 := Lib.hid (HV5.out.keeps (Keeps.of_below A5))
        have HV8 := Lib.hid (HV6.out.keeps (Keeps.of_below A5))
        have HB5' := Lib.hid (HB4'.out.trans (A5.mono HB4'.out.size))
        have HWO := Lib.hid (without_any L [s] _ _ _ _ (u4.alloc (.cells (tcells [s]) 9)) (HLI.out.keeps (Keeps.of_below HB5'.out)) (NAt.lits u4 [s]) (by omega) (by simp))
        clear a1 a3 hb15 A5 HFE HE3 HV3 HV4
        simp only [List.length_nil] at *
        go_wp2_with fail
        refine HWO.out.mono ?_
        rintro r u5 ⟨v16, rfl, ow, hb16⟩
        have HB6' := Lib.hid (HB5'.out.trans (hb16.mono HB5'.out.size))
        have HT1 := Lib.hid (texts_any L1 (wo L [s]) _ _ _ _ u5 (HV7.out.keeps (Keeps.of_below hb16)) ow.at (by omega) (by have := wo_len L [s]; omega))
        rw [decide_eq_true HL1w.out] at HT1
        have HV9 := Lib.hid (HV7.out.keeps (Keeps.of_below hb16))
        have HV10 := Lib.hid (HV8.out.keeps (Keeps.of_below hb16))
        obtain ⟨n9, hn9⟩ : ∃ n9, n9 = (wo L [s]).length := ⟨_, rfl⟩
        obtain ⟨o16, c16, e9⟩ := own_form ow
        rw [← hn9] at e9
        subst e9
        clear ow hb16 hn9 HWO HV7 HV8
        go_wp2_with fail
        refine HT1.out.mono ?_
        rintro r u6 ⟨rfl, hb17⟩
        have HB7' := Lib.hid (HB6'.out.trans (hb17.mono HB6'.out.size))
        have HT2 := Lib.hid (texts_any L2 L1 _ _ _ _ u6 (HV10.out.keeps (Keeps.of_below hb17)) (HV9.out.keeps (Keeps.of_below hb17)) (by rw [HL12.out]; omega) (by omega))
        rw [decide_eq_true HL12.out] at HT2
        clear hb17 HT1
        go_wp2_with fail
        refine HT2.out.mono ?_
        rintro r u7 ⟨rfl, hb18⟩
        have HFIN := Lib.hid (HBW.out.trans ((HB7'.out.trans (hb18.mono HB7'.out.size)).mono HBW.out.size))
        clear hb18
        go_wp2_with fail
        go_ret
        exact ⟨rfl, HFIN.out⟩
end Go.Proofs.Ytpkcoplpfenliaa
