/- The writer's let. -/
import Derived.Test.YtcalbcllmmoldaaTX1
import Derived.Test.YtcalbcllmmoldaaMN1
namespace Go.Proofs.Ytcalbcllmmoldaa
open Go.RowKit Go.BigM
set_option linter.unusedVariables false
set_option linter.unusedSimpArgs false
def ltx (ns : List ByteArray) (l : List Et) : List UInt8 := [40, 108, 101, 116, 32, 40] ++ Et.wrb false ns l ++ [41] ++ Et.wrl ns l ++ [41]
def LtInv (B b : Nat) (l0 : List UInt8) (ns : List ByteArray) (l : List Et) (w : World) (iv : Value) (wr : World) : Prop :=
  ∃ j : Nat, j ≤ ns.length ∧ iv = .int .i64 (j : Int) ∧ Wr B b (l0 ++ Et.wrb false (ns.take j) (l.take j)) wr ∧ Fr B b w wr
def L2Inv (B b : Nat) (lz : List UInt8) (e : Et) (w : World) (iv : Value) (wr : World) : Prop :=
  (iv = .int .i64 0 ∧ Wr B b lz wr ∧ Fr B b w wr) ∨ (iv = .int .i64 1 ∧ Wr B b (lz ++ 32 :: e.wr) wr ∧ Fr B b w wr)
set_option maxHeartbeats 8000000 in
set_option maxRecDepth 100000 in
theorem let_any (ns : List ByteArray) (l : List Et) (ih : ∀ e ∈ l, TC e) (hll : l.length = ns.length + 1) (hne : ∀ s ∈ ns, s.toList.isEmpty = false) (B b : Nat) (l0 : List UInt8) (S : Nat → Prop) (nv0 av0 : Value) (w : World) (hnat : NAt S w nv0 ns) (hat : AAt S w av0 l) (hW : Wr B b l0 w) (hlen : l0.length + (ltx ns l).length ≤ 1000000000) (hBw : B ≤ w.heap.size) (hl : l.length ≤ 100000) :
    Calls Try.prog 59 #[.pointer (some ⟨b, 0, none⟩), nv0, av0] w (RetPut B b (l0 ++ ltx ns l) w) := by
  obtain ⟨ao, cap, rfl⟩ := hat.form
  obtain ⟨no, nc, rfl⟩ := hnat.form
  have hcap := hat.caps
  have hao : ∃ g o, ao = some ⟨g, o, none⟩ := by
    rcases hat with ⟨_, rfl⟩ | ⟨g, o, cap', arr, fz, e, _⟩
    · simp at hll
    · injection e with e1; exact ⟨g, o, e1⟩
  obtain ⟨g0, o0, rfl⟩ := hao
  have HAT := Lib.hid hat
  have HNAT := Lib.hid hnat
  have IH := Lib.hid ih
  have HLL := Lib.hid hll
  have HNE := Lib.hid hne
  have hbw := hW.lt
  have hlen2 : l0.length + (6 + ((Et.wrb false ns l).length + (1 + ((Et.wrl ns l).length + 1)))) ≤ 1000000000 := by
    have := hlen
    unfold ltx at this
    simp only [List.length_append, List.length_cons, List.length_nil] at this
    omega
  have P0 := Lib.hid (put_any B b l0 [⟨#[40, 108, 101, 116, 32, 40]⟩] _ _ _ (NAt.lits w [⟨#[40, 108, 101, 116, 32, 40]⟩]) (hW.alloc _) (by simp [cat]; omega) (by simp) (by simp; omega))
  have F0 := Lib.hid ((Fr.refl B b w).alloc hBw (.cells (tcells [⟨#[40, 108, 101, 116, 32, 40]⟩]) 9))
  have HW0 := Lib.hid hW
  have HFM : Hid (l0 ++ ltx ns l = l0 ++ cat [⟨#[40, 108, 101, 116, 32, 40]⟩] ++ Et.wrb false ns l ++ [41] ++ Et.wrl ns l ++ [41]) := by
    show _ = _
    unfold ltx; simp [cat]
  rw [HFM.out]
  obtain ⟨l1, hl1e⟩ : ∃ l1, l1 = l0 ++ cat [⟨#[40, 108, 101, 116, 32, 40]⟩] := ⟨_, rfl⟩
  rw [← hl1e] at P0 ⊢
  have hl1 : l1.length + ((Et.wrb false ns l).length + (1 + ((Et.wrl ns l).length + 1))) ≤ 1000000000 := by rw [hl1e]; simp [cat]; omega
  have HL1 := Lib.hid hl1
  obtain ⟨m, hm⟩ : ∃ m, m = ns.length := ⟨_, rfl⟩
  have hlm : l.length = m + 1 := by omega
  have hmin : min (m : Int) ((m : Int) + 1) = (m : Int) := Int.min_eq_left (by omega)
  have hm1 : m ≤ cap := by omega
  have hm2 : (m : Int) ≤ (cap : Int) := by omega
  have HM := Lib.hid hm
  clear hat hnat hW hlen hlen2 ih hl1 hl1e HFM hll hne
  rw [← hm]
  rw [hlm] at hcap hl ⊢
  have HLM := Lib.hid hlm
  clear hm hlm
  go_enter Try.func59, Try.ntmps59
  go_wp2_with fail
  refine P0.out.mono ?_
  rintro e w1 ⟨rfl, hW1, hF1⟩
  have HW1 := Lib.hid hW1
  have HF1 := Lib.hid (F0.out.trans hF1)
  have hc0 : ¬ cap = 0 := by omega
  clear hW1 hF1 P0 F0
  go_wp2_with fail
  go_loopw [23] (fun iv wr => LtInv B b l1 ns l w iv wr) (fun iv _ => ns.length - (intOf iv).toNat)
  case atStart => exact ⟨0, Nat.zero_le _, rfl, by simpa [Et.wrb] using HW1.out, HF1.out⟩
  case round =>
    obtain ⟨j, hj, rfl, hWj, hFj⟩ := hrel
    have HWJ := Lib.hid hWj
    have HFJ := Lib.hid hFj
    have HATJ := Lib.hid (HAT.out.keeps (Keeps.of_fr HW0.out hFj))
    have HNJ := Lib.hid (HNAT.out.keeps (Keeps.of_fr HW0.out hFj))
    have hBr : B ≤ wr.heap.size := by have h1 := hFj.1.size; omega
    clear hWj hFj
    by_cases hlt : j < m
    · have q1 : decide ((j : Int) < (m : Int)) = true := decide_eq_true (by omega)
      have hjl : j < l.length := by have := HLM.out; omega
      have hjn : j < ns.length := by have := HM.out; omega
      obtain ⟨g, o, k, t, nv, av, ego, hS, -, hatj, e0, e1, e2, e3, o1, o2⟩ := HATJ.out.get j hjl
      injection ego with ego
      injection ego with eg eo
      subst eg eo
      have z0 : (#[.int .i64 k, .string t, nv, av] : Array Value).all (·.oneCell') = true := by simp [Value.oneCell'] at o1 o2 ⊢; exact ⟨o1, o2⟩
      have HTC := Lib.hid (IH.out _ (List.getElem_mem hjl))
      have HTK := Lib.hid (wrb_take ns l false j hjl hjn)
      obtain ⟨gn, on, rfl, -, -⟩ := HNJ.out.get j hjn
      obtain ⟨x, hx⟩ : ∃ x, ns[j] = x := ⟨_, rfl⟩
      have HXE : Hid (x.toList.isEmpty = false) := by rw [← hx]; exact HNE.out _ (List.getElem_mem hjn)
      have HLE : Hid (l1.length + (Et.wrb false (ns.take j) (l.take j)).length + ((if (0 < j) then [32] else ([] : List UInt8)).length + (3 + x.data.toList.length + l[j].wr.length)) ≤ 1000000000) := by
        show _ ≤ _
        have h1 := wrb_take_le ns l false (j + 1)
        have h2 := HL1.out
        rw [HTK.out, hx] at h1
        simp only [List.length_append, List.length_cons, List.length_nil, Bool.false_or, decide_eq_true_eq] at h1
        omega
      rw [hx] at HTK
      have HATJ2 := Lib.hid hatj
      have hb9 := HWJ.out.lt
      have HX := Lib.hid hx
      clear hatj hS hx
      go_upto_region 5 with (refine wpList_store_row rfl 28 _ _ rfl wr.heap.size #[.int .i64 k, .string t, nv, av] rfl rfl 28 Z4 (alloc_at _ _) info28 rfl z0 ?_)
      try simp only [Act.put]
      have E0 : (wr.alloc (.cells #[.int .i64 0, .string ⟨#[]⟩, .slice none 0 0, .slice none 0 0] 28)).setRow wr.heap.size #[.int .i64 k, .string t, nv, av] = wr.alloc (.cells #[.int .i64 k, .string t, nv, av] 28) := setRow_new _ _ _ _
      try rw [E0]
      clear E0
      have A4 := (Below.refl wr.heap.size wr).alloc (Nat.le_refl _) (.cells #[.int .i64 k, .string t, nv, av] 28)
      have HW4 := Lib.hid (HWJ.out.alloc (.cells #[.int .i64 k, .string t, nv, av] 28))
      have HF4 := Lib.hid (HFJ.out.alloc hBr (.cells #[.int .i64 k, .string t, nv, av] 28))
      have HP4 : Hid (EB (wr.alloc (.cells #[.int .i64 k, .string t, nv, av] 28)) wr.heap.size k t nv av) := alloc_at _ _
      have HAT4 := Lib.hid (Et.At.keeps (Keeps.of_below A4) _ _ HATJ2.out)
      have HN4 := Lib.hid (HNJ.out.keeps (Keeps.of_below A4))
      have hB4 : B ≤ (wr.alloc (.cells #[.int .i64 k, .string t, nv, av] 28)).heap.size := by simp; omega
      have hgp4 : wr.heap.size < (wr.alloc (.cells #[.int .i64 k, .string t, nv, av] 28)).heap.size := by simp
      have hgpb : wr.heap.size ≠ b := by omega
      clear A4
      generalize wr.alloc (.cells #[.int .i64 k, .string t, nv, av] 28) = W4 at HW4 HF4 HP4 HAT4 HN4 hB4 hgp4 ⊢
      generalize wr.heap.size = gp at HP4 hgpb hgp4 ⊢
      clear e0 e1 e2 e3 hb9 HATJ HATJ2 HNJ hBr
      by_cases hj0 : 0 < j
      · have q2 : decide ((0 : Int) < (j : Int)) = true := decide_eq_true (by omega)
        rw [if_pos hj0] at HLE
        simp only [List.length_cons, List.length_nil] at HLE
        have P5 := Lib.hid (put_any B b (l1 ++ Et.wrb false (ns.take j) (l.take j)) [⟨#[32]⟩] _ _ _ (NAt.lits W4 [⟨#[32]⟩]) (HW4.out.alloc _) (by have h1 := HLE.out; simp [cat]; omega) (by simp) (by simp; omega))
        have F5 := Lib.hid (HF4.out.alloc hB4 (.cells (tcells [⟨#[32]⟩]) 9))
        have A5 := Lib.hid ((Below.refl W4.heap.size W4).alloc (Nat.le_refl _) (.cells (tcells [⟨#[32]⟩]) 9))
        go_wp2_with fail
        refine P5.out.mono ?_
        rintro e w5 ⟨rfl, hW5, hF5⟩
        have hB5 : B ≤ w5.heap.size := Nat.le_trans (Nat.le_trans hB4 A5.out.size) hF5.1.size
        have hgp5 : gp < w5.heap.size := Nat.lt_of_lt_of_le hgp4 (Nat.le_trans A5.out.size hF5.1.size)
        have HW5 := Lib.hid hW5
        have HF5 := Lib.hid (F5.out.trans hF5)
        have HP5 : Hid (EB w5 gp k t nv av) := hF5.keep (row_below A5.out HP4.out) (by decide) hgpb
        have HAT5 := Lib.hid (Et.At.keeps (Keeps.of_fr (HW4.out.alloc (.cells (tcells [⟨#[32]⟩]) 9)) hF5) _ _ (Et.At.keeps (Keeps.of_below A5.out) _ _ HAT4.out))
        have HN5 := Lib.hid ((HN4.out.keeps (Keeps.of_below A5.out)).keeps (Keeps.of_fr (HW4.out.alloc (.cells (tcells [⟨#[32]⟩]) 9)) hF5))
        clear hW5 hF5 P5 F5 A5 HW4 HF4 HP4 HAT4 HN4 hB4 hgp4
        have HNC : Hid (∀ w', Fr B b w5 w' → w'.cell? ⟨gn, on + j, none⟩ = some (.string x)) := by
          show ∀ w', _ → _
          intro w' hw'
          obtain ⟨g2, o2, e2, -, h2⟩ := (HN5.out.keeps (Keeps.of_fr HW5.out hw')).get j hjn
          injection e2 with e2
          injection e2 with e3 e4
          subst e3 e4
          rw [← HX.out]; exact h2
        have HPC : Hid (∀ w', Fr B b w5 w' → w'.cell? ⟨gp, 0, none⟩ = some (.int .i64 k) ∧ w'.cell? ⟨gp, 1, none⟩ = some (.string t) ∧ w'.cell? ⟨gp, 2, none⟩ = some nv ∧ w'.cell? ⟨gp, 3, none⟩ = some av) := fun w' hw' => EB.cell w' gp k t nv av (hw'.keep HP5.out (by decide) hgpb)
        have HNX : Hid (∀ W', Wr B b ((l1 ++ Et.wrb false (ns.take j) (l.take j) ++ cat [⟨#[32]⟩]) ++ fmt x [l[j]]) W' → Fr B b w5 W' → LtInv B b l1 ns l w (.int .i64 ((j : Int) + 1)) W') := by
          show ∀ W', _ → _ → _
          intro W' h1 h2
          refine ⟨j + 1, by have := HM.out; omega, by go_num, ?_, HF5.out.trans h2⟩
          rw [HTK.out]
          have h3 := HXE.out
          unfold fmt at h1
          simp [Et.wrs, h3, cat, hj0] at h1 ⊢
          exact h1
        have HLC : Hid ((l1 ++ Et.wrb false (ns.take j) (l.take j) ++ cat [⟨#[32]⟩]).length + (fmt x [l[j]]).length ≤ 1000000000) := by
          show _ ≤ _
          have h1 := HLE.out
          have h3 := HXE.out
          unfold fmt
          simp [Et.wrs, h3, cat] at h1 ⊢
          omega
        have HS0 : Hid (Fr B b w5 w5.drew) := (Fr.refl _ _ _).drew
        have HWD : Hid (Wr B b (l1 ++ Et.wrb false (ns.take j) (l.take j) ++ cat [⟨#[32]⟩]) w5.drew) := HW5.out.drew
        have HAD := Lib.hid (Et.At.keeps (Keeps.of_below ((Below.refl w5.heap.size w5).drew)) _ _ HAT5.out)
        have hBD : B ≤ w5.drew.heap.size := hB5
        clear HF5 HP5 HAT5 HN5 HTK HLE hgp5
        go_upto_region 7 with fail
        refine wp_region_noPanic ?_
        refine wp_region_held_drew (S := Fr B b w5) (by kernel_rfl) HS0.out (fun hHeld => ?_)
        generalize w5.drew = X at HS0 HWD HAD hBD hHeld ⊢
        refine wpAnyH_take (i := 0) (v := Value.pointer (some ⟨b, 0, none⟩)) rfl (by kernel_rfl) (by kernel_rfl) (by kernel_rfl) (fun _ _ _ h => h) (Or.inl ⟨rfl, fun w' hw' => ?_⟩) hHeld ?_
        · go_simp
        simp only [List.getElem_toArray, List.getElem_cons_succ, List.getElem_cons_zero, Act.put, List.setIfInBounds_toArray, List.set_cons_zero, List.set_cons_succ]
        refine wpAnyH_take (i := 1) (v := Value.slice (some ⟨gn, on, none⟩) m nc) rfl (by kernel_rfl) (by kernel_rfl) (by kernel_rfl) (fun _ _ _ h => h) (Or.inl ⟨rfl, fun w' hw' => ?_⟩) hHeld ?_
        · go_simp
        simp only [List.getElem_toArray, List.getElem_cons_succ, List.getElem_cons_zero, Act.put, List.setIfInBounds_toArray, List.set_cons_zero, List.set_cons_succ]
        refine wpAnyH_take (i := 2) (v := Value.int .i64 (j : Int)) rfl (by kernel_rfl) (by kernel_rfl) (by kernel_rfl) (fun _ _ _ h => h) (Or.inl ⟨rfl, fun w' hw' => ?_⟩) hHeld ?_
        · go_simp
        simp only [List.getElem_toArray, List.getElem_cons_succ, List.getElem_cons_zero, Act.put, List.setIfInBounds_toArray, List.set_cons_zero, List.set_cons_succ]
        refine wpAnyH_take (i := 3) (v := Value.pointer (some ⟨gn, on + j, none⟩)) rfl (by kernel_rfl) (by kernel_rfl) (by kernel_rfl) (fun _ _ _ h => h) (Or.inl ⟨rfl, fun w' hw' => ?_⟩) hHeld ?_
        · go_simp
        simp only [List.getElem_toArray, List.getElem_cons_succ, List.getElem_cons_zero, Act.put, List.setIfInBounds_toArray, List.set_cons_zero, List.set_cons_succ]
        refine wpAnyH_take (i := 4) (v := Value.string x) rfl (by kernel_rfl) (by kernel_rfl) (by kernel_rfl) (fun _ _ _ h => h) (Or.inl ⟨rfl, fun w' hw' => ?_⟩) hHeld ?_
        · have q9 := HNC.out w' hw'; go_simp
        simp only [List.getElem_toArray, List.getElem_cons_succ, List.getElem_cons_zero, Act.put, List.setIfInBounds_toArray, List.set_cons_zero, List.set_cons_succ]
        refine wpAnyH_take (i := 5) (v := Value.agg #[.int .i64 k, .string t, nv, av]) rfl (by kernel_rfl) (by kernel_rfl) (by kernel_rfl) (fun _ _ _ h => h) (Or.inl ⟨rfl, fun w' hw' => ?_⟩) hHeld ?_
        · obtain ⟨d0, d1, d2, d3⟩ := HPC.out w' hw'; go_simp
        simp only [List.getElem_toArray, List.getElem_cons_succ, List.getElem_cons_zero, Act.put, List.setIfInBounds_toArray, List.set_cons_zero, List.set_cons_succ]
        refine wpAnyH_ready (rs := [6]) (by kernel_rfl) (by simp) ?_
        refine (AllReadyH.cons rfl (fun K hK => ?_) AllReadyH.nil)
        go_simp
        have HS6 : Hid (Fr B b w5 (X.alloc (.cells #[.int .i64 k, .string t, nv, av] 28))) := HS0.out.alloc hBD _
        have HFA := Lib.hid (form_any [l[j]] (fun e he => by simp at he; subst he; exact HTC.out) B b (l1 ++ Et.wrb false (ns.take j) (l.take j) ++ cat [⟨#[32]⟩]) x (fun _ => True) (.slice (some ⟨X.heap.size, 0, none⟩) 1 1) (X.alloc (.cells #[.int .i64 k, .string t, nv, av] 28)) (one_at1 trivial (Et.At.mono (fun _ _ => trivial) _ _ (Et.At.keeps (Keeps.of_below ((Below.refl X.heap.size X).alloc (Nat.le_refl _) _)) _ _ HAD.out)) (alloc_at _ _)) (HWD.out.alloc _) HLC.out (by simp; omega) (by simp))
        refine hK.out _ _ HS6.out (fun hHeld => ?_)
        clear hK K
        try simp only [List.getElem_toArray, List.getElem_cons_succ, List.getElem_cons_zero, Act.put, List.setIfInBounds_toArray, List.set_cons_zero, List.set_cons_succ]
        refine wpAnyH_ready (rs := [7]) (by kernel_rfl) (by simp) ?_
        refine (AllReadyH.cons rfl (fun K hK => ?_) AllReadyH.nil)
        go_simp
        refine HFA.out.mono ?_
        rintro e w6 ⟨rfl, hW6, hF6⟩
        have HF7 := Lib.hid (HS6.out.trans hF6)
        have HN7 := Lib.hid (HNX.out _ hW6 HF7.out)
        clear hW6 hF6
        refine hK.out _ _ HF7.out (fun hHeld => ?_)
        clear hK K
        try simp only [List.getElem_toArray, List.getElem_cons_succ, List.getElem_cons_zero, Act.put, List.setIfInBounds_toArray, List.set_cons_zero, List.set_cons_succ]
        refine wpAnyH_done (by kernel_rfl) ?_ _
        refine NoPanic.normal ?_
        clear hHeld
        go_wp2_with fail
        go_roundw
        case rel => exact HN7.out
        case measure => have := HM.out; simp [intOf]; omega
      · have q2 : decide ((0 : Int) < (j : Int)) = false := decide_eq_false (by omega)
        have HW5 := HW4
        have HF5 := HF4
        have HP5 := HP4
        have HAT5 := HAT4
        have HN5 := HN4
        have hB5 := hB4
        have hgp5 := hgp4
        obtain ⟨w5, hw5⟩ : ∃ w5, w5 = W4 := ⟨_, rfl⟩
        rw [← hw5] at HW5 HF5 HP5 HAT5 HN5 hB5 hgp5 ⊢
        rw [if_neg hj0] at HLE
        simp only [List.length_nil] at HLE
        clear HW4 HF4 HP4 HAT4 HN4 hB4 hgp4 hw5
        have HNC : Hid (∀ w', Fr B b w5 w' → w'.cell? ⟨gn, on + j, none⟩ = some (.string x)) := by
          show ∀ w', _ → _
          intro w' hw'
          obtain ⟨g2, o2, e2, -, h2⟩ := (HN5.out.keeps (Keeps.of_fr HW5.out hw')).get j hjn
          injection e2 with e2
          injection e2 with e3 e4
          subst e3 e4
          rw [← HX.out]; exact h2
        have HPC : Hid (∀ w', Fr B b w5 w' → w'.cell? ⟨gp, 0, none⟩ = some (.int .i64 k) ∧ w'.cell? ⟨gp, 1, none⟩ = some (.string t) ∧ w'.cell? ⟨gp, 2, none⟩ = some nv ∧ w'.cell? ⟨gp, 3, none⟩ = some av) := fun w' hw' => EB.cell w' gp k t nv av (hw'.keep HP5.out (by decide) hgpb)
        have HNX : Hid (∀ W', Wr B b ((l1 ++ Et.wrb false (ns.take j) (l.take j)) ++ fmt x [l[j]]) W' → Fr B b w5 W' → LtInv B b l1 ns l w (.int .i64 ((j : Int) + 1)) W') := by
          show ∀ W', _ → _ → _
          intro W' h1 h2
          refine ⟨j + 1, by have := HM.out; omega, by go_num, ?_, HF5.out.trans h2⟩
          rw [HTK.out]
          have h3 := HXE.out
          unfold fmt at h1
          simp [Et.wrs, h3, cat, hj0] at h1 ⊢
          exact h1
        have HLC : Hid ((l1 ++ Et.wrb false (ns.take j) (l.take j)).length + (fmt x [l[j]]).length ≤ 1000000000) := by
          show _ ≤ _
          have h1 := HLE.out
          have h3 := HXE.out
          unfold fmt
          simp [Et.wrs, h3, cat] at h1 ⊢
          omega
        have HS0 : Hid (Fr B b w5 w5.drew) := (Fr.refl _ _ _).drew
        have HWD : Hid (Wr B b (l1 ++ Et.wrb false (ns.take j) (l.take j)) w5.drew) := HW5.out.drew
        have HAD := Lib.hid (Et.At.keeps (Keeps.of_below ((Below.refl w5.heap.size w5).drew)) _ _ HAT5.out)
        have hBD : B ≤ w5.drew.heap.size := hB5
        clear HF5 HP5 HAT5 HN5 HTK HLE hgp5
        go_upto_region 7 with fail
        refine wp_region_noPanic ?_
        refine wp_region_held_drew (S := Fr B b w5) (by kernel_rfl) HS0.out (fun hHeld => ?_)
        generalize w5.drew = X at HS0 HWD HAD hBD hHeld ⊢
        refine wpAnyH_take (i := 0) (v := Value.pointer (some ⟨b, 0, none⟩)) rfl (by kernel_rfl) (by kernel_rfl) (by kernel_rfl) (fun _ _ _ h => h) (Or.inl ⟨rfl, fun w' hw' => ?_⟩) hHeld ?_
        · go_simp
        simp only [List.getElem_toArray, List.getElem_cons_succ, List.getElem_cons_zero, Act.put, List.setIfInBounds_toArray, List.set_cons_zero, List.set_cons_succ]
        refine wpAnyH_take (i := 1) (v := Value.slice (some ⟨gn, on, none⟩) m nc) rfl (by kernel_rfl) (by kernel_rfl) (by kernel_rfl) (fun _ _ _ h => h) (Or.inl ⟨rfl, fun w' hw' => ?_⟩) hHeld ?_
        · go_simp
        simp only [List.getElem_toArray, List.getElem_cons_succ, List.getElem_cons_zero, Act.put, List.setIfInBounds_toArray, List.set_cons_zero, List.set_cons_succ]
        refine wpAnyH_take (i := 2) (v := Value.int .i64 (j : Int)) rfl (by kernel_rfl) (by kernel_rfl) (by kernel_rfl) (fun _ _ _ h => h) (Or.inl ⟨rfl, fun w' hw' => ?_⟩) hHeld ?_
        · go_simp
        simp only [List.getElem_toArray, List.getElem_cons_succ, List.getElem_cons_zero, Act.put, List.setIfInBounds_toArray, List.set_cons_zero, List.set_cons_succ]
        refine wpAnyH_take (i := 3) (v := Value.pointer (some ⟨gn, on + j, none⟩)) rfl (by kernel_rfl) (by kernel_rfl) (by kernel_rfl) (fun _ _ _ h => h) (Or.inl ⟨rfl, fun w' hw' => ?_⟩) hHeld ?_
        · go_simp
        simp only [List.getElem_toArray, List.getElem_cons_succ, List.getElem_cons_zero, Act.put, List.setIfInBounds_toArray, List.set_cons_zero, List.set_cons_succ]
        refine wpAnyH_take (i := 4) (v := Value.string x) rfl (by kernel_rfl) (by kernel_rfl) (by kernel_rfl) (fun _ _ _ h => h) (Or.inl ⟨rfl, fun w' hw' => ?_⟩) hHeld ?_
        · have q9 := HNC.out w' hw'; go_simp
        simp only [List.getElem_toArray, List.getElem_cons_succ, List.getElem_cons_zero, Act.put, List.setIfInBounds_toArray, List.set_cons_zero, List.set_cons_succ]
        refine wpAnyH_take (i := 5) (v := Value.agg #[.int .i64 k, .string t, nv, av]) rfl (by kernel_rfl) (by kernel_rfl) (by kernel_rfl) (fun _ _ _ h => h) (Or.inl ⟨rfl, fun w' hw' => ?_⟩) hHeld ?_
        · obtain ⟨d0, d1, d2, d3⟩ := HPC.out w' hw'; go_simp
        simp only [List.getElem_toArray, List.getElem_cons_succ, List.getElem_cons_zero, Act.put, List.setIfInBounds_toArray, List.set_cons_zero, List.set_cons_succ]
        refine wpAnyH_ready (rs := [6]) (by kernel_rfl) (by simp) ?_
        refine (AllReadyH.cons rfl (fun K hK => ?_) AllReadyH.nil)
        go_simp
        have HS6 : Hid (Fr B b w5 (X.alloc (.cells #[.int .i64 k, .string t, nv, av] 28))) := HS0.out.alloc hBD _
        have HFA := Lib.hid (form_any [l[j]] (fun e he => by simp at he; subst he; exact HTC.out) B b (l1 ++ Et.wrb false (ns.take j) (l.take j)) x (fun _ => True) (.slice (some ⟨X.heap.size, 0, none⟩) 1 1) (X.alloc (.cells #[.int .i64 k, .string t, nv, av] 28)) (one_at1 trivial (Et.At.mono (fun _ _ => trivial) _ _ (Et.At.keeps (Keeps.of_below ((Below.refl X.heap.size X).alloc (Nat.le_refl _) _)) _ _ HAD.out)) (alloc_at _ _)) (HWD.out.alloc _) HLC.out (by simp; omega) (by simp))
        refine hK.out _ _ HS6.out (fun hHeld => ?_)
        clear hK K
        try simp only [List.getElem_toArray, List.getElem_cons_succ, List.getElem_cons_zero, Act.put, List.setIfInBounds_toArray, List.set_cons_zero, List.set_cons_succ]
        refine wpAnyH_ready (rs := [7]) (by kernel_rfl) (by simp) ?_
        refine (AllReadyH.cons rfl (fun K hK => ?_) AllReadyH.nil)
        go_simp
        refine HFA.out.mono ?_
        rintro e w6 ⟨rfl, hW6, hF6⟩
        have HF7 := Lib.hid (HS6.out.trans hF6)
        have HN7 := Lib.hid (HNX.out _ hW6 HF7.out)
        clear hW6 hF6
        refine hK.out _ _ HF7.out (fun hHeld => ?_)
        clear hK K
        try simp only [List.getElem_toArray, List.getElem_cons_succ, List.getElem_cons_zero, Act.put, List.setIfInBounds_toArray, List.set_cons_zero, List.set_cons_succ]
        refine wpAnyH_done (by kernel_rfl) ?_ _
        refine NoPanic.normal ?_
        clear hHeld
        go_wp2_with fail
        go_roundw
        case rel => exact HN7.out
        case measure => have := HM.out; simp [intOf]; omega
    · have q1 : decide ((j : Int) < (m : Int)) = false := decide_eq_false (by omega)
      obtain rfl : j = m := by have := HM.out; omega
      have HWE : Hid (Wr B b (l1 ++ Et.wrb false ns l) wr) := by
        show Wr B b (l1 ++ Et.wrb false ns l) wr
        have h1 := HWJ.out
        rw [HM.out, List.take_length, wrb_short] at h1
        exact h1
      have P8 := Lib.hid (put_any B b (l1 ++ Et.wrb false ns l) [⟨#[41]⟩] _ _ _ (NAt.lits wr [⟨#[41]⟩]) (HWE.out.alloc _) (by have h1 := HL1.out; simp [cat]; omega) (by simp) (by simp; omega))
      have F8 := Lib.hid (HFJ.out.alloc hBr (.cells (tcells [⟨#[41]⟩]) 9))
      clear HATJ HNJ HWJ HWE
      go_wp2_with fail
      refine P8.out.mono ?_
      rintro e w9 ⟨rfl, hW9, hF9⟩
      have HW9 : Hid (Wr B b (l1 ++ Et.wrb false ns l ++ [41]) w9) := by show Wr B b (l1 ++ Et.wrb false ns l ++ [41]) w9; simpa [cat] using hW9
      have HF9 := Lib.hid (F8.out.trans hF9)
      have hcj : ¬ cap = j := by omega
      have hjm : j < l.length := by have := HLM.out; omega
      have HWL : Hid (Et.wrl ns l = 32 :: l[j].wr) := by
        show _ = _
        have h1 := HM.out
        subst h1
        exact wrl_last ns l hjm HLM.out
      have hl2 := HL1.out
      rw [HWL.out] at hl2
      simp only [List.length_cons] at hl2
      have HLZ : Hid ((l1 ++ Et.wrb false ns l ++ [41]).length + l[j].wr.length + 2 ≤ 1000000000) := by show _ ≤ _; simp only [List.length_append, List.length_cons, List.length_nil]; omega
      obtain ⟨lz, hlz⟩ : ∃ lz, lz = l1 ++ Et.wrb false ns l ++ [41] := ⟨_, rfl⟩
      rw [← hlz] at HW9 HLZ
      have HEND : Hid (∀ W', Wr B b (lz ++ 32 :: l[j].wr ++ [41]) W' → Wr B b (l1 ++ Et.wrb false ns l ++ [41] ++ Et.wrl ns l ++ [41]) W') := by
        show ∀ W', _ → _
        intro W' h
        rw [HWL.out, ← hlz]; exact h
      have HTC := Lib.hid (IH.out _ (List.getElem_mem hjm))
      clear hW9 hF9 P8 F8 hl2 hlz HWL HFJ hBr
      clear hlt q1 hmin
      obtain ⟨ej, hej⟩ : ∃ ej, ej = l[j] := ⟨_, rfl⟩
      rw [← hej] at HTC HLZ HEND
      go_wp2_with fail
      go_loopw [49] (fun iv wr => L2Inv B b lz ej w iv wr) (fun iv _ => 1 - (intOf iv).toNat)
      case atStart => exact .inl ⟨rfl, HW9.out, HF9.out⟩
      case round =>
        clear HW9 HF9
        rcases hrel with ⟨rfl, hWj, hFj⟩ | ⟨rfl, hWj, hFj⟩
        · have HWJ := Lib.hid hWj
          have HFJ := Lib.hid hFj
          have HATJ := HAT.out.keeps (Keeps.of_fr HW0.out hFj)
          have hBr : B ≤ wr.heap.size := by have h1 := hFj.1.size; omega
          obtain ⟨g, o, k, t, nv, av, ego, hS, -, hatj, e0, e1, e2, e3, o1, o2⟩ := HATJ.get j hjm
          injection ego with ego
          injection ego with eg eo
          subst eg eo
          rw [← hej] at hatj
          have z0 : (#[.int .i64 k, .string t, nv, av] : Array Value).all (·.oneCell') = true := by simp [Value.oneCell'] at o1 o2 ⊢; exact ⟨o1, o2⟩
          have HATJ2 := Lib.hid hatj
          have hb9 := HWJ.out.lt
          have HEJ := Lib.hid hej
          clear hatj hS hWj hFj HATJ hej
          go_upto_region 13 with (refine wpList_store_row rfl 28 _ _ rfl wr.heap.size #[.int .i64 k, .string t, nv, av] rfl rfl 28 Z4 (alloc_at _ _) info28 rfl z0 ?_)
          try simp only [Act.put]
          have E0 : (wr.alloc (.cells #[.int .i64 0, .string ⟨#[]⟩, .slice none 0 0, .slice none 0 0] 28)).setRow wr.heap.size #[.int .i64 k, .string t, nv, av] = wr.alloc (.cells #[.int .i64 k, .string t, nv, av] 28) := setRow_new _ _ _ _
          try rw [E0]
          clear E0
          have A4 := (Below.refl wr.heap.size wr).alloc (Nat.le_refl _) (.cells #[.int .i64 k, .string t, nv, av] 28)
          have HW4 := Lib.hid (HWJ.out.alloc (.cells #[.int .i64 k, .string t, nv, av] 28))
          have HF4 := Lib.hid (HFJ.out.alloc hBr (.cells #[.int .i64 k, .string t, nv, av] 28))
          have HP4 : Hid (EB (wr.alloc (.cells #[.int .i64 k, .string t, nv, av] 28)) wr.heap.size k t nv av) := alloc_at _ _
          have HAT4 := Lib.hid (Et.At.keeps (Keeps.of_below A4) _ _ HATJ2.out)
          have hB4 : B ≤ (wr.alloc (.cells #[.int .i64 k, .string t, nv, av] 28)).heap.size := by simp; omega
          have hgpb : wr.heap.size ≠ b := by omega
          clear A4
          generalize wr.alloc (.cells #[.int .i64 k, .string t, nv, av] 28) = W4 at HW4 HF4 HP4 HAT4 hB4 ⊢
          generalize wr.heap.size = gp at HP4 hgpb ⊢
          clear e0 e1 e2 e3 hb9 HATJ2 hBr
          have P5 := Lib.hid (put_any B b lz [⟨#[32]⟩] _ _ _ (NAt.lits W4 [⟨#[32]⟩]) (HW4.out.alloc _) (by have h1 := HLZ.out; simp [cat]; omega) (by simp) (by simp; omega))
          have F5 := Lib.hid (HF4.out.alloc hB4 (.cells (tcells [⟨#[32]⟩]) 9))
          have A5 := Lib.hid ((Below.refl W4.heap.size W4).alloc (Nat.le_refl _) (.cells (tcells [⟨#[32]⟩]) 9))
          go_wp2_with fail
          refine P5.out.mono ?_
          rintro e w5 ⟨rfl, hW5, hF5⟩
          have hB5 : B ≤ w5.heap.size := Nat.le_trans (Nat.le_trans hB4 A5.out.size) hF5.1.size
          have HW5 := Lib.hid hW5
          have HF5 := Lib.hid (F5.out.trans hF5)
          have HP5 : Hid (EB w5 gp k t nv av) := hF5.keep (row_below A5.out HP4.out) (by decide) hgpb
          have HAT5 := Lib.hid (Et.At.keeps (Keeps.of_fr (HW4.out.alloc (.cells (tcells [⟨#[32]⟩]) 9)) hF5) _ _ (Et.At.keeps (Keeps.of_below A5.out) _ _ HAT4.out))
          have HTC5 := Lib.hid (HTC.out B b _ S _ w5 HAT5.out HW5.out (by have h1 := HLZ.out; simp [cat]; omega) hB5)
          clear hW5 hF5 P5 F5 A5 HW4 HF4 HP4 HAT4 hB4
          go_wp2_with (refine wpList_load_row rfl 28 _ rfl gp rfl 28 #[.int .i64 k, .string t, nv, av] (0, 0) _ HP5.out Try.underlying28 rfl info28 ?_)
          refine HTC5.out.mono ?_
          rintro e w6 ⟨rfl, hW6, hF6⟩
          have HNX : Hid (L2Inv B b lz ej w (.int .i64 1) w6) := .inr ⟨rfl, by simpa [cat] using hW6, HF5.out.trans hF6⟩
          clear hW6 hF6 HTC5
          go_wp2_with fail
          go_roundw
          case rel => exact HNX.out
          case measure => simp [intOf]
        · have HWJ := Lib.hid hWj
          have HFJ := Lib.hid hFj
          have hBr : B ≤ wr.heap.size := by have h1 := hFj.1.size; omega
          have P8 := Lib.hid (put_any B b (lz ++ 32 :: ej.wr) [⟨#[41]⟩] _ _ _ (NAt.lits wr [⟨#[41]⟩]) (HWJ.out.alloc _) (by have h1 := HLZ.out; simp [cat]; omega) (by simp) (by simp; omega))
          have F8 := Lib.hid (HFJ.out.alloc hBr (.cells (tcells [⟨#[41]⟩]) 9))
          clear hWj hFj hej
          go_wp2_with fail
          refine P8.out.mono ?_
          rintro e w9 ⟨rfl, hW9, hF9⟩
          have HW9 := Lib.hid (HEND.out w9 (by simpa [cat] using hW9))
          have HF9 := Lib.hid (F8.out.trans hF9)
          clear hW9 hF9
          go_wp2_with fail
          go_end0
          exact ⟨rfl, by simpa using HW9.out, HF9.out⟩
end Go.Proofs.Ytcalbcllmmoldaa
