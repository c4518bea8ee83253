/- The document's copied. -/
import Derived.Test.YtkekekdkfjjifaaZQ
namespace Go.Proofs.Ytkekekdkfjjifaa
open Go Go.RowKit
set_option linter.unusedVariables false
set_option linter.unusedSimpArgs false
def DsI (D : List Int) (s : Int) (w1 : World) (iv : Value) (wr : World) : Prop := ∃ i : Nat, i ≤ D.length ∧ iv = .int .i64 (i : Int) ∧ (∀ j, j < i → D[j]? ≠ some s) ∧ wr = w1
def RetCd (B : Nat) (c x y : Nat) (C1 C2 : Nat → Nat) (qs1 qs2 : List Nat) (os : List Ob) (m dp : Nat) (D : List Int) (Q : List (List Int)) (ov nv : Value) (s : Int) (w : World) (e : Ending) (w' : World) : Prop :=
  e = .returned (.int .i64 (pos os (addD D s) s : Nat)) ∧ ∃ C3 qs3 R ov' nv', Dc B w' c x y C1 C3 qs1 (qs2 ++ qs3) os m dp (addD D s) (Q ++ R) ov' nv' ∧ (∀ k, k < w.heap.size → C3 k = C2 k) ∧ Fr (fun k => C2 k = 1 ∨ C2 k = 2 ∨ k = c ∨ ov.ownBlock = some k ∨ nv.ownBlock = some k) w w' ∧ (s ∈ D ∧ R = [] ∨ s ∉ D ∧ R = [ptrsOf os s]) ∧ (∀ k, ov'.ownBlock = some k ∨ nv'.ownBlock = some k → ov.ownBlock = some k ∨ nv.ownBlock = some k ∨ w.heap.size ≤ k)
theorem len_sm (os : List Ob) : ∀ D : List Int, D.length ≤ sm (sz os) D
  | [] => Nat.le_refl _
  | d :: D => by
    have := len_sm os D
    simp only [sm, List.length_cons]
    have : 2 ≤ sz os d := by unfold sz; omega
    omega
theorem St8.start {B : Nat} {w4 w5 : World} {c x y : Nat} {C1 C2 : Nat → Nat} {qs1 qs2 : List Nat} {os : List Ob} {m dp n : Nat} {D : List Int} {Q : List (List Int)} {ov nv : Value} (h : Dc B w4 c x y C1 C2 qs1 qs2 os m dp D Q ov nv) (hf : Fr (fun k => C2 k ≠ 0) w4 w5) (hn : n = D.length) :
    St8 B w5 c ov nv #[.pointer (some ⟨x, 0, none⟩), .pointer (some ⟨y, 0, none⟩), .int .i64 (dp : Nat), ov, nv] w5 ov n (D.map (Value.int .i64)) nv n ((news os D).map (Value.int .i64)) := by
  subst hn
  exact ⟨Fr.refl _ _, (hf.block c h.clt (fun e => e h.cc.2.1)).trans h.blk, own_fr h.old hf (fun k hk e => e (h.oc k hk).2.1), own_fr h.new hf (fun k hk e => e (h.nc k hk).2.1), h.ap, fun k hk => ⟨.inl hk, (h.oc k hk).2.2⟩, fun k hk => ⟨.inl hk, (h.nc k hk).2.2⟩, Nat.lt_of_lt_of_le h.clt hf.size⟩
theorem notin_of {D : List Int} {s : Int} (h : ∀ j, j < D.length → D[j]? ≠ some s) : s ∉ D := fun hm => by
  obtain ⟨j, hj, e⟩ := List.getElem_of_mem hm
  exact h j hj (by rw [List.getElem?_eq_getElem hj, e])
theorem addD_in {D : List Int} {s : Int} (h : s ∈ D) : addD D s = D := by unfold addD; rw [if_pos h]
theorem addD_out {D : List Int} {s : Int} (h : s ∉ D) : addD D s = D ++ [s] := by unfold addD; rw [if_neg h]
set_option maxHeartbeats 16000000 in
set_option maxRecDepth 100000 in
theorem copied_d {B : Nat} {w : World} {c x y : Nat} {C1 C2 : Nat → Nat} {qs1 qs2 : List Nat} {os : List Ob} {m dp : Nat} {D : List Int} {Q : List (List Int)} {ov nv : Value} (h : Dc B w c x y C1 C2 qs1 qs2 os m dp D Q ov nv) (hdp : dp ≤ 20) (a : Int) (ha : Vd os a) :
    Calls Try.prog 39 #[.pointer (some ⟨c, 0, none⟩), .int .i64 a] w (RetCd B c x y C1 C2 qs1 qs2 os m dp D Q ov nv (shortO os dp a) w) := by
  have HD := Lib.hid h
  have HSV := Lib.hid (shortO_valid h.src.closed h.src.oks dp ha)
  have FS := Lib.hid (fun (W : World) (hb : Below w.heap.size w W) => rshort_r dp hdp (h.below hb).src h.src.closed h.src.oks a ha)
  obtain ⟨s, hs⟩ : ∃ s, s = shortO os dp a := ⟨_, rfl⟩
  rw [← hs] at HSV ⊢
  simp only [← hs] at FS
  obtain ⟨oo, oc, rfl⟩ := own_sform h.old
  obtain ⟨no, nc, rfl⟩ := own_sform h.new
  have HB : Hid (B ≤ w.heap.size) := by have := h.cc.2.2; have := h.clt; show _ ≤ _; omega
  obtain ⟨n, hn⟩ : ∃ n, n = D.length := ⟨_, rfl⟩
  rw [← hn] at HD ⊢
  have hn9 : n ≤ 1000000 := by
    have h1 := sm_total h.src.oks h.nd h.vd
    have h2 : n ≤ sm (sz os) D := by rw [hn]; exact len_sm os D
    have := h.src.room
    have := h.src.most
    omega
  have HN := Lib.hid hn
  clear h ha hs hn
  go_enter Try.func39, Try.ntmps39
  go_wp2_with fail
  have hX := Lib.hid (HD.out.below (Below.refl w.heap.size w).drew)
  have HXB : Hid (Below w.heap.size w w.drew) := (Below.refl w.heap.size w).drew
  refine wp_region_noPanic ?_
  refine wp_region_held_drew (S := fun W => W.cell? ⟨c, 0, none⟩ = some (.pointer (some ⟨x, 0, none⟩)) ∧ W.cell? ⟨c, 2, none⟩ = some (.int .i64 (dp : Nat))) (by kernel_rfl) ⟨hX.out.cells.1, hX.out.cells.2.2.1⟩ (fun hHeld => ?_)
  generalize w.drew = X at hX HXB hHeld ⊢
  refine wpAnyH_take (i := 0) (v := ?v141) rfl (by kernel_rfl) (by kernel_rfl) (by kernel_rfl) (fun _ _ _ h => h) (Or.inl ⟨rfl, fun w' hw' => ?h141⟩) hHeld ?r141
  case h141 =>
    go_simp
    try with_reducible rfl
  simp only [List.getElem_toArray, List.getElem_cons_succ, List.getElem_cons_zero, Act.put, List.setIfInBounds_toArray, List.set_cons_zero, List.set_cons_succ]
  refine wpAnyH_take (i := 1) (v := ?v142) rfl (by kernel_rfl) (by kernel_rfl) (by kernel_rfl) (fun _ _ _ h => h) (Or.inl ⟨rfl, fun w' hw' => ?h142⟩) hHeld ?r142
  case h142 =>
    go_simp
    try with_reducible rfl
  simp only [List.getElem_toArray, List.getElem_cons_succ, List.getElem_cons_zero, Act.put, List.setIfInBounds_toArray, List.set_cons_zero, List.set_cons_succ]
  refine wpAnyH_take (i := 2) (v := ?v143) rfl (by kernel_rfl) (by kernel_rfl) (by kernel_rfl) (fun _ _ _ h => h) (Or.inl ⟨rfl, fun w' hw' => ?h143⟩) hHeld ?r143
  case h143 =>
    go_simp
    try with_reducible rfl
  simp only [List.getElem_toArray, List.getElem_cons_succ, List.getElem_cons_zero, Act.put, List.setIfInBounds_toArray, List.set_cons_zero, List.set_cons_succ]
  refine wpAnyH_take (i := 3) (v := ?v144) rfl (by kernel_rfl) (by kernel_rfl) (by kernel_rfl) (fun _ _ _ h => h) (Or.inl ⟨rfl, fun w' hw' => ?h144⟩) hHeld ?r144
  case h144 =>
    (obtain ⟨d0, _⟩ := hw'; go_simp)
    try with_reducible rfl
  simp only [List.getElem_toArray, List.getElem_cons_succ, List.getElem_cons_zero, Act.put, List.setIfInBounds_toArray, List.set_cons_zero, List.set_cons_succ]
  refine wpAnyH_take (i := 4) (v := ?v145) rfl (by kernel_rfl) (by kernel_rfl) (by kernel_rfl) (fun _ _ _ h => h) (Or.inl ⟨rfl, fun w' hw' => ?h145⟩) hHeld ?r145
  case h145 =>
    go_simp
    try with_reducible rfl
  simp only [List.getElem_toArray, List.getElem_cons_succ, List.getElem_cons_zero, Act.put, List.setIfInBounds_toArray, List.set_cons_zero, List.set_cons_succ]
  refine wpAnyH_take (i := 5) (v := ?v146) rfl (by kernel_rfl) (by kernel_rfl) (by kernel_rfl) (fun _ _ _ h => h) (Or.inl ⟨rfl, fun w' hw' => ?h146⟩) hHeld ?r146
  case h146 =>
    go_simp
    try with_reducible rfl
  simp only [List.getElem_toArray, List.getElem_cons_succ, List.getElem_cons_zero, Act.put, List.setIfInBounds_toArray, List.set_cons_zero, List.set_cons_succ]
  refine wpAnyH_take (i := 6) (v := ?v147) rfl (by kernel_rfl) (by kernel_rfl) (by kernel_rfl) (fun _ _ _ h => h) (Or.inl ⟨rfl, fun w' hw' => ?h147⟩) hHeld ?r147
  case h147 =>
    go_simp
    try with_reducible rfl
  simp only [List.getElem_toArray, List.getElem_cons_succ, List.getElem_cons_zero, Act.put, List.setIfInBounds_toArray, List.set_cons_zero, List.set_cons_succ]
  refine wpAnyH_take (i := 7) (v := ?v148) rfl (by kernel_rfl) (by kernel_rfl) (by kernel_rfl) (fun _ _ _ h => h) (Or.inl ⟨rfl, fun w' hw' => ?h148⟩) hHeld ?r148
  case h148 =>
    go_simp
    try with_reducible rfl
  simp only [List.getElem_toArray, List.getElem_cons_succ, List.getElem_cons_zero, Act.put, List.setIfInBounds_toArray, List.set_cons_zero, List.set_cons_succ]
  refine wpAnyH_take (i := 8) (v := ?v149) rfl (by kernel_rfl) (by kernel_rfl) (by kernel_rfl) (fun _ _ _ h => h) (Or.inl ⟨rfl, fun w' hw' => ?h149⟩) hHeld ?r149
  case h149 =>
    (obtain ⟨_, d0⟩ := hw'; go_simp)
    try with_reducible rfl
  simp only [List.getElem_toArray, List.getElem_cons_succ, List.getElem_cons_zero, Act.put, List.setIfInBounds_toArray, List.set_cons_zero, List.set_cons_succ]
  refine wpAnyH_ready (rs := [9]) (by kernel_rfl) (by simp) ?_
  refine (AllReadyH.cons rfl (fun K hK => ?_) AllReadyH.nil)
  go_simp
  refine (FS.out X HXB.out).mono ?_
  rintro e9 w1 ⟨rfl, hb1⟩
  have H1 := Lib.hid (hX.out.below hb1)
  have HB1 : Hid (Below w.heap.size w w1) := HXB.out.trans (hb1.mono HXB.out.size)
  clear hX HXB hb1 FS
  refine hK.out _ _ ⟨H1.out.cells.1, H1.out.cells.2.2.1⟩ (fun hHeld => ?_)
  clear hK K
  try simp only [List.getElem_toArray, List.getElem_cons_succ, List.getElem_cons_zero, Act.put, List.setIfInBounds_toArray, List.set_cons_zero, List.set_cons_succ]
  refine wpAnyH_take (i := 10) (v := ?v150) rfl (by kernel_rfl) (by kernel_rfl) (by kernel_rfl) (fun _ _ _ h => h) (Or.inl ⟨rfl, fun w' hw' => ?h150⟩) hHeld ?r150
  case h150 =>
    go_simp
    try with_reducible rfl
  simp only [List.getElem_toArray, List.getElem_cons_succ, List.getElem_cons_zero, Act.put, List.setIfInBounds_toArray, List.set_cons_zero, List.set_cons_succ]
  refine wpAnyH_done (by kernel_rfl) ?_ _
  refine NoPanic.normal ?_
  clear hHeld
  have H0 : Hid (DsI D s w1 (.int .i64 0) w1) := ⟨0, Nat.zero_le _, rfl, fun j hj => by omega, rfl⟩
  obtain ⟨-, -, -, c3, c4, -⟩ := H1.out.cells
  go_wp2_with fail
  go_loopw [5] (fun iv wr => DsI D s w1 iv wr) (fun iv _ => n - (intOf iv).toNat)
  case atStart => exact H0.out
  case round =>
    clear H0
    obtain ⟨i, hi, rfl, hno, rfl⟩ := hrel
    have HNO := Lib.hid hno
    clear hno
    rw [← HN.out] at hi
    by_cases hin : i < n
    · have q1 : decide ((i : Int) < (n : Int)) = true := decide_eq_true (by omega)
      have hiD : i < D.length := by rw [← HN.out]; exact hin
      obtain ⟨go, co, e7, -, -, -, hco⟩ := own_at H1.out.old (by omega)
      injection e7 with e7 e8 e9
      subst e7
      clear e8 e9
      have ct := hco i hiD
      obtain ⟨t, ht⟩ : ∃ t, t = D[i] := ⟨_, rfl⟩
      rw [← ht] at ct
      have HT : Hid (D[i]? = some t) := by show _ = _; rw [List.getElem?_eq_getElem hiD, ht]
      clear hco
      by_cases hts : t = s
      · have q2 : (t == s) = true := by simpa using hts
        obtain ⟨gn, cn, e7, -, -, -, hcn⟩ := own_at H1.out.new (by omega)
        injection e7 with e7 e8 e9
        subst e7
        clear e8 e9
        have cn := hcn i (by rw [news_len]; exact hiD)
        rw [news_get (by rw [news_len]; exact hiD) hiD, ← ht, hts] at cn
        have hsD : s ∈ D := by rw [← hts, ht]; exact List.getElem_mem _
        have HRET : Hid (RetCd B c x y C1 C2 qs1 qs2 os m dp D Q (.slice (some ⟨go, 0, none⟩) n oc) (.slice (some ⟨gn, 0, none⟩) n nc) s w (.returned (.int .i64 (pos os D s : Nat))) wr) := by
          refine ⟨by rw [addD_in hsD], C2, [], [], .slice (some ⟨go, 0, none⟩) n oc, .slice (some ⟨gn, 0, none⟩) n nc, ?_, fun k hk => rfl, Fr.of_below HB1.out, .inl ⟨hsD, rfl⟩, fun k hk => by rcases hk with e | e; exact .inl e; exact .inr (.inl e)⟩
          rw [addD_in hsD, List.append_nil, List.append_nil]; exact H1.out
        clear hcn ht
        go_wp2_with fail
        go_ret
        exact HRET.out
      · have q2 : (t == s) = false := by simpa using hts
        have HREL : Hid (DsI D s wr (.int .i64 ((i : Int) + 1)) wr) := ⟨i + 1, hiD, by go_num, fun z hz => by
          by_cases e : z < i
          · exact HNO.out z e
          · obtain rfl : z = i := by omega
            rw [HT.out]; intro e2; injection e2 with e2; exact hts e2, rfl⟩
        clear ht
        go_wp2_with fail
        go_roundw
        case rel => exact HREL.out
        case measure => simp [intOf]; omega
    · obtain rfl : i = n := by omega
      have q1 : decide ((i : Int) < (i : Int)) = false := decide_eq_false (by omega)
      have HNI : Hid (s ∉ D) := notin_of (by rw [← HN.out]; exact HNO.out)
      clear HNO
      obtain ⟨so, hso⟩ := HSV.out
      have hok := H1.out.src.oks so (ob_mem hso)
      obtain ⟨tg, htg⟩ : ∃ tg, tg = (hdo os s).t := ⟨_, rfl⟩
      obtain ⟨ps, hps⟩ : ∃ ps, ps = ptrsOf os s := ⟨_, rfl⟩
      obtain ⟨ns, hns⟩ : ∃ ns, ns = numsOf os s := ⟨_, rfl⟩
      have hP : 1 ≤ tg ∧ tg ≤ 7 ∧ ps.length ≤ 60 ∧ ns.length ≤ 60 ∧ Shp tg ps ns := by
        rw [htg, hps, hns, hdo_tag hso, ptrsOf_ob hso, numsOf_ob hso]
        exact ⟨hok.t1, hok.t2, Nat.le_trans (by unfold Ob.ptrs; rw [List.length_take]; omega) hok.p, Nat.le_trans (by unfold Ob.nums; rw [List.length_take]; omega) hok.n, hok.shp⟩
      have HP := Lib.hid hP
      have HRM := Lib.hid (H1.out.room HSV.out HNI.out)
      rw [← htg, ← hps, ← hns] at HRM
      have HTG := Lib.hid htg
      have HPS := Lib.hid hps
      have HNS := Lib.hid hns
      clear hso hok hP htg hps hns
      go_wp2_with fail
      have hX := Lib.hid (H1.out.below (Below.refl wr.heap.size wr).drew)
      have HXB : Hid (Below wr.heap.size wr wr.drew) := (Below.refl wr.heap.size wr).drew
      refine wp_region_noPanic ?_
      refine wp_region_held_drew (S := fun W => W.cell? ⟨c, 0, none⟩ = some (.pointer (some ⟨x, 0, none⟩)) ∧ W.cell? ⟨c, 1, none⟩ = some (.pointer (some ⟨y, 0, none⟩))) (by kernel_rfl) ⟨hX.out.cells.1, hX.out.cells.2.1⟩ (fun hHeld => ?_)
      generalize wr.drew = X at hX HXB hHeld ⊢
      refine wpAnyH_take (i := 0) (v := ?v0) rfl (by kernel_rfl) (by kernel_rfl) (by kernel_rfl) (fun _ _ _ h => h) (Or.inl ⟨rfl, fun w' hw' => ?h0⟩) hHeld ?r0
      case h0 =>
        go_simp
        try with_reducible rfl
      simp only [List.getElem_toArray, List.getElem_cons_succ, List.getElem_cons_zero, Act.put, List.setIfInBounds_toArray, List.set_cons_zero, List.set_cons_succ]
      refine wpAnyH_take (i := 1) (v := ?v1) rfl (by kernel_rfl) (by kernel_rfl) (by kernel_rfl) (fun _ _ _ h => h) (Or.inl ⟨rfl, fun w' hw' => ?h1⟩) hHeld ?r1
      case h1 =>
        go_simp
        try with_reducible rfl
      simp only [List.getElem_toArray, List.getElem_cons_succ, List.getElem_cons_zero, Act.put, List.setIfInBounds_toArray, List.set_cons_zero, List.set_cons_succ]
      refine wpAnyH_take (i := 2) (v := ?v2) rfl (by kernel_rfl) (by kernel_rfl) (by kernel_rfl) (fun _ _ _ h => h) (Or.inl ⟨rfl, fun w' hw' => ?h2⟩) hHeld ?r2
      case h2 =>
        go_simp
        try with_reducible rfl
      simp only [List.getElem_toArray, List.getElem_cons_succ, List.getElem_cons_zero, Act.put, List.setIfInBounds_toArray, List.set_cons_zero, List.set_cons_succ]
      refine wpAnyH_take (i := 3) (v := ?v3) rfl (by kernel_rfl) (by kernel_rfl) (by kernel_rfl) (fun _ _ _ h => h) (Or.inl ⟨rfl, fun w' hw' => ?h3⟩) hHeld ?r3
      case h3 =>
        (obtain ⟨_, d0⟩ := hw'; go_simp)
        try with_reducible rfl
      simp only [List.getElem_toArray, List.getElem_cons_succ, List.getElem_cons_zero, Act.put, List.setIfInBounds_toArray, List.set_cons_zero, List.set_cons_succ]
      refine wpAnyH_take (i := 4) (v := ?v4) rfl (by kernel_rfl) (by kernel_rfl) (by kernel_rfl) (fun _ _ _ h => h) (Or.inl ⟨rfl, fun w' hw' => ?h4⟩) hHeld ?r4
      case h4 =>
        go_simp
        try with_reducible rfl
      simp only [List.getElem_toArray, List.getElem_cons_succ, List.getElem_cons_zero, Act.put, List.setIfInBounds_toArray, List.set_cons_zero, List.set_cons_succ]
      refine wpAnyH_take (i := 5) (v := ?v5) rfl (by kernel_rfl) (by kernel_rfl) (by kernel_rfl) (fun _ _ _ h => h) (Or.inl ⟨rfl, fun w' hw' => ?h5⟩) hHeld ?r5
      case h5 =>
        go_simp
        try with_reducible rfl
      simp only [List.getElem_toArray, List.getElem_cons_succ, List.getElem_cons_zero, Act.put, List.setIfInBounds_toArray, List.set_cons_zero, List.set_cons_succ]
      refine wpAnyH_take (i := 6) (v := ?v6) rfl (by kernel_rfl) (by kernel_rfl) (by kernel_rfl) (fun _ _ _ h => h) (Or.inl ⟨rfl, fun w' hw' => ?h6⟩) hHeld ?r6
      case h6 =>
        go_simp
        try with_reducible rfl
      simp only [List.getElem_toArray, List.getElem_cons_succ, List.getElem_cons_zero, Act.put, List.setIfInBounds_toArray, List.set_cons_zero, List.set_cons_succ]
      refine wpAnyH_take (i := 7) (v := ?v7) rfl (by kernel_rfl) (by kernel_rfl) (by kernel_rfl) (fun _ _ _ h => h) (Or.inl ⟨rfl, fun w' hw' => ?h7⟩) hHeld ?r7
      case h7 =>
        (obtain ⟨d0, _⟩ := hw'; go_simp)
        try with_reducible rfl
      simp only [List.getElem_toArray, List.getElem_cons_succ, List.getElem_cons_zero, Act.put, List.setIfInBounds_toArray, List.set_cons_zero, List.set_cons_succ]
      refine wpAnyH_take (i := 8) (v := ?v8) rfl (by kernel_rfl) (by kernel_rfl) (by kernel_rfl) (fun _ _ _ h => h) (Or.inl ⟨rfl, fun w' hw' => ?h8⟩) hHeld ?r8
      case h8 =>
        go_simp
        try with_reducible rfl
      simp only [List.getElem_toArray, List.getElem_cons_succ, List.getElem_cons_zero, Act.put, List.setIfInBounds_toArray, List.set_cons_zero, List.set_cons_succ]
      refine wpAnyH_take (i := 10) (v := ?v9) rfl (by kernel_rfl) (by kernel_rfl) (by kernel_rfl) (fun _ _ _ h => h) (Or.inl ⟨rfl, fun w' hw' => ?h9⟩) hHeld ?r9
      case h9 =>
        go_simp
        try with_reducible rfl
      simp only [List.getElem_toArray, List.getElem_cons_succ, List.getElem_cons_zero, Act.put, List.setIfInBounds_toArray, List.set_cons_zero, List.set_cons_succ]
      refine wpAnyH_take (i := 11) (v := ?v10) rfl (by kernel_rfl) (by kernel_rfl) (by kernel_rfl) (fun _ _ _ h => h) (Or.inl ⟨rfl, fun w' hw' => ?h10⟩) hHeld ?r10
      case h10 =>
        go_simp
        try with_reducible rfl
      simp only [List.getElem_toArray, List.getElem_cons_succ, List.getElem_cons_zero, Act.put, List.setIfInBounds_toArray, List.set_cons_zero, List.set_cons_succ]
      refine wpAnyH_take (i := 12) (v := ?v11) rfl (by kernel_rfl) (by kernel_rfl) (by kernel_rfl) (fun _ _ _ h => h) (Or.inl ⟨rfl, fun w' hw' => ?h11⟩) hHeld ?r11
      case h11 =>
        go_simp
        try with_reducible rfl
      simp only [List.getElem_toArray, List.getElem_cons_succ, List.getElem_cons_zero, Act.put, List.setIfInBounds_toArray, List.set_cons_zero, List.set_cons_succ]
      refine wpAnyH_take (i := 13) (v := ?v12) rfl (by kernel_rfl) (by kernel_rfl) (by kernel_rfl) (fun _ _ _ h => h) (Or.inl ⟨rfl, fun w' hw' => ?h12⟩) hHeld ?r12
      case h12 =>
        (obtain ⟨d0, _⟩ := hw'; go_simp)
        try with_reducible rfl
      simp only [List.getElem_toArray, List.getElem_cons_succ, List.getElem_cons_zero, Act.put, List.setIfInBounds_toArray, List.set_cons_zero, List.set_cons_succ]
      refine wpAnyH_take (i := 14) (v := ?v13) rfl (by kernel_rfl) (by kernel_rfl) (by kernel_rfl) (fun _ _ _ h => h) (Or.inl ⟨rfl, fun w' hw' => ?h13⟩) hHeld ?r13
      case h13 =>
        go_simp
        try with_reducible rfl
      simp only [List.getElem_toArray, List.getElem_cons_succ, List.getElem_cons_zero, Act.put, List.setIfInBounds_toArray, List.set_cons_zero, List.set_cons_succ]
      refine wpAnyH_take (i := 16) (v := ?v14) rfl (by kernel_rfl) (by kernel_rfl) (by kernel_rfl) (fun _ _ _ h => h) (Or.inl ⟨rfl, fun w' hw' => ?h14⟩) hHeld ?r14
      case h14 =>
        go_simp
        try with_reducible rfl
      simp only [List.getElem_toArray, List.getElem_cons_succ, List.getElem_cons_zero, Act.put, List.setIfInBounds_toArray, List.set_cons_zero, List.set_cons_succ]
      refine wpAnyH_take (i := 17) (v := ?v15) rfl (by kernel_rfl) (by kernel_rfl) (by kernel_rfl) (fun _ _ _ h => h) (Or.inl ⟨rfl, fun w' hw' => ?h15⟩) hHeld ?r15
      case h15 =>
        go_simp
        try with_reducible rfl
      simp only [List.getElem_toArray, List.getElem_cons_succ, List.getElem_cons_zero, Act.put, List.setIfInBounds_toArray, List.set_cons_zero, List.set_cons_succ]
      refine wpAnyH_take (i := 18) (v := ?v16) rfl (by kernel_rfl) (by kernel_rfl) (by kernel_rfl) (fun _ _ _ h => h) (Or.inl ⟨rfl, fun w' hw' => ?h16⟩) hHeld ?r16
      case h16 =>
        go_simp
        try with_reducible rfl
      simp only [List.getElem_toArray, List.getElem_cons_succ, List.getElem_cons_zero, Act.put, List.setIfInBounds_toArray, List.set_cons_zero, List.set_cons_succ]
      refine wpAnyH_take (i := 19) (v := ?v17) rfl (by kernel_rfl) (by kernel_rfl) (by kernel_rfl) (fun _ _ _ h => h) (Or.inl ⟨rfl, fun w' hw' => ?h17⟩) hHeld ?r17
      case h17 =>
        (obtain ⟨d0, _⟩ := hw'; go_simp)
        try with_reducible rfl
      simp only [List.getElem_toArray, List.getElem_cons_succ, List.getElem_cons_zero, Act.put, List.setIfInBounds_toArray, List.set_cons_zero, List.set_cons_succ]
      refine wpAnyH_take (i := 20) (v := ?v18) rfl (by kernel_rfl) (by kernel_rfl) (by kernel_rfl) (fun _ _ _ h => h) (Or.inl ⟨rfl, fun w' hw' => ?h18⟩) hHeld ?r18
      case h18 =>
        go_simp
        try with_reducible rfl
      simp only [List.getElem_toArray, List.getElem_cons_succ, List.getElem_cons_zero, Act.put, List.setIfInBounds_toArray, List.set_cons_zero, List.set_cons_succ]
      refine wpAnyH_ready (rs := [9]) (by kernel_rfl) (by simp) ?_
      refine (AllReadyH.cons rfl (fun K hK => ?_) AllReadyH.nil)
      go_simp
      refine (rtag_r hX.out.src s).mono ?_
      rintro e9 w2 ⟨rfl, hb2⟩
      rw [← HTG.out]
      have H2 := Lib.hid (hX.out.below hb2)
      have HB2 : Hid (Below wr.heap.size wr w2) := HXB.out.trans (hb2.mono HXB.out.size)
      clear hX HXB hb2
      refine hK.out _ _ ⟨H2.out.cells.1, H2.out.cells.2.1⟩ (fun hHeld => ?_)
      clear hK K
      try simp only [List.getElem_toArray, List.getElem_cons_succ, List.getElem_cons_zero, Act.put, List.setIfInBounds_toArray, List.set_cons_zero, List.set_cons_succ]
      refine wpAnyH_ready (rs := [15]) (by kernel_rfl) (by simp) ?_
      refine (AllReadyH.cons rfl (fun K hK => ?_) AllReadyH.nil)
      go_simp
      refine (rptrs_r H2.out.src s).mono ?_
      rintro e9 w3 hr
      obtain ⟨po, pc, rfl, hown, hb3⟩ := hr.form
      rw [← HPS.out] at hown ⊢
      have HI3 := Lib.hid (own_isS hown)
      have H3 := Lib.hid (H2.out.below hb3)
      have HB3 : Hid (Below wr.heap.size wr w3) := HB2.out.trans (hb3.mono HB2.out.size)
      clear hr hown H2 HB2 hb3
      refine hK.out _ _ ⟨H3.out.cells.1, H3.out.cells.2.1⟩ (fun hHeld => ?_)
      clear hK K
      try simp only [List.getElem_toArray, List.getElem_cons_succ, List.getElem_cons_zero, Act.put, List.setIfInBounds_toArray, List.set_cons_zero, List.set_cons_succ]
      refine wpAnyH_ready (rs := [21]) (by kernel_rfl) (by simp) ?_
      refine (AllReadyH.cons rfl (fun K hK => ?_) AllReadyH.nil)
      go_simp
      refine (rnums_r H3.out.src s).mono ?_
      rintro e9 w4 hr
      obtain ⟨uo, uc, rfl, hown, hb4⟩ := hr.form
      rw [← HNS.out] at hown ⊢
      have HJ4 := Lib.hid (own_isS hown)
      have HI4 := Lib.hid (HI3.out.below hb4)
      have H4 := Lib.hid (H3.out.below hb4)
      have HB4 : Hid (Below wr.heap.size wr w4) := HB3.out.trans (hb4.mono HB3.out.size)
      clear hr hown H3 HB3 HI3 hb4
      refine hK.out _ _ ⟨H4.out.cells.1, H4.out.cells.2.1⟩ (fun hHeld => ?_)
      clear hK K
      try simp only [List.getElem_toArray, List.getElem_cons_succ, List.getElem_cons_zero, Act.put, List.setIfInBounds_toArray, List.set_cons_zero, List.set_cons_succ]
      refine wpAnyH_ready (rs := [22]) (by kernel_rfl) (by simp) ?_
      refine (AllReadyH.cons rfl (fun K hK => ?_) AllReadyH.nil)
      go_simp
      refine (rputw_r H4.out.dst tg ps ns _ _ HI4.out HJ4.out HP.out.1 HP.out.2.1 HP.out.2.2.1 HP.out.2.2.2.1 HP.out.2.2.2.2 HRM.out).mono ?_
      rintro e9 w5 ⟨rfl, C3, q, hp5, hf5s, hnew5, hold5⟩
      have hf5 : Fr (fun k => C2 k ≠ 0) w4 w5 := (Fr.refl _ _).trans hf5s (fun k hk e => by rcases e with e | e <;> omega)
      rw [cps_total H4.out.lk]
      have hb5 : w5.heap[c]? = _ := (hf5.block c H4.out.clt (fun e => e H4.out.cc.2.1)).trans H4.out.blk
      have k0 : w5.cell? ⟨c, 0, none⟩ = some (.pointer (some ⟨x, 0, none⟩)) := by rw [cell_of_row _ _ _ _ _ _ hb5]; rfl
      have k1 : w5.cell? ⟨c, 1, none⟩ = some (.pointer (some ⟨y, 0, none⟩)) := by rw [cell_of_row _ _ _ _ _ _ hb5]; rfl
      have HST := Lib.hid (St8.start H4.out hf5 HN.out)
      rw [HTG.out, HPS.out, HNS.out] at hp5
      have HFIN := Lib.hid (fun w9 ov' nv' a1 a2 a3 a4 a5 a6 a7 => H4.out.put (w9 := w9) (ov' := ov') (nv' := nv') HSV.out HNI.out hp5 hf5 hnew5 (Nat.le_trans HB.out (Nat.le_trans HB1.out.size HB4.out.size)) a1 a2 a3 a4 a5 a6 a7)
      have HBW : Hid (B ≤ w5.heap.size) := Nat.le_trans (Nat.le_trans HB.out (Nat.le_trans HB1.out.size HB4.out.size)) hf5.size
      have HF5 : Hid (Fr (fun k => C2 k = 1 ∨ C2 k = 2 ∨ k = c ∨ (Value.slice oo i oc).ownBlock = some k ∨ (Value.slice no i nc).ownBlock = some k) w w5) := (Fr.of_below (HB1.out.trans (HB4.out.mono HB1.out.size))).trans hf5s (fun k hk e => by rcases e with e | e; exact .inl e; exact .inr (.inl e))
      have HOLD : Hid (∀ k, k < w.heap.size → C3 k = C2 k) := fun k hk => hold5 k (Nat.lt_of_lt_of_le hk (Nat.le_trans HB1.out.size HB4.out.size))
      have HLT : Hid (∀ k, (Value.slice oo i oc).ownBlock = some k ∨ (Value.slice no i nc).ownBlock = some k → k < w5.heap.size) := fun k hk => by rcases hk with e | e; exact (HST.out.o.lt k e).2; exact (HST.out.n.lt k e).2
      have HSZ : Hid (w.heap.size ≤ w5.heap.size) := HF5.out.size
      clear hp5 hf5 hf5s hnew5 hold5 hb5 H4 HB4 HI4 HJ4 HRM HP
      refine hK.out _ _ ⟨k0, k1⟩ (fun hHeld => ?_)
      clear k0 k1
      clear hK K
      try simp only [List.getElem_toArray, List.getElem_cons_succ, List.getElem_cons_zero, Act.put, List.setIfInBounds_toArray, List.set_cons_zero, List.set_cons_succ]
      refine wpAnyH_take (i := 23) (v := ?v19) rfl (by kernel_rfl) (by kernel_rfl) (by kernel_rfl) (fun _ _ _ h => h) (Or.inl ⟨rfl, fun w' hw' => ?h19⟩) hHeld ?r19
      case h19 =>
        go_simp
        try with_reducible rfl
      simp only [List.getElem_toArray, List.getElem_cons_succ, List.getElem_cons_zero, Act.put, List.setIfInBounds_toArray, List.set_cons_zero, List.set_cons_succ]
      refine wpAnyH_done (by kernel_rfl) ?_ _
      refine NoPanic.normal ?_
      clear hHeld
      obtain ⟨N, hN⟩ : ∃ N, N = sm (sz os) D := ⟨_, rfl⟩
      rw [← hN]
      have HNN := Lib.hid hN
      clear hN
      go_wp2_with fail
      have HST := Lib.hid (HST.out.below (Below.refl w5.heap.size w5).drew)
      refine wp_region_noPanic ?_
      refine wp_region_late (S := fun W => W.cell? ⟨c, 3, none⟩ = some (.slice oo i oc) ∧ W.cell? ⟨c, 4, none⟩ = some (.slice no i nc)) (fun i => i == 18) (by kernel_rfl) ⟨by rw [cell_of_row _ _ _ _ _ _ HST.out.bk]; rfl, by rw [cell_of_row _ _ _ _ _ _ HST.out.bk]; rfl⟩ (fun hHeld => ?_)
      generalize w5.drew = X at HST hHeld ⊢
      refine wpAnyL_take (B := [16, 17, 18, 19, 20, 21]) (i := 0) (v := ?v21) rfl (by kernel_rfl) (by kernel_rfl) (by kernel_rfl) (by kernel_rfl) (fun _ _ _ h => h) (Or.inl ⟨rfl, fun w' hw' => ?h21⟩) hHeld ?r21
      case h21 =>
        go_simp
        try with_reducible rfl
      simp only [List.getElem_toArray, List.getElem_cons_succ, List.getElem_cons_zero, Act.put, List.setIfInBounds_toArray, List.set_cons_zero, List.set_cons_succ]
      refine wpAnyL_take (B := [3, 4, 5, 8, 15, 16, 17, 18, 19, 20, 21]) (i := 2) (v := ?v23) rfl (by kernel_rfl) (by kernel_rfl) (by kernel_rfl) (by kernel_rfl) (fun _ _ _ h => h) (Or.inl ⟨rfl, fun w' hw' => ?h23⟩) hHeld ?r23
      case h23 =>
        go_simp
        try with_reducible rfl
      simp only [List.getElem_toArray, List.getElem_cons_succ, List.getElem_cons_zero, Act.put, List.setIfInBounds_toArray, List.set_cons_zero, List.set_cons_succ]
      refine wpAnyL_take (B := [4, 5, 8, 15, 16, 17, 18, 19, 20, 21]) (i := 3) (v := ?v25) rfl (by kernel_rfl) (by kernel_rfl) (by kernel_rfl) (by kernel_rfl) (fun _ _ _ h => h) (Or.inl ⟨rfl, fun w' hw' => ?h25⟩) hHeld ?r25
      case h25 =>
        go_simp
        try with_reducible rfl
      simp only [List.getElem_toArray, List.getElem_cons_succ, List.getElem_cons_zero, Act.put, List.setIfInBounds_toArray, List.set_cons_zero, List.set_cons_succ]
      refine wpAnyL_take (B := [5, 8, 15, 16, 17, 18, 19, 20, 21]) (i := 4) (v := ?v27) rfl (by kernel_rfl) (by kernel_rfl) (by kernel_rfl) (by kernel_rfl) (fun _ _ _ h => h) (Or.inl ⟨rfl, fun w' hw' => ?h27⟩) hHeld ?r27
      case h27 =>
        go_simp
        try with_reducible rfl
      simp only [List.getElem_toArray, List.getElem_cons_succ, List.getElem_cons_zero, Act.put, List.setIfInBounds_toArray, List.set_cons_zero, List.set_cons_succ]
      refine wpAnyL_take (B := [8, 15, 16, 17, 18, 19, 20, 21]) (i := 5) (v := ?v29) rfl (by kernel_rfl) (by kernel_rfl) (by kernel_rfl) (by kernel_rfl) (fun _ _ _ h => h) (Or.inl ⟨rfl, fun w' hw' => ?h29⟩) hHeld ?r29
      case h29 =>
        (obtain ⟨d0, _⟩ := hw'; go_simp)
        try with_reducible rfl
      simp only [List.getElem_toArray, List.getElem_cons_succ, List.getElem_cons_zero, Act.put, List.setIfInBounds_toArray, List.set_cons_zero, List.set_cons_succ]
      refine wpAnyL_take (B := [7, 8, 15, 16, 17, 18, 19, 20, 21]) (i := 6) (v := ?v31) rfl (by kernel_rfl) (by kernel_rfl) (by kernel_rfl) (by kernel_rfl) (fun _ _ _ h => h) (Or.inl ⟨rfl, fun w' hw' => ?h31⟩) hHeld ?r31
      case h31 =>
        go_simp
        try with_reducible rfl
      simp only [List.getElem_toArray, List.getElem_cons_succ, List.getElem_cons_zero, Act.put, List.setIfInBounds_toArray, List.set_cons_zero, List.set_cons_succ]
      refine wpAnyL_take (B := [10, 11, 12, 15, 16, 17, 18, 19, 20, 21]) (i := 9) (v := ?v33) rfl (by kernel_rfl) (by kernel_rfl) (by kernel_rfl) (by kernel_rfl) (fun _ _ _ h => h) (Or.inl ⟨rfl, fun w' hw' => ?h33⟩) hHeld ?r33
      case h33 =>
        go_simp
        try with_reducible rfl
      simp only [List.getElem_toArray, List.getElem_cons_succ, List.getElem_cons_zero, Act.put, List.setIfInBounds_toArray, List.set_cons_zero, List.set_cons_succ]
      refine wpAnyL_take (B := [11, 12, 15, 16, 17, 18, 19, 20, 21]) (i := 10) (v := ?v35) rfl (by kernel_rfl) (by kernel_rfl) (by kernel_rfl) (by kernel_rfl) (fun _ _ _ h => h) (Or.inl ⟨rfl, fun w' hw' => ?h35⟩) hHeld ?r35
      case h35 =>
        go_simp
        try with_reducible rfl
      simp only [List.getElem_toArray, List.getElem_cons_succ, List.getElem_cons_zero, Act.put, List.setIfInBounds_toArray, List.set_cons_zero, List.set_cons_succ]
      refine wpAnyL_take (B := [12, 15, 16, 17, 18, 19, 20, 21]) (i := 11) (v := ?v37) rfl (by kernel_rfl) (by kernel_rfl) (by kernel_rfl) (by kernel_rfl) (fun _ _ _ h => h) (Or.inl ⟨rfl, fun w' hw' => ?h37⟩) hHeld ?r37
      case h37 =>
        go_simp
        try with_reducible rfl
      simp only [List.getElem_toArray, List.getElem_cons_succ, List.getElem_cons_zero, Act.put, List.setIfInBounds_toArray, List.set_cons_zero, List.set_cons_succ]
      refine wpAnyL_take (B := [15, 16, 17, 18, 19, 20, 21]) (i := 12) (v := ?v39) rfl (by kernel_rfl) (by kernel_rfl) (by kernel_rfl) (by kernel_rfl) (fun _ _ _ h => h) (Or.inl ⟨rfl, fun w' hw' => ?h39⟩) hHeld ?r39
      case h39 =>
        (obtain ⟨_, d0⟩ := hw'; go_simp)
        try with_reducible rfl
      simp only [List.getElem_toArray, List.getElem_cons_succ, List.getElem_cons_zero, Act.put, List.setIfInBounds_toArray, List.set_cons_zero, List.set_cons_succ]
      refine wpAnyL_take (B := [14, 15, 16, 17, 18, 19, 20, 21]) (i := 13) (v := ?v41) rfl (by kernel_rfl) (by kernel_rfl) (by kernel_rfl) (by kernel_rfl) (fun _ _ _ h => h) (Or.inl ⟨rfl, fun w' hw' => ?h41⟩) hHeld ?r41
      case h41 =>
        go_simp
        try with_reducible rfl
      simp only [List.getElem_toArray, List.getElem_cons_succ, List.getElem_cons_zero, Act.put, List.setIfInBounds_toArray, List.set_cons_zero, List.set_cons_succ]
      refine wpAnyL_ready (rs := [1, 7, 14]) (by kernel_rfl) (by simp) ?_
      refine (AllL.cons rfl rfl (fun K hK => ?_) (AllL.cons rfl rfl (fun K hK => ?_) (AllL.cons rfl rfl (fun K hK => ?_) AllL.nil)))
      · skip
        go_simp
        refine hK.out _ _ hHeld (fun hHeld => ?_)
        clear hK K
        try simp only [List.getElem_toArray, List.getElem_cons_succ, List.getElem_cons_zero, Act.put, List.setIfInBounds_toArray, List.set_cons_zero, List.set_cons_succ]
        refine wpAnyL_ready (rs := [7, 14]) (by kernel_rfl) (by simp) ?_
        refine (AllL.cons rfl rfl (fun K hK => ?_) (AllL.cons rfl rfl (fun K hK => ?_) AllL.nil))
        · skip
          go_simp
          have b9 := (Below.refl X.heap.size X).alloc (Nat.le_refl _) (.cells #[.int .i64 s] 3)
          have a9 := alloc_at X (.cells #[.int .i64 s] 3)
          have z9 : w5.heap.size ≤ X.heap.size := HST.out.fr.size
          generalize X.alloc (.cells #[.int .i64 s] 3) = Z7 at b9 a9 ⊢
          have HST := Lib.hid (HST.out.below b9)
          clear b9
          generalize X.heap.size = g7 at a9 z9 ⊢
          have A7 := Lib.hid a9
          have ZZ7 := Lib.hid z9
          clear a9 z9
          refine hK.out _ _ ⟨by rw [cell_of_row _ _ _ _ _ _ HST.out.bk]; rfl, by rw [cell_of_row _ _ _ _ _ _ HST.out.bk]; rfl⟩ (fun hHeld => ?_)
          clear hK K
          try simp only [List.getElem_toArray, List.getElem_cons_succ, List.getElem_cons_zero, Act.put, List.setIfInBounds_toArray, List.set_cons_zero, List.set_cons_succ]
          refine wpAnyL_ready (rs := [8, 14]) (by kernel_rfl) (by simp) ?_
          refine (AllL.cons rfl rfl (fun K hK => ?_) (AllL.cons rfl rfl (fun K hK => ?_) AllL.nil))
          · skip
            refine wp_appI (Operand.tmp 70) (Operand.tmp 72) rfl B (.slice oo i oc) i _ rfl HST.out.o (.slice (some ⟨g7, 0, none⟩) 1 1) rfl 1 _ (srcA_one A7.out rfl 1) (by omega) (Nat.le_trans HBW.out HST.out.fr.size) ?_
            intro v8 Z7_8 hown9 hg9 hv9
            obtain ⟨o8, k8, rfl⟩ := own_sform hown9
            have HST := Lib.hid (HST.out.appO hown9 hg9 hv9)
            clear hown9 hg9 hv9 A7
            refine hK.out _ _ ⟨by rw [cell_of_row _ _ _ _ _ _ HST.out.bk]; rfl, by rw [cell_of_row _ _ _ _ _ _ HST.out.bk]; rfl⟩ (fun hHeld => ?_)
            clear hK K
            try simp only [List.getElem_toArray, List.getElem_cons_succ, List.getElem_cons_zero, Act.put, List.setIfInBounds_toArray, List.set_cons_zero, List.set_cons_succ]
            refine wpAnyL_ready (rs := [14]) (by kernel_rfl) (by simp) ?_
            refine (AllL.cons rfl rfl (fun K hK => ?_) AllL.nil)
            go_simp
            have b9 := (Below.refl Z7_8.heap.size Z7_8).alloc (Nat.le_refl _) (.cells #[.int .i64 (N : Int)] 3)
            have a9 := alloc_at Z7_8 (.cells #[.int .i64 (N : Int)] 3)
            have z9 : w5.heap.size ≤ Z7_8.heap.size := HST.out.fr.size
            generalize Z7_8.alloc (.cells #[.int .i64 (N : Int)] 3) = Z7_8_14 at b9 a9 ⊢
            have HST := Lib.hid (HST.out.below b9)
            clear b9
            generalize Z7_8.heap.size = g14 at a9 z9 ⊢
            have A14 := Lib.hid a9
            have ZZ14 := Lib.hid z9
            clear a9 z9
            refine hK.out _ _ ⟨by rw [cell_of_row _ _ _ _ _ _ HST.out.bk]; rfl, by rw [cell_of_row _ _ _ _ _ _ HST.out.bk]; rfl⟩ (fun hHeld => ?_)
            clear hK K
            try simp only [List.getElem_toArray, List.getElem_cons_succ, List.getElem_cons_zero, Act.put, List.setIfInBounds_toArray, List.set_cons_zero, List.set_cons_succ]
            refine wpAnyL_ready (rs := [15]) (by kernel_rfl) (by simp) ?_
            refine (AllL.cons rfl rfl (fun K hK => ?_) AllL.nil)
            refine wp_appI (Operand.tmp 77) (Operand.tmp 79) rfl B (.slice no i nc) i _ rfl HST.out.n (.slice (some ⟨g14, 0, none⟩) 1 1) rfl 1 _ (srcA_one A14.out rfl 1) (by omega) (Nat.le_trans HBW.out HST.out.fr.size) ?_
            intro v15 Z7_8_14_15 hown9 hg9 hv9
            obtain ⟨o15, k15, rfl⟩ := own_sform hown9
            have HST := Lib.hid (HST.out.appN hown9 hg9 hv9)
            clear hown9 hg9 hv9 A14
            refine hK.out _ _ ⟨by rw [cell_of_row _ _ _ _ _ _ HST.out.bk]; rfl, by rw [cell_of_row _ _ _ _ _ _ HST.out.bk]; rfl⟩ (fun hHeld => ?_)
            clear hK K
            try simp only [List.getElem_toArray, List.getElem_cons_succ, List.getElem_cons_zero, Act.put, List.setIfInBounds_toArray, List.set_cons_zero, List.set_cons_succ]
            refine wpAnyL_take (B := [17, 18, 19, 20, 21]) (i := 16) (v := ?v43) rfl (by kernel_rfl) (by kernel_rfl) (by kernel_rfl) (by kernel_rfl) (fun _ _ _ h => h) (Or.inl ⟨rfl, fun w' hw' => ?h43⟩) hHeld ?r43
            case h43 =>
              go_simp
              try with_reducible rfl
            simp only [List.getElem_toArray, List.getElem_cons_succ, List.getElem_cons_zero, Act.put, List.setIfInBounds_toArray, List.set_cons_zero, List.set_cons_succ]
            refine wpAnyL_take (B := [18, 19, 20, 21]) (i := 17) (v := ?v45) rfl (by kernel_rfl) (by kernel_rfl) (by kernel_rfl) (by kernel_rfl) (fun _ _ _ h => h) (Or.inl ⟨rfl, fun w' hw' => ?h45⟩) hHeld ?r45
            case h45 =>
              go_simp
              try with_reducible rfl
            simp only [List.getElem_toArray, List.getElem_cons_succ, List.getElem_cons_zero, Act.put, List.setIfInBounds_toArray, List.set_cons_zero, List.set_cons_succ]
            refine wpAnyL_ready (rs := [18]) (by kernel_rfl) (by simp) ?_
            refine (AllL.last (S2 := fun _ => True) rfl rfl (fun K hK => ?_) AllL.nil)
            have c3 : Z7_8_14_15.cell? ⟨c, 3, none⟩ = some (.slice oo i oc) := by rw [cell_of_row _ _ _ _ _ _ HST.out.bk]; rfl
            have f3 := frozen_of_row Z7_8_14_15 c 3 _ _ HST.out.bk
            go_simp
            refine hK.out _ _ trivial (fun hHeld => ?_)
            clear c3 f3
            clear hK K
            try simp only [List.getElem_toArray, List.getElem_cons_succ, List.getElem_cons_zero, Act.put, List.setIfInBounds_toArray, List.set_cons_zero, List.set_cons_succ]
            refine wpAnyH_take (i := 19) (v := ?v46) rfl (by kernel_rfl) (by kernel_rfl) (by kernel_rfl) (fun _ _ _ h => h) (Or.inl ⟨rfl, fun w' hw' => ?h46⟩) hHeld ?r46
            case h46 =>
              go_simp
              try with_reducible rfl
            simp only [List.getElem_toArray, List.getElem_cons_succ, List.getElem_cons_zero, Act.put, List.setIfInBounds_toArray, List.set_cons_zero, List.set_cons_succ]
            refine wpAnyH_take (i := 20) (v := ?v47) rfl (by kernel_rfl) (by kernel_rfl) (by kernel_rfl) (fun _ _ _ h => h) (Or.inl ⟨rfl, fun w' hw' => ?h47⟩) hHeld ?r47
            case h47 =>
              go_simp
              try with_reducible rfl
            simp only [List.getElem_toArray, List.getElem_cons_succ, List.getElem_cons_zero, Act.put, List.setIfInBounds_toArray, List.set_cons_zero, List.set_cons_succ]
            refine wpAnyH_ready (rs := [21]) (by kernel_rfl) (by simp) ?_
            refine (AllReadyH.cons rfl (fun K hK => ?_) AllReadyH.nil)
            have s1 := heap_setCell_same Z7_8_14_15 c 3 _ 64 (.slice o8 (i + 1) k8) HST.out.bk
            have c4 : (Z7_8_14_15.setCell ⟨c, 3, none⟩ (.slice o8 (i + 1) k8)).cell? ⟨c, 4, none⟩ = some (.slice no i nc) := by rw [cell_of_row _ _ _ _ _ _ s1]; rfl
            have f4 := frozen_of_row _ c 4 _ _ s1
            go_simp
            refine hK.out _ _ trivial (fun hHeld => ?_)
            clear c4 f4 s1
            clear hK K
            try simp only [List.getElem_toArray, List.getElem_cons_succ, List.getElem_cons_zero, Act.put, List.setIfInBounds_toArray, List.set_cons_zero, List.set_cons_succ]
            refine wpAnyH_done (by kernel_rfl) ?_ _
            refine NoPanic.normal ?_
            clear hHeld
            obtain ⟨z1, z2, z3, z4⟩ := HST.out.fin
            have HDC := Lib.hid (HFIN.out _ _ _ z1 z2 (by rw [← HN.out]; exact z3) (by rw [← HN.out, ← HNN.out]; exact z4) HST.out.ap (fun k hk => (HST.out.ho k hk).1) (fun k hk => (HST.out.hn k hk).1))
            have hpos : pos os (addD D s) s = N := by rw [pos_addD, pos_none HNI.out, HNN.out]
            have HFW := Lib.hid (HF5.out.trans z1 (fun k hk e => .inr (.inr e)))
            have HRET : Hid (RetCd B c x y C1 C2 qs1 qs2 os m dp D Q (.slice oo i oc) (.slice no i nc) s w (.returned (.int .i64 (N : Nat))) ((Z7_8_14_15.setCell ⟨c, 3, none⟩ (.slice o8 (i + 1) k8)).setCell ⟨c, 4, none⟩ (.slice o15 (i + 1) k15))) := by
              refine ⟨by rw [hpos], C3, [q], [ptrsOf os s], .slice o8 (i + 1) k8, .slice o15 (i + 1) k15, ?_, HOLD.out, HFW.out, .inr ⟨HNI.out, rfl⟩, fun k hk => by
                have := HSZ.out
                rcases hk with e | e
                · rcases (HST.out.ho k e).1 with h1 | h1
                  · exact .inl h1
                  · exact .inr (.inr (by omega))
                · rcases (HST.out.hn k e).1 with h1 | h1
                  · exact .inr (.inl h1)
                  · exact .inr (.inr (by omega))⟩
              rw [addD_out HNI.out]; exact HDC.out
            clear z1 z2 z3 z4 hpos HFIN HDC HFW
            go_wp2_with fail
            go_ret
            exact HRET.out
          · skip
            go_simp
            have b9 := (Below.refl Z7.heap.size Z7).alloc (Nat.le_refl _) (.cells #[.int .i64 (N : Int)] 3)
            have a9 := alloc_at Z7 (.cells #[.int .i64 (N : Int)] 3)
            have z9 : w5.heap.size ≤ Z7.heap.size := HST.out.fr.size
            generalize Z7.alloc (.cells #[.int .i64 (N : Int)] 3) = Z7_14 at b9 a9 ⊢
            have HST := Lib.hid (HST.out.below b9)
            have A7 := Lib.hid ((b9.block g7 (Array.getElem?_eq_some_iff.1 A7.out).1).trans A7.out)
            clear b9
            generalize Z7.heap.size = g14 at a9 z9 ⊢
            have A14 := Lib.hid a9
            have ZZ14 := Lib.hid z9
            clear a9 z9
            refine hK.out _ _ ⟨by rw [cell_of_row _ _ _ _ _ _ HST.out.bk]; rfl, by rw [cell_of_row _ _ _ _ _ _ HST.out.bk]; rfl⟩ (fun hHeld => ?_)
            clear hK K
            try simp only [List.getElem_toArray, List.getElem_cons_succ, List.getElem_cons_zero, Act.put, List.setIfInBounds_toArray, List.set_cons_zero, List.set_cons_succ]
            refine wpAnyL_ready (rs := [8]) (by kernel_rfl) (by simp) ?_
            refine (AllL.cons rfl rfl (fun K hK => ?_) AllL.nil)
            refine wp_appI (Operand.tmp 70) (Operand.tmp 72) rfl B (.slice oo i oc) i _ rfl HST.out.o (.slice (some ⟨g7, 0, none⟩) 1 1) rfl 1 _ (srcA_one A7.out rfl 1) (by omega) (Nat.le_trans HBW.out HST.out.fr.size) ?_
            intro v8 Z7_8_14 hown9 hg9 hv9
            obtain ⟨o8, k8, rfl⟩ := own_sform hown9
            have A14 := Lib.hid ((hg9.block g14 (Array.getElem?_eq_some_iff.1 A14.out).1 (fun e => by have := HLT.out g14 (.inl e.symm); have := ZZ14.out; omega)).trans A14.out)
            have HST := Lib.hid (HST.out.appO hown9 hg9 hv9)
            clear hown9 hg9 hv9 A7
            refine hK.out _ _ ⟨by rw [cell_of_row _ _ _ _ _ _ HST.out.bk]; rfl, by rw [cell_of_row _ _ _ _ _ _ HST.out.bk]; rfl⟩ (fun hHeld => ?_)
            clear hK K
            try simp only [List.getElem_toArray, List.getElem_cons_succ, List.getElem_cons_zero, Act.put, List.setIfInBounds_toArray, List.set_cons_zero, List.set_cons_succ]
            refine wpAnyL_ready (rs := [15]) (by kernel_rfl) (by simp) ?_
            refine (AllL.cons rfl rfl (fun K hK => ?_) AllL.nil)
            refine wp_appI (Operand.tmp 77) (Operand.tmp 79) rfl B (.slice no i nc) i _ rfl HST.out.n (.slice (some ⟨g14, 0, none⟩) 1 1) rfl 1 _ (srcA_one A14.out rfl 1) (by omega) (Nat.le_trans HBW.out HST.out.fr.size) ?_
            intro v15 Z7_8_14_15 hown9 hg9 hv9
            obtain ⟨o15, k15, rfl⟩ := own_sform hown9
            have HST := Lib.hid (HST.out.appN hown9 hg9 hv9)
            clear hown9 hg9 hv9 A14
            refine hK.out _ _ ⟨by rw [cell_of_row _ _ _ _ _ _ HST.out.bk]; rfl, by rw [cell_of_row _ _ _ _ _ _ HST.out.bk]; rfl⟩ (fun hHeld => ?_)
            clear hK K
            try simp only [List.getElem_toArray, List.getElem_cons_succ, List.getElem_cons_zero, Act.put, List.setIfInBounds_toArray, List.set_cons_zero, List.set_cons_succ]
            refine wpAnyL_take (B := [17, 18, 19, 20, 21]) (i := 16) (v := ?v49) rfl (by kernel_rfl) (by kernel_rfl) (by kernel_rfl) (by kernel_rfl) (fun _ _ _ h => h) (Or.inl ⟨rfl, fun w' hw' => ?h49⟩) hHeld ?r49
            case h49 =>
              go_simp
              try with_reducible rfl
            simp only [List.getElem_toArray, List.getElem_cons_succ, List.getElem_cons_zero, Act.put, List.setIfInBounds_toArray, List.set_cons_zero, List.set_cons_succ]
            refine wpAnyL_take (B := [18, 19, 20, 21]) (i := 17) (v := ?v51) rfl (by kernel_rfl) (by kernel_rfl) (by kernel_rfl) (by kernel_rfl) (fun _ _ _ h => h) (Or.inl ⟨rfl, fun w' hw' => ?h51⟩) hHeld ?r51
            case h51 =>
              go_simp
              try with_reducible rfl
            simp only [List.getElem_toArray, List.getElem_cons_succ, List.getElem_cons_zero, Act.put, List.setIfInBounds_toArray, List.set_cons_zero, List.set_cons_succ]
            refine wpAnyL_ready (rs := [18]) (by kernel_rfl) (by simp) ?_
            refine (AllL.last (S2 := fun _ => True) rfl rfl (fun K hK => ?_) AllL.nil)
            have c3 : Z7_8_14_15.cell? ⟨c, 3, none⟩ = some (.slice oo i oc) := by rw [cell_of_row _ _ _ _ _ _ HST.out.bk]; rfl
            have f3 := frozen_of_row Z7_8_14_15 c 3 _ _ HST.out.bk
            go_simp
            refine hK.out _ _ trivial (fun hHeld => ?_)
            clear c3 f3
            clear hK K
            try simp only [List.getElem_toArray, List.getElem_cons_succ, List.getElem_cons_zero, Act.put, List.setIfInBounds_toArray, List.set_cons_zero, List.set_cons_succ]
            refine wpAnyH_take (i := 19) (v := ?v52) rfl (by kernel_rfl) (by kernel_rfl) (by kernel_rfl) (fun _ _ _ h => h) (Or.inl ⟨rfl, fun w' hw' => ?h52⟩) hHeld ?r52
            case h52 =>
              go_simp
              try with_reducible rfl
            simp only [List.getElem_toArray, List.getElem_cons_succ, List.getElem_cons_zero, Act.put, List.setIfInBounds_toArray, List.set_cons_zero, List.set_cons_succ]
            refine wpAnyH_take (i := 20) (v := ?v53) rfl (by kernel_rfl) (by kernel_rfl) (by kernel_rfl) (fun _ _ _ h => h) (Or.inl ⟨rfl, fun w' hw' => ?h53⟩) hHeld ?r53
            case h53 =>
              go_simp
              try with_reducible rfl
            simp only [List.getElem_toArray, List.getElem_cons_succ, List.getElem_cons_zero, Act.put, List.setIfInBounds_toArray, List.set_cons_zero, List.set_cons_succ]
            refine wpAnyH_ready (rs := [21]) (by kernel_rfl) (by simp) ?_
            refine (AllReadyH.cons rfl (fun K hK => ?_) AllReadyH.nil)
            have s1 := heap_setCell_same Z7_8_14_15 c 3 _ 64 (.slice o8 (i + 1) k8) HST.out.bk
            have c4 : (Z7_8_14_15.setCell ⟨c, 3, none⟩ (.slice o8 (i + 1) k8)).cell? ⟨c, 4, none⟩ = some (.slice no i nc) := by rw [cell_of_row _ _ _ _ _ _ s1]; rfl
            have f4 := frozen_of_row _ c 4 _ _ s1
            go_simp
            refine hK.out _ _ trivial (fun hHeld => ?_)
            clear c4 f4 s1
            clear hK K
            try simp only [List.getElem_toArray, List.getElem_cons_succ, List.getElem_cons_zero, Act.put, List.setIfInBounds_toArray, List.set_cons_zero, List.set_cons_succ]
            refine wpAnyH_done (by kernel_rfl) ?_ _
            refine NoPanic.normal ?_
            clear hHeld
            obtain ⟨z1, z2, z3, z4⟩ := HST.out.fin
            have HDC := Lib.hid (HFIN.out _ _ _ z1 z2 (by rw [← HN.out]; exact z3) (by rw [← HN.out, ← HNN.out]; exact z4) HST.out.ap (fun k hk => (HST.out.ho k hk).1) (fun k hk => (HST.out.hn k hk).1))
            have hpos : pos os (addD D s) s = N := by rw [pos_addD, pos_none HNI.out, HNN.out]
            have HFW := Lib.hid (HF5.out.trans z1 (fun k hk e => .inr (.inr e)))
            have HRET : Hid (RetCd B c x y C1 C2 qs1 qs2 os m dp D Q (.slice oo i oc) (.slice no i nc) s w (.returned (.int .i64 (N : Nat))) ((Z7_8_14_15.setCell ⟨c, 3, none⟩ (.slice o8 (i + 1) k8)).setCell ⟨c, 4, none⟩ (.slice o15 (i + 1) k15))) := by
              refine ⟨by rw [hpos], C3, [q], [ptrsOf os s], .slice o8 (i + 1) k8, .slice o15 (i + 1) k15, ?_, HOLD.out, HFW.out, .inr ⟨HNI.out, rfl⟩, fun k hk => by
                have := HSZ.out
                rcases hk with e | e
                · rcases (HST.out.ho k e).1 with h1 | h1
                  · exact .inl h1
                  · exact .inr (.inr (by omega))
                · rcases (HST.out.hn k e).1 with h1 | h1
                  · exact .inr (.inl h1)
                  · exact .inr (.inr (by omega))⟩
              rw [addD_out HNI.out]; exact HDC.out
            clear z1 z2 z3 z4 hpos HFIN HDC HFW
            go_wp2_with fail
            go_ret
            exact HRET.out
        · skip
          go_simp
          have b9 := (Below.refl X.heap.size X).alloc (Nat.le_refl _) (.cells #[.int .i64 (N : Int)] 3)
          have a9 := alloc_at X (.cells #[.int .i64 (N : Int)] 3)
          have z9 : w5.heap.size ≤ X.heap.size := HST.out.fr.size
          generalize X.alloc (.cells #[.int .i64 (N : Int)] 3) = Z14 at b9 a9 ⊢
          have HST := Lib.hid (HST.out.below b9)
          clear b9
          generalize X.heap.size = g14 at a9 z9 ⊢
          have A14 := Lib.hid a9
          have ZZ14 := Lib.hid z9
          clear a9 z9
          refine hK.out _ _ ⟨by rw [cell_of_row _ _ _ _ _ _ HST.out.bk]; rfl, by rw [cell_of_row _ _ _ _ _ _ HST.out.bk]; rfl⟩ (fun hHeld => ?_)
          clear hK K
          try simp only [List.getElem_toArray, List.getElem_cons_succ, List.getElem_cons_zero, Act.put, List.setIfInBounds_toArray, List.set_cons_zero, List.set_cons_succ]
          refine wpAnyL_ready (rs := [7]) (by kernel_rfl) (by simp) ?_
          refine (AllL.cons rfl rfl (fun K hK => ?_) AllL.nil)
          go_simp
          have b9 := (Below.refl Z14.heap.size Z14).alloc (Nat.le_refl _) (.cells #[.int .i64 s] 3)
          have a9 := alloc_at Z14 (.cells #[.int .i64 s] 3)
          have z9 : w5.heap.size ≤ Z14.heap.size := HST.out.fr.size
          generalize Z14.alloc (.cells #[.int .i64 s] 3) = Z7_14 at b9 a9 ⊢
          have HST := Lib.hid (HST.out.below b9)
          have A14 := Lib.hid ((b9.block g14 (Array.getElem?_eq_some_iff.1 A14.out).1).trans A14.out)
          clear b9
          generalize Z14.heap.size = g7 at a9 z9 ⊢
          have A7 := Lib.hid a9
          have ZZ7 := Lib.hid z9
          clear a9 z9
          refine hK.out _ _ ⟨by rw [cell_of_row _ _ _ _ _ _ HST.out.bk]; rfl, by rw [cell_of_row _ _ _ _ _ _ HST.out.bk]; rfl⟩ (fun hHeld => ?_)
          clear hK K
          try simp only [List.getElem_toArray, List.getElem_cons_succ, List.getElem_cons_zero, Act.put, List.setIfInBounds_toArray, List.set_cons_zero, List.set_cons_succ]
          refine wpAnyL_ready (rs := [8]) (by kernel_rfl) (by simp) ?_
          refine (AllL.cons rfl rfl (fun K hK => ?_) AllL.nil)
          refine wp_appI (Operand.tmp 70) (Operand.tmp 72) rfl B (.slice oo i oc) i _ rfl HST.out.o (.slice (some ⟨g7, 0, none⟩) 1 1) rfl 1 _ (srcA_one A7.out rfl 1) (by omega) (Nat.le_trans HBW.out HST.out.fr.size) ?_
          intro v8 Z7_8_14 hown9 hg9 hv9
          obtain ⟨o8, k8, rfl⟩ := own_sform hown9
          have A14 := Lib.hid ((hg9.block g14 (Array.getElem?_eq_some_iff.1 A14.out).1 (fun e => by have := HLT.out g14 (.inl e.symm); have := ZZ14.out; omega)).trans A14.out)
          have HST := Lib.hid (HST.out.appO hown9 hg9 hv9)
          clear hown9 hg9 hv9 A7
          refine hK.out _ _ ⟨by rw [cell_of_row _ _ _ _ _ _ HST.out.bk]; rfl, by rw [cell_of_row _ _ _ _ _ _ HST.out.bk]; rfl⟩ (fun hHeld => ?_)
          clear hK K
          try simp only [List.getElem_toArray, List.getElem_cons_succ, List.getElem_cons_zero, Act.put, List.setIfInBounds_toArray, List.set_cons_zero, List.set_cons_succ]
          refine wpAnyL_ready (rs := [15]) (by kernel_rfl) (by simp) ?_
          refine (AllL.cons rfl rfl (fun K hK => ?_) AllL.nil)
          refine wp_appI (Operand.tmp 77) (Operand.tmp 79) rfl B (.slice no i nc) i _ rfl HST.out.n (.slice (some ⟨g14, 0, none⟩) 1 1) rfl 1 _ (srcA_one A14.out rfl 1) (by omega) (Nat.le_trans HBW.out HST.out.fr.size) ?_
          intro v15 Z7_8_14_15 hown9 hg9 hv9
          obtain ⟨o15, k15, rfl⟩ := own_sform hown9
          have HST := Lib.hid (HST.out.appN hown9 hg9 hv9)
          clear hown9 hg9 hv9 A14
          refine hK.out _ _ ⟨by rw [cell_of_row _ _ _ _ _ _ HST.out.bk]; rfl, by rw [cell_of_row _ _ _ _ _ _ HST.out.bk]; rfl⟩ (fun hHeld => ?_)
          clear hK K
          try simp only [List.getElem_toArray, List.getElem_cons_succ, List.getElem_cons_zero, Act.put, List.setIfInBounds_toArray, List.set_cons_zero, List.set_cons_succ]
          refine wpAnyL_take (B := [17, 18, 19, 20, 21]) (i := 16) (v := ?v55) rfl (by kernel_rfl) (by kernel_rfl) (by kernel_rfl) (by kernel_rfl) (fun _ _ _ h => h) (Or.inl ⟨rfl, fun w' hw' => ?h55⟩) hHeld ?r55
          case h55 =>
            go_simp
            try with_reducible rfl
          simp only [List.getElem_toArray, List.getElem_cons_succ, List.getElem_cons_zero, Act.put, List.setIfInBounds_toArray, List.set_cons_zero, List.set_cons_succ]
          refine wpAnyL_take (B := [18, 19, 20, 21]) (i := 17) (v := ?v57) rfl (by kernel_rfl) (by kernel_rfl) (by kernel_rfl) (by kernel_rfl) (fun _ _ _ h => h) (Or.inl ⟨rfl, fun w' hw' => ?h57⟩) hHeld ?r57
          case h57 =>
            go_simp
            try with_reducible rfl
          simp only [List.getElem_toArray, List.getElem_cons_succ, List.getElem_cons_zero, Act.put, List.setIfInBounds_toArray, List.set_cons_zero, List.set_cons_succ]
          refine wpAnyL_ready (rs := [18]) (by kernel_rfl) (by simp) ?_
          refine (AllL.last (S2 := fun _ => True) rfl rfl (fun K hK => ?_) AllL.nil)
          have c3 : Z7_8_14_15.cell? ⟨c, 3, none⟩ = some (.slice oo i oc) := by rw [cell_of_row _ _ _ _ _ _ HST.out.bk]; rfl
          have f3 := frozen_of_row Z7_8_14_15 c 3 _ _ HST.out.bk
          go_simp
          refine hK.out _ _ trivial (fun hHeld => ?_)
          clear c3 f3
          clear hK K
          try simp only [List.getElem_toArray, List.getElem_cons_succ, List.getElem_cons_zero, Act.put, List.setIfInBounds_toArray, List.set_cons_zero, List.set_cons_succ]
          refine wpAnyH_take (i := 19) (v := ?v58) rfl (by kernel_rfl) (by kernel_rfl) (by kernel_rfl) (fun _ _ _ h => h) (Or.inl ⟨rfl, fun w' hw' => ?h58⟩) hHeld ?r58
          case h58 =>
            go_simp
            try with_reducible rfl
          simp only [List.getElem_toArray, List.getElem_cons_succ, List.getElem_cons_zero, Act.put, List.setIfInBounds_toArray, List.set_cons_zero, List.set_cons_succ]
          refine wpAnyH_take (i := 20) (v := ?v59) rfl (by kernel_rfl) (by kernel_rfl) (by kernel_rfl) (fun _ _ _ h => h) (Or.inl ⟨rfl, fun w' hw' => ?h59⟩) hHeld ?r59
          case h59 =>
            go_simp
            try with_reducible rfl
          simp only [List.getElem_toArray, List.getElem_cons_succ, List.getElem_cons_zero, Act.put, List.setIfInBounds_toArray, List.set_cons_zero, List.set_cons_succ]
          refine wpAnyH_ready (rs := [21]) (by kernel_rfl) (by simp) ?_
          refine (AllReadyH.cons rfl (fun K hK => ?_) AllReadyH.nil)
          have s1 := heap_setCell_same Z7_8_14_15 c 3 _ 64 (.slice o8 (i + 1) k8) HST.out.bk
          have c4 : (Z7_8_14_15.setCell ⟨c, 3, none⟩ (.slice o8 (i + 1) k8)).cell? ⟨c, 4, none⟩ = some (.slice no i nc) := by rw [cell_of_row _ _ _ _ _ _ s1]; rfl
          have f4 := frozen_of_row _ c 4 _ _ s1
          go_simp
          refine hK.out _ _ trivial (fun hHeld => ?_)
          clear c4 f4 s1
          clear hK K
          try simp only [List.getElem_toArray, List.getElem_cons_succ, List.getElem_cons_zero, Act.put, List.setIfInBounds_toArray, List.set_cons_zero, List.set_cons_succ]
          refine wpAnyH_done (by kernel_rfl) ?_ _
          refine NoPanic.normal ?_
          clear hHeld
          obtain ⟨z1, z2, z3, z4⟩ := HST.out.fin
          have HDC := Lib.hid (HFIN.out _ _ _ z1 z2 (by rw [← HN.out]; exact z3) (by rw [← HN.out, ← HNN.out]; exact z4) HST.out.ap (fun k hk => (HST.out.ho k hk).1) (fun k hk => (HST.out.hn k hk).1))
          have hpos : pos os (addD D s) s = N := by rw [pos_addD, pos_none HNI.out, HNN.out]
          have HFW := Lib.hid (HF5.out.trans z1 (fun k hk e => .inr (.inr e)))
          have HRET : Hid (RetCd B c x y C1 C2 qs1 qs2 os m dp D Q (.slice oo i oc) (.slice no i nc) s w (.returned (.int .i64 (N : Nat))) ((Z7_8_14_15.setCell ⟨c, 3, none⟩ (.slice o8 (i + 1) k8)).setCell ⟨c, 4, none⟩ (.slice o15 (i + 1) k15))) := by
            refine ⟨by rw [hpos], C3, [q], [ptrsOf os s], .slice o8 (i + 1) k8, .slice o15 (i + 1) k15, ?_, HOLD.out, HFW.out, .inr ⟨HNI.out, rfl⟩, fun k hk => by
              have := HSZ.out
              rcases hk with e | e
              · rcases (HST.out.ho k e).1 with h1 | h1
                · exact .inl h1
                · exact .inr (.inr (by omega))
              · rcases (HST.out.hn k e).1 with h1 | h1
                · exact .inr (.inl h1)
                · exact .inr (.inr (by omega))⟩
            rw [addD_out HNI.out]; exact HDC.out
          clear z1 z2 z3 z4 hpos HFIN HDC HFW
          go_wp2_with fail
          go_ret
          exact HRET.out
      · skip
        go_simp
        have b9 := (Below.refl X.heap.size X).alloc (Nat.le_refl _) (.cells #[.int .i64 s] 3)
        have a9 := alloc_at X (.cells #[.int .i64 s] 3)
        have z9 : w5.heap.size ≤ X.heap.size := HST.out.fr.size
        generalize X.alloc (.cells #[.int .i64 s] 3) = Z7 at b9 a9 ⊢
        have HST := Lib.hid (HST.out.below b9)
        clear b9
        generalize X.heap.size = g7 at a9 z9 ⊢
        have A7 := Lib.hid a9
        have ZZ7 := Lib.hid z9
        clear a9 z9
        refine hK.out _ _ ⟨by rw [cell_of_row _ _ _ _ _ _ HST.out.bk]; rfl, by rw [cell_of_row _ _ _ _ _ _ HST.out.bk]; rfl⟩ (fun hHeld => ?_)
        clear hK K
        try simp only [List.getElem_toArray, List.getElem_cons_succ, List.getElem_cons_zero, Act.put, List.setIfInBounds_toArray, List.set_cons_zero, List.set_cons_succ]
        refine wpAnyL_ready (rs := [1, 8, 14]) (by kernel_rfl) (by simp) ?_
        refine (AllL.cons rfl rfl (fun K hK => ?_) (AllL.cons rfl rfl (fun K hK => ?_) (AllL.cons rfl rfl (fun K hK => ?_) AllL.nil)))
        · skip
          go_simp
          refine hK.out _ _ hHeld (fun hHeld => ?_)
          clear hK K
          try simp only [List.getElem_toArray, List.getElem_cons_succ, List.getElem_cons_zero, Act.put, List.setIfInBounds_toArray, List.set_cons_zero, List.set_cons_succ]
          refine wpAnyL_ready (rs := [8, 14]) (by kernel_rfl) (by simp) ?_
          refine (AllL.cons rfl rfl (fun K hK => ?_) (AllL.cons rfl rfl (fun K hK => ?_) AllL.nil))
          · skip
            refine wp_appI (Operand.tmp 70) (Operand.tmp 72) rfl B (.slice oo i oc) i _ rfl HST.out.o (.slice (some ⟨g7, 0, none⟩) 1 1) rfl 1 _ (srcA_one A7.out rfl 1) (by omega) (Nat.le_trans HBW.out HST.out.fr.size) ?_
            intro v8 Z7_8 hown9 hg9 hv9
            obtain ⟨o8, k8, rfl⟩ := own_sform hown9
            have HST := Lib.hid (HST.out.appO hown9 hg9 hv9)
            clear hown9 hg9 hv9 A7
            refine hK.out _ _ ⟨by rw [cell_of_row _ _ _ _ _ _ HST.out.bk]; rfl, by rw [cell_of_row _ _ _ _ _ _ HST.out.bk]; rfl⟩ (fun hHeld => ?_)
            clear hK K
            try simp only [List.getElem_toArray, List.getElem_cons_succ, List.getElem_cons_zero, Act.put, List.setIfInBounds_toArray, List.set_cons_zero, List.set_cons_succ]
            refine wpAnyL_ready (rs := [14]) (by kernel_rfl) (by simp) ?_
            refine (AllL.cons rfl rfl (fun K hK => ?_) AllL.nil)
            go_simp
            have b9 := (Below.refl Z7_8.heap.size Z7_8).alloc (Nat.le_refl _) (.cells #[.int .i64 (N : Int)] 3)
            have a9 := alloc_at Z7_8 (.cells #[.int .i64 (N : Int)] 3)
            have z9 : w5.heap.size ≤ Z7_8.heap.size := HST.out.fr.size
            generalize Z7_8.alloc (.cells #[.int .i64 (N : Int)] 3) = Z7_8_14 at b9 a9 ⊢
            have HST := Lib.hid (HST.out.below b9)
            clear b9
            generalize Z7_8.heap.size = g14 at a9 z9 ⊢
            have A14 := Lib.hid a9
            have ZZ14 := Lib.hid z9
            clear a9 z9
            refine hK.out _ _ ⟨by rw [cell_of_row _ _ _ _ _ _ HST.out.bk]; rfl, by rw [cell_of_row _ _ _ _ _ _ HST.out.bk]; rfl⟩ (fun hHeld => ?_)
            clear hK K
            try simp only [List.getElem_toArray, List.getElem_cons_succ, List.getElem_cons_zero, Act.put, List.setIfInBounds_toArray, List.set_cons_zero, List.set_cons_succ]
            refine wpAnyL_ready (rs := [15]) (by kernel_rfl) (by simp) ?_
            refine (AllL.cons rfl rfl (fun K hK => ?_) AllL.nil)
            refine wp_appI (Operand.tmp 77) (Operand.tmp 79) rfl B (.slice no i nc) i _ rfl HST.out.n (.slice (some ⟨g14, 0, none⟩) 1 1) rfl 1 _ (srcA_one A14.out rfl 1) (by omega) (Nat.le_trans HBW.out HST.out.fr.size) ?_
            intro v15 Z7_8_14_15 hown9 hg9 hv9
            obtain ⟨o15, k15, rfl⟩ := own_sform hown9
            have HST := Lib.hid (HST.out.appN hown9 hg9 hv9)
            clear hown9 hg9 hv9 A14
            refine hK.out _ _ ⟨by rw [cell_of_row _ _ _ _ _ _ HST.out.bk]; rfl, by rw [cell_of_row _ _ _ _ _ _ HST.out.bk]; rfl⟩ (fun hHeld => ?_)
            clear hK K
            try simp only [List.getElem_toArray, List.getElem_cons_succ, List.getElem_cons_zero, Act.put, List.setIfInBounds_toArray, List.set_cons_zero, List.set_cons_succ]
            refine wpAnyL_take (B := [17, 18, 19, 20, 21]) (i := 16) (v := ?v61) rfl (by kernel_rfl) (by kernel_rfl) (by kernel_rfl) (by kernel_rfl) (fun _ _ _ h => h) (Or.inl ⟨rfl, fun w' hw' => ?h61⟩) hHeld ?r61
            case h61 =>
              go_simp
              try with_reducible rfl
            simp only [List.getElem_toArray, List.getElem_cons_succ, List.getElem_cons_zero, Act.put, List.setIfInBounds_toArray, List.set_cons_zero, List.set_cons_succ]
            refine wpAnyL_take (B := [18, 19, 20, 21]) (i := 17) (v := ?v63) rfl (by kernel_rfl) (by kernel_rfl) (by kernel_rfl) (by kernel_rfl) (fun _ _ _ h => h) (Or.inl ⟨rfl, fun w' hw' => ?h63⟩) hHeld ?r63
            case h63 =>
              go_simp
              try with_reducible rfl
            simp only [List.getElem_toArray, List.getElem_cons_succ, List.getElem_cons_zero, Act.put, List.setIfInBounds_toArray, List.set_cons_zero, List.set_cons_succ]
            refine wpAnyL_ready (rs := [18]) (by kernel_rfl) (by simp) ?_
            refine (AllL.last (S2 := fun _ => True) rfl rfl (fun K hK => ?_) AllL.nil)
            have c3 : Z7_8_14_15.cell? ⟨c, 3, none⟩ = some (.slice oo i oc) := by rw [cell_of_row _ _ _ _ _ _ HST.out.bk]; rfl
            have f3 := frozen_of_row Z7_8_14_15 c 3 _ _ HST.out.bk
            go_simp
            refine hK.out _ _ trivial (fun hHeld => ?_)
            clear c3 f3
            clear hK K
            try simp only [List.getElem_toArray, List.getElem_cons_succ, List.getElem_cons_zero, Act.put, List.setIfInBounds_toArray, List.set_cons_zero, List.set_cons_succ]
            refine wpAnyH_take (i := 19) (v := ?v64) rfl (by kernel_rfl) (by kernel_rfl) (by kernel_rfl) (fun _ _ _ h => h) (Or.inl ⟨rfl, fun w' hw' => ?h64⟩) hHeld ?r64
            case h64 =>
              go_simp
              try with_reducible rfl
            simp only [List.getElem_toArray, List.getElem_cons_succ, List.getElem_cons_zero, Act.put, List.setIfInBounds_toArray, List.set_cons_zero, List.set_cons_succ]
            refine wpAnyH_take (i := 20) (v := ?v65) rfl (by kernel_rfl) (by kernel_rfl) (by kernel_rfl) (fun _ _ _ h => h) (Or.inl ⟨rfl, fun w' hw' => ?h65⟩) hHeld ?r65
            case h65 =>
              go_simp
              try with_reducible rfl
            simp only [List.getElem_toArray, List.getElem_cons_succ, List.getElem_cons_zero, Act.put, List.setIfInBounds_toArray, List.set_cons_zero, List.set_cons_succ]
            refine wpAnyH_ready (rs := [21]) (by kernel_rfl) (by simp) ?_
            refine (AllReadyH.cons rfl (fun K hK => ?_) AllReadyH.nil)
            have s1 := heap_setCell_same Z7_8_14_15 c 3 _ 64 (.slice o8 (i + 1) k8) HST.out.bk
            have c4 : (Z7_8_14_15.setCell ⟨c, 3, none⟩ (.slice o8 (i + 1) k8)).cell? ⟨c, 4, none⟩ = some (.slice no i nc) := by rw [cell_of_row _ _ _ _ _ _ s1]; rfl
            have f4 := frozen_of_row _ c 4 _ _ s1
            go_simp
            refine hK.out _ _ trivial (fun hHeld => ?_)
            clear c4 f4 s1
            clear hK K
            try simp only [List.getElem_toArray, List.getElem_cons_succ, List.getElem_cons_zero, Act.put, List.setIfInBounds_toArray, List.set_cons_zero, List.set_cons_succ]
            refine wpAnyH_done (by kernel_rfl) ?_ _
            refine NoPanic.normal ?_
            clear hHeld
            obtain ⟨z1, z2, z3, z4⟩ := HST.out.fin
            have HDC := Lib.hid (HFIN.out _ _ _ z1 z2 (by rw [← HN.out]; exact z3) (by rw [← HN.out, ← HNN.out]; exact z4) HST.out.ap (fun k hk => (HST.out.ho k hk).1) (fun k hk => (HST.out.hn k hk).1))
            have hpos : pos os (addD D s) s = N := by rw [pos_addD, pos_none HNI.out, HNN.out]
            have HFW := Lib.hid (HF5.out.trans z1 (fun k hk e => .inr (.inr e)))
            have HRET : Hid (RetCd B c x y C1 C2 qs1 qs2 os m dp D Q (.slice oo i oc) (.slice no i nc) s w (.returned (.int .i64 (N : Nat))) ((Z7_8_14_15.setCell ⟨c, 3, none⟩ (.slice o8 (i + 1) k8)).setCell ⟨c, 4, none⟩ (.slice o15 (i + 1) k15))) := by
              refine ⟨by rw [hpos], C3, [q], [ptrsOf os s], .slice o8 (i + 1) k8, .slice o15 (i + 1) k15, ?_, HOLD.out, HFW.out, .inr ⟨HNI.out, rfl⟩, fun k hk => by
                have := HSZ.out
                rcases hk with e | e
                · rcases (HST.out.ho k e).1 with h1 | h1
                  · exact .inl h1
                  · exact .inr (.inr (by omega))
                · rcases (HST.out.hn k e).1 with h1 | h1
                  · exact .inr (.inl h1)
                  · exact .inr (.inr (by omega))⟩
              rw [addD_out HNI.out]; exact HDC.out
            clear z1 z2 z3 z4 hpos HFIN HDC HFW
            go_wp2_with fail
            go_ret
            exact HRET.out
          · skip
            go_simp
            have b9 := (Below.refl Z7.heap.size Z7).alloc (Nat.le_refl _) (.cells #[.int .i64 (N : Int)] 3)
            have a9 := alloc_at Z7 (.cells #[.int .i64 (N : Int)] 3)
            have z9 : w5.heap.size ≤ Z7.heap.size := HST.out.fr.size
            generalize Z7.alloc (.cells #[.int .i64 (N : Int)] 3) = Z7_14 at b9 a9 ⊢
            have HST := Lib.hid (HST.out.below b9)
            have A7 := Lib.hid ((b9.block g7 (Array.getElem?_eq_some_iff.1 A7.out).1).trans A7.out)
            clear b9
            generalize Z7.heap.size = g14 at a9 z9 ⊢
            have A14 := Lib.hid a9
            have ZZ14 := Lib.hid z9
            clear a9 z9
            refine hK.out _ _ ⟨by rw [cell_of_row _ _ _ _ _ _ HST.out.bk]; rfl, by rw [cell_of_row _ _ _ _ _ _ HST.out.bk]; rfl⟩ (fun hHeld => ?_)
            clear hK K
            try simp only [List.getElem_toArray, List.getElem_cons_succ, List.getElem_cons_zero, Act.put, List.setIfInBounds_toArray, List.set_cons_zero, List.set_cons_succ]
            refine wpAnyL_ready (rs := [8]) (by kernel_rfl) (by simp) ?_
            refine (AllL.cons rfl rfl (fun K hK => ?_) AllL.nil)
            refine wp_appI (Operand.tmp 70) (Operand.tmp 72) rfl B (.slice oo i oc) i _ rfl HST.out.o (.slice (some ⟨g7, 0, none⟩) 1 1) rfl 1 _ (srcA_one A7.out rfl 1) (by omega) (Nat.le_trans HBW.out HST.out.fr.size) ?_
            intro v8 Z7_8_14 hown9 hg9 hv9
            obtain ⟨o8, k8, rfl⟩ := own_sform hown9
            have A14 := Lib.hid ((hg9.block g14 (Array.getElem?_eq_some_iff.1 A14.out).1 (fun e => by have := HLT.out g14 (.inl e.symm); have := ZZ14.out; omega)).trans A14.out)
            have HST := Lib.hid (HST.out.appO hown9 hg9 hv9)
            clear hown9 hg9 hv9 A7
            refine hK.out _ _ ⟨by rw [cell_of_row _ _ _ _ _ _ HST.out.bk]; rfl, by rw [cell_of_row _ _ _ _ _ _ HST.out.bk]; rfl⟩ (fun hHeld => ?_)
            clear hK K
            try simp only [List.getElem_toArray, List.getElem_cons_succ, List.getElem_cons_zero, Act.put, List.setIfInBounds_toArray, List.set_cons_zero, List.set_cons_succ]
            refine wpAnyL_ready (rs := [15]) (by kernel_rfl) (by simp) ?_
            refine (AllL.cons rfl rfl (fun K hK => ?_) AllL.nil)
            refine wp_appI (Operand.tmp 77) (Operand.tmp 79) rfl B (.slice no i nc) i _ rfl HST.out.n (.slice (some ⟨g14, 0, none⟩) 1 1) rfl 1 _ (srcA_one A14.out rfl 1) (by omega) (Nat.le_trans HBW.out HST.out.fr.size) ?_
            intro v15 Z7_8_14_15 hown9 hg9 hv9
            obtain ⟨o15, k15, rfl⟩ := own_sform hown9
            have HST := Lib.hid (HST.out.appN hown9 hg9 hv9)
            clear hown9 hg9 hv9 A14
            refine hK.out _ _ ⟨by rw [cell_of_row _ _ _ _ _ _ HST.out.bk]; rfl, by rw [cell_of_row _ _ _ _ _ _ HST.out.bk]; rfl⟩ (fun hHeld => ?_)
            clear hK K
            try simp only [List.getElem_toArray, List.getElem_cons_succ, List.getElem_cons_zero, Act.put, List.setIfInBounds_toArray, List.set_cons_zero, List.set_cons_succ]
            refine wpAnyL_take (B := [17, 18, 19, 20, 21]) (i := 16) (v := ?v67) rfl (by kernel_rfl) (by kernel_rfl) (by kernel_rfl) (by kernel_rfl) (fun _ _ _ h => h) (Or.inl ⟨rfl, fun w' hw' => ?h67⟩) hHeld ?r67
            case h67 =>
              go_simp
              try with_reducible rfl
            simp only [List.getElem_toArray, List.getElem_cons_succ, List.getElem_cons_zero, Act.put, List.setIfInBounds_toArray, List.set_cons_zero, List.set_cons_succ]
            refine wpAnyL_take (B := [18, 19, 20, 21]) (i := 17) (v := ?v69) rfl (by kernel_rfl) (by kernel_rfl) (by kernel_rfl) (by kernel_rfl) (fun _ _ _ h => h) (Or.inl ⟨rfl, fun w' hw' => ?h69⟩) hHeld ?r69
            case h69 =>
              go_simp
              try with_reducible rfl
            simp only [List.getElem_toArray, List.getElem_cons_succ, List.getElem_cons_zero, Act.put, List.setIfInBounds_toArray, List.set_cons_zero, List.set_cons_succ]
            refine wpAnyL_ready (rs := [18]) (by kernel_rfl) (by simp) ?_
            refine (AllL.last (S2 := fun _ => True) rfl rfl (fun K hK => ?_) AllL.nil)
            have c3 : Z7_8_14_15.cell? ⟨c, 3, none⟩ = some (.slice oo i oc) := by rw [cell_of_row _ _ _ _ _ _ HST.out.bk]; rfl
            have f3 := frozen_of_row Z7_8_14_15 c 3 _ _ HST.out.bk
            go_simp
            refine hK.out _ _ trivial (fun hHeld => ?_)
            clear c3 f3
            clear hK K
            try simp only [List.getElem_toArray, List.getElem_cons_succ, List.getElem_cons_zero, Act.put, List.setIfInBounds_toArray, List.set_cons_zero, List.set_cons_succ]
            refine wpAnyH_take (i := 19) (v := ?v70) rfl (by kernel_rfl) (by kernel_rfl) (by kernel_rfl) (fun _ _ _ h => h) (Or.inl ⟨rfl, fun w' hw' => ?h70⟩) hHeld ?r70
            case h70 =>
              go_simp
              try with_reducible rfl
            simp only [List.getElem_toArray, List.getElem_cons_succ, List.getElem_cons_zero, Act.put, List.setIfInBounds_toArray, List.set_cons_zero, List.set_cons_succ]
            refine wpAnyH_take (i := 20) (v := ?v71) rfl (by kernel_rfl) (by kernel_rfl) (by kernel_rfl) (fun _ _ _ h => h) (Or.inl ⟨rfl, fun w' hw' => ?h71⟩) hHeld ?r71
            case h71 =>
              go_simp
              try with_reducible rfl
            simp only [List.getElem_toArray, List.getElem_cons_succ, List.getElem_cons_zero, Act.put, List.setIfInBounds_toArray, List.set_cons_zero, List.set_cons_succ]
            refine wpAnyH_ready (rs := [21]) (by kernel_rfl) (by simp) ?_
            refine (AllReadyH.cons rfl (fun K hK => ?_) AllReadyH.nil)
            have s1 := heap_setCell_same Z7_8_14_15 c 3 _ 64 (.slice o8 (i + 1) k8) HST.out.bk
            have c4 : (Z7_8_14_15.setCell ⟨c, 3, none⟩ (.slice o8 (i + 1) k8)).cell? ⟨c, 4, none⟩ = some (.slice no i nc) := by rw [cell_of_row _ _ _ _ _ _ s1]; rfl
            have f4 := frozen_of_row _ c 4 _ _ s1
            go_simp
            refine hK.out _ _ trivial (fun hHeld => ?_)
            clear c4 f4 s1
            clear hK K
            try simp only [List.getElem_toArray, List.getElem_cons_succ, List.getElem_cons_zero, Act.put, List.setIfInBounds_toArray, List.set_cons_zero, List.set_cons_succ]
            refine wpAnyH_done (by kernel_rfl) ?_ _
            refine NoPanic.normal ?_
            clear hHeld
            obtain ⟨z1, z2, z3, z4⟩ := HST.out.fin
            have HDC := Lib.hid (HFIN.out _ _ _ z1 z2 (by rw [← HN.out]; exact z3) (by rw [← HN.out, ← HNN.out]; exact z4) HST.out.ap (fun k hk => (HST.out.ho k hk).1) (fun k hk => (HST.out.hn k hk).1))
            have hpos : pos os (addD D s) s = N := by rw [pos_addD, pos_none HNI.out, HNN.out]
            have HFW := Lib.hid (HF5.out.trans z1 (fun k hk e => .inr (.inr e)))
            have HRET : Hid (RetCd B c x y C1 C2 qs1 qs2 os m dp D Q (.slice oo i oc) (.slice no i nc) s w (.returned (.int .i64 (N : Nat))) ((Z7_8_14_15.setCell ⟨c, 3, none⟩ (.slice o8 (i + 1) k8)).setCell ⟨c, 4, none⟩ (.slice o15 (i + 1) k15))) := by
              refine ⟨by rw [hpos], C3, [q], [ptrsOf os s], .slice o8 (i + 1) k8, .slice o15 (i + 1) k15, ?_, HOLD.out, HFW.out, .inr ⟨HNI.out, rfl⟩, fun k hk => by
                have := HSZ.out
                rcases hk with e | e
                · rcases (HST.out.ho k e).1 with h1 | h1
                  · exact .inl h1
                  · exact .inr (.inr (by omega))
                · rcases (HST.out.hn k e).1 with h1 | h1
                  · exact .inr (.inl h1)
                  · exact .inr (.inr (by omega))⟩
              rw [addD_out HNI.out]; exact HDC.out
            clear z1 z2 z3 z4 hpos HFIN HDC HFW
            go_wp2_with fail
            go_ret
            exact HRET.out
        · skip
          refine wp_appI (Operand.tmp 70) (Operand.tmp 72) rfl B (.slice oo i oc) i _ rfl HST.out.o (.slice (some ⟨g7, 0, none⟩) 1 1) rfl 1 _ (srcA_one A7.out rfl 1) (by omega) (Nat.le_trans HBW.out HST.out.fr.size) ?_
          intro v8 Z7_8 hown9 hg9 hv9
          obtain ⟨o8, k8, rfl⟩ := own_sform hown9
          have HST := Lib.hid (HST.out.appO hown9 hg9 hv9)
          clear hown9 hg9 hv9 A7
          refine hK.out _ _ ⟨by rw [cell_of_row _ _ _ _ _ _ HST.out.bk]; rfl, by rw [cell_of_row _ _ _ _ _ _ HST.out.bk]; rfl⟩ (fun hHeld => ?_)
          clear hK K
          try simp only [List.getElem_toArray, List.getElem_cons_succ, List.getElem_cons_zero, Act.put, List.setIfInBounds_toArray, List.set_cons_zero, List.set_cons_succ]
          refine wpAnyL_ready (rs := [1, 14]) (by kernel_rfl) (by simp) ?_
          refine (AllL.cons rfl rfl (fun K hK => ?_) (AllL.cons rfl rfl (fun K hK => ?_) AllL.nil))
          · skip
            go_simp
            refine hK.out _ _ hHeld (fun hHeld => ?_)
            clear hK K
            try simp only [List.getElem_toArray, List.getElem_cons_succ, List.getElem_cons_zero, Act.put, List.setIfInBounds_toArray, List.set_cons_zero, List.set_cons_succ]
            refine wpAnyL_ready (rs := [14]) (by kernel_rfl) (by simp) ?_
            refine (AllL.cons rfl rfl (fun K hK => ?_) AllL.nil)
            go_simp
            have b9 := (Below.refl Z7_8.heap.size Z7_8).alloc (Nat.le_refl _) (.cells #[.int .i64 (N : Int)] 3)
            have a9 := alloc_at Z7_8 (.cells #[.int .i64 (N : Int)] 3)
            have z9 : w5.heap.size ≤ Z7_8.heap.size := HST.out.fr.size
            generalize Z7_8.alloc (.cells #[.int .i64 (N : Int)] 3) = Z7_8_14 at b9 a9 ⊢
            have HST := Lib.hid (HST.out.below b9)
            clear b9
            generalize Z7_8.heap.size = g14 at a9 z9 ⊢
            have A14 := Lib.hid a9
            have ZZ14 := Lib.hid z9
            clear a9 z9
            refine hK.out _ _ ⟨by rw [cell_of_row _ _ _ _ _ _ HST.out.bk]; rfl, by rw [cell_of_row _ _ _ _ _ _ HST.out.bk]; rfl⟩ (fun hHeld => ?_)
            clear hK K
            try simp only [List.getElem_toArray, List.getElem_cons_succ, List.getElem_cons_zero, Act.put, List.setIfInBounds_toArray, List.set_cons_zero, List.set_cons_succ]
            refine wpAnyL_ready (rs := [15]) (by kernel_rfl) (by simp) ?_
            refine (AllL.cons rfl rfl (fun K hK => ?_) AllL.nil)
            refine wp_appI (Operand.tmp 77) (Operand.tmp 79) rfl B (.slice no i nc) i _ rfl HST.out.n (.slice (some ⟨g14, 0, none⟩) 1 1) rfl 1 _ (srcA_one A14.out rfl 1) (by omega) (Nat.le_trans HBW.out HST.out.fr.size) ?_
            intro v15 Z7_8_14_15 hown9 hg9 hv9
            obtain ⟨o15, k15, rfl⟩ := own_sform hown9
            have HST := Lib.hid (HST.out.appN hown9 hg9 hv9)
            clear hown9 hg9 hv9 A14
            refine hK.out _ _ ⟨by rw [cell_of_row _ _ _ _ _ _ HST.out.bk]; rfl, by rw [cell_of_row _ _ _ _ _ _ HST.out.bk]; rfl⟩ (fun hHeld => ?_)
            clear hK K
            try simp only [List.getElem_toArray, List.getElem_cons_succ, List.getElem_cons_zero, Act.put, List.setIfInBounds_toArray, List.set_cons_zero, List.set_cons_succ]
            refine wpAnyL_take (B := [17, 18, 19, 20, 21]) (i := 16) (v := ?v73) rfl (by kernel_rfl) (by kernel_rfl) (by kernel_rfl) (by kernel_rfl) (fun _ _ _ h => h) (Or.inl ⟨rfl, fun w' hw' => ?h73⟩) hHeld ?r73
            case h73 =>
              go_simp
              try with_reducible rfl
            simp only [List.getElem_toArray, List.getElem_cons_succ, List.getElem_cons_zero, Act.put, List.setIfInBounds_toArray, List.set_cons_zero, List.set_cons_succ]
            refine wpAnyL_take (B := [18, 19, 20, 21]) (i := 17) (v := ?v75) rfl (by kernel_rfl) (by kernel_rfl) (by kernel_rfl) (by kernel_rfl) (fun _ _ _ h => h) (Or.inl ⟨rfl, fun w' hw' => ?h75⟩) hHeld ?r75
            case h75 =>
              go_simp
              try with_reducible rfl
            simp only [List.getElem_toArray, List.getElem_cons_succ, List.getElem_cons_zero, Act.put, List.setIfInBounds_toArray, List.set_cons_zero, List.set_cons_succ]
            refine wpAnyL_ready (rs := [18]) (by kernel_rfl) (by simp) ?_
            refine (AllL.last (S2 := fun _ => True) rfl rfl (fun K hK => ?_) AllL.nil)
            have c3 : Z7_8_14_15.cell? ⟨c, 3, none⟩ = some (.slice oo i oc) := by rw [cell_of_row _ _ _ _ _ _ HST.out.bk]; rfl
            have f3 := frozen_of_row Z7_8_14_15 c 3 _ _ HST.out.bk
            go_simp
            refine hK.out _ _ trivial (fun hHeld => ?_)
            clear c3 f3
            clear hK K
            try simp only [List.getElem_toArray, List.getElem_cons_succ, List.getElem_cons_zero, Act.put, List.setIfInBounds_toArray, List.set_cons_zero, List.set_cons_succ]
            refine wpAnyH_take (i := 19) (v := ?v76) rfl (by kernel_rfl) (by kernel_rfl) (by kernel_rfl) (fun _ _ _ h => h) (Or.inl ⟨rfl, fun w' hw' => ?h76⟩) hHeld ?r76
            case h76 =>
              go_simp
              try with_reducible rfl
            simp only [List.getElem_toArray, List.getElem_cons_succ, List.getElem_cons_zero, Act.put, List.setIfInBounds_toArray, List.set_cons_zero, List.set_cons_succ]
            refine wpAnyH_take (i := 20) (v := ?v77) rfl (by kernel_rfl) (by kernel_rfl) (by kernel_rfl) (fun _ _ _ h => h) (Or.inl ⟨rfl, fun w' hw' => ?h77⟩) hHeld ?r77
            case h77 =>
              go_simp
              try with_reducible rfl
            simp only [List.getElem_toArray, List.getElem_cons_succ, List.getElem_cons_zero, Act.put, List.setIfInBounds_toArray, List.set_cons_zero, List.set_cons_succ]
            refine wpAnyH_ready (rs := [21]) (by kernel_rfl) (by simp) ?_
            refine (AllReadyH.cons rfl (fun K hK => ?_) AllReadyH.nil)
            have s1 := heap_setCell_same Z7_8_14_15 c 3 _ 64 (.slice o8 (i + 1) k8) HST.out.bk
            have c4 : (Z7_8_14_15.setCell ⟨c, 3, none⟩ (.slice o8 (i + 1) k8)).cell? ⟨c, 4, none⟩ = some (.slice no i nc) := by rw [cell_of_row _ _ _ _ _ _ s1]; rfl
            have f4 := frozen_of_row _ c 4 _ _ s1
            go_simp
            refine hK.out _ _ trivial (fun hHeld => ?_)
            clear c4 f4 s1
            clear hK K
            try simp only [List.getElem_toArray, List.getElem_cons_succ, List.getElem_cons_zero, Act.put, List.setIfInBounds_toArray, List.set_cons_zero, List.set_cons_succ]
            refine wpAnyH_done (by kernel_rfl) ?_ _
            refine NoPanic.normal ?_
            clear hHeld
            obtain ⟨z1, z2, z3, z4⟩ := HST.out.fin
            have HDC := Lib.hid (HFIN.out _ _ _ z1 z2 (by rw [← HN.out]; exact z3) (by rw [← HN.out, ← HNN.out]; exact z4) HST.out.ap (fun k hk => (HST.out.ho k hk).1) (fun k hk => (HST.out.hn k hk).1))
            have hpos : pos os (addD D s) s = N := by rw [pos_addD, pos_none HNI.out, HNN.out]
            have HFW := Lib.hid (HF5.out.trans z1 (fun k hk e => .inr (.inr e)))
            have HRET : Hid (RetCd B c x y C1 C2 qs1 qs2 os m dp D Q (.slice oo i oc) (.slice no i nc) s w (.returned (.int .i64 (N : Nat))) ((Z7_8_14_15.setCell ⟨c, 3, none⟩ (.slice o8 (i + 1) k8)).setCell ⟨c, 4, none⟩ (.slice o15 (i + 1) k15))) := by
              refine ⟨by rw [hpos], C3, [q], [ptrsOf os s], .slice o8 (i + 1) k8, .slice o15 (i + 1) k15, ?_, HOLD.out, HFW.out, .inr ⟨HNI.out, rfl⟩, fun k hk => by
                have := HSZ.out
                rcases hk with e | e
                · rcases (HST.out.ho k e).1 with h1 | h1
                  · exact .inl h1
                  · exact .inr (.inr (by omega))
                · rcases (HST.out.hn k e).1 with h1 | h1
                  · exact .inr (.inl h1)
                  · exact .inr (.inr (by omega))⟩
              rw [addD_out HNI.out]; exact HDC.out
            clear z1 z2 z3 z4 hpos HFIN HDC HFW
            go_wp2_with fail
            go_ret
            exact HRET.out
          · skip
            go_simp
            have b9 := (Below.refl Z7_8.heap.size Z7_8).alloc (Nat.le_refl _) (.cells #[.int .i64 (N : Int)] 3)
            have a9 := alloc_at Z7_8 (.cells #[.int .i64 (N : Int)] 3)
            have z9 : w5.heap.size ≤ Z7_8.heap.size := HST.out.fr.size
            generalize Z7_8.alloc (.cells #[.int .i64 (N : Int)] 3) = Z7_8_14 at b9 a9 ⊢
            have HST := Lib.hid (HST.out.below b9)
            clear b9
            generalize Z7_8.heap.size = g14 at a9 z9 ⊢
            have A14 := Lib.hid a9
            have ZZ14 := Lib.hid z9
            clear a9 z9
            refine hK.out _ _ ⟨by rw [cell_of_row _ _ _ _ _ _ HST.out.bk]; rfl, by rw [cell_of_row _ _ _ _ _ _ HST.out.bk]; rfl⟩ (fun hHeld => ?_)
            clear hK K
            try simp only [List.getElem_toArray, List.getElem_cons_succ, List.getElem_cons_zero, Act.put, List.setIfInBounds_toArray, List.set_cons_zero, List.set_cons_succ]
            refine wpAnyL_ready (rs := [1, 15]) (by kernel_rfl) (by simp) ?_
            refine (AllL.cons rfl rfl (fun K hK => ?_) (AllL.cons rfl rfl (fun K hK => ?_) AllL.nil))
            · skip
              go_simp
              refine hK.out _ _ hHeld (fun hHeld => ?_)
              clear hK K
              try simp only [List.getElem_toArray, List.getElem_cons_succ, List.getElem_cons_zero, Act.put, List.setIfInBounds_toArray, List.set_cons_zero, List.set_cons_succ]
              refine wpAnyL_ready (rs := [15]) (by kernel_rfl) (by simp) ?_
              refine (AllL.cons rfl rfl (fun K hK => ?_) AllL.nil)
              refine wp_appI (Operand.tmp 77) (Operand.tmp 79) rfl B (.slice no i nc) i _ rfl HST.out.n (.slice (some ⟨g14, 0, none⟩) 1 1) rfl 1 _ (srcA_one A14.out rfl 1) (by omega) (Nat.le_trans HBW.out HST.out.fr.size) ?_
              intro v15 Z7_8_14_15 hown9 hg9 hv9
              obtain ⟨o15, k15, rfl⟩ := own_sform hown9
              have HST := Lib.hid (HST.out.appN hown9 hg9 hv9)
              clear hown9 hg9 hv9 A14
              refine hK.out _ _ ⟨by rw [cell_of_row _ _ _ _ _ _ HST.out.bk]; rfl, by rw [cell_of_row _ _ _ _ _ _ HST.out.bk]; rfl⟩ (fun hHeld => ?_)
              clear hK K
              try simp only [List.getElem_toArray, List.getElem_cons_succ, List.getElem_cons_zero, Act.put, List.setIfInBounds_toArray, List.set_cons_zero, List.set_cons_succ]
              refine wpAnyL_take (B := [17, 18, 19, 20, 21]) (i := 16) (v := ?v79) rfl (by kernel_rfl) (by kernel_rfl) (by kernel_rfl) (by kernel_rfl) (fun _ _ _ h => h) (Or.inl ⟨rfl, fun w' hw' => ?h79⟩) hHeld ?r79
              case h79 =>
                go_simp
                try with_reducible rfl
              simp only [List.getElem_toArray, List.getElem_cons_succ, List.getElem_cons_zero, Act.put, List.setIfInBounds_toArray, List.set_cons_zero, List.set_cons_succ]
              refine wpAnyL_take (B := [18, 19, 20, 21]) (i := 17) (v := ?v81) rfl (by kernel_rfl) (by kernel_rfl) (by kernel_rfl) (by kernel_rfl) (fun _ _ _ h => h) (Or.inl ⟨rfl, fun w' hw' => ?h81⟩) hHeld ?r81
              case h81 =>
                go_simp
                try with_reducible rfl
              simp only [List.getElem_toArray, List.getElem_cons_succ, List.getElem_cons_zero, Act.put, List.setIfInBounds_toArray, List.set_cons_zero, List.set_cons_succ]
              refine wpAnyL_ready (rs := [18]) (by kernel_rfl) (by simp) ?_
              refine (AllL.last (S2 := fun _ => True) rfl rfl (fun K hK => ?_) AllL.nil)
              have c3 : Z7_8_14_15.cell? ⟨c, 3, none⟩ = some (.slice oo i oc) := by rw [cell_of_row _ _ _ _ _ _ HST.out.bk]; rfl
              have f3 := frozen_of_row Z7_8_14_15 c 3 _ _ HST.out.bk
              go_simp
              refine hK.out _ _ trivial (fun hHeld => ?_)
              clear c3 f3
              clear hK K
              try simp only [List.getElem_toArray, List.getElem_cons_succ, List.getElem_cons_zero, Act.put, List.setIfInBounds_toArray, List.set_cons_zero, List.set_cons_succ]
              refine wpAnyH_take (i := 19) (v := ?v82) rfl (by kernel_rfl) (by kernel_rfl) (by kernel_rfl) (fun _ _ _ h => h) (Or.inl ⟨rfl, fun w' hw' => ?h82⟩) hHeld ?r82
              case h82 =>
                go_simp
                try with_reducible rfl
              simp only [List.getElem_toArray, List.getElem_cons_succ, List.getElem_cons_zero, Act.put, List.setIfInBounds_toArray, List.set_cons_zero, List.set_cons_succ]
              refine wpAnyH_take (i := 20) (v := ?v83) rfl (by kernel_rfl) (by kernel_rfl) (by kernel_rfl) (fun _ _ _ h => h) (Or.inl ⟨rfl, fun w' hw' => ?h83⟩) hHeld ?r83
              case h83 =>
                go_simp
                try with_reducible rfl
              simp only [List.getElem_toArray, List.getElem_cons_succ, List.getElem_cons_zero, Act.put, List.setIfInBounds_toArray, List.set_cons_zero, List.set_cons_succ]
              refine wpAnyH_ready (rs := [21]) (by kernel_rfl) (by simp) ?_
              refine (AllReadyH.cons rfl (fun K hK => ?_) AllReadyH.nil)
              have s1 := heap_setCell_same Z7_8_14_15 c 3 _ 64 (.slice o8 (i + 1) k8) HST.out.bk
              have c4 : (Z7_8_14_15.setCell ⟨c, 3, none⟩ (.slice o8 (i + 1) k8)).cell? ⟨c, 4, none⟩ = some (.slice no i nc) := by rw [cell_of_row _ _ _ _ _ _ s1]; rfl
              have f4 := frozen_of_row _ c 4 _ _ s1
              go_simp
              refine hK.out _ _ trivial (fun hHeld => ?_)
              clear c4 f4 s1
              clear hK K
              try simp only [List.getElem_toArray, List.getElem_cons_succ, List.getElem_cons_zero, Act.put, List.setIfInBounds_toArray, List.set_cons_zero, List.set_cons_succ]
              refine wpAnyH_done (by kernel_rfl) ?_ _
              refine NoPanic.normal ?_
              clear hHeld
              obtain ⟨z1, z2, z3, z4⟩ := HST.out.fin
              have HDC := Lib.hid (HFIN.out _ _ _ z1 z2 (by rw [← HN.out]; exact z3) (by rw [← HN.out, ← HNN.out]; exact z4) HST.out.ap (fun k hk => (HST.out.ho k hk).1) (fun k hk => (HST.out.hn k hk).1))
              have hpos : pos os (addD D s) s = N := by rw [pos_addD, pos_none HNI.out, HNN.out]
              have HFW := Lib.hid (HF5.out.trans z1 (fun k hk e => .inr (.inr e)))
              have HRET : Hid (RetCd B c x y C1 C2 qs1 qs2 os m dp D Q (.slice oo i oc) (.slice no i nc) s w (.returned (.int .i64 (N : Nat))) ((Z7_8_14_15.setCell ⟨c, 3, none⟩ (.slice o8 (i + 1) k8)).setCell ⟨c, 4, none⟩ (.slice o15 (i + 1) k15))) := by
                refine ⟨by rw [hpos], C3, [q], [ptrsOf os s], .slice o8 (i + 1) k8, .slice o15 (i + 1) k15, ?_, HOLD.out, HFW.out, .inr ⟨HNI.out, rfl⟩, fun k hk => by
                  have := HSZ.out
                  rcases hk with e | e
                  · rcases (HST.out.ho k e).1 with h1 | h1
                    · exact .inl h1
                    · exact .inr (.inr (by omega))
                  · rcases (HST.out.hn k e).1 with h1 | h1
                    · exact .inr (.inl h1)
                    · exact .inr (.inr (by omega))⟩
                rw [addD_out HNI.out]; exact HDC.out
              clear z1 z2 z3 z4 hpos HFIN HDC HFW
              go_wp2_with fail
              go_ret
              exact HRET.out
            · skip
              refine wp_appI (Operand.tmp 77) (Operand.tmp 79) rfl B (.slice no i nc) i _ rfl HST.out.n (.slice (some ⟨g14, 0, none⟩) 1 1) rfl 1 _ (srcA_one A14.out rfl 1) (by omega) (Nat.le_trans HBW.out HST.out.fr.size) ?_
              intro v15 Z7_8_14_15 hown9 hg9 hv9
              obtain ⟨o15, k15, rfl⟩ := own_sform hown9
              have HST := Lib.hid (HST.out.appN hown9 hg9 hv9)
              clear hown9 hg9 hv9 A14
              refine hK.out _ _ ⟨by rw [cell_of_row _ _ _ _ _ _ HST.out.bk]; rfl, by rw [cell_of_row _ _ _ _ _ _ HST.out.bk]; rfl⟩ (fun hHeld => ?_)
              clear hK K
              try simp only [List.getElem_toArray, List.getElem_cons_succ, List.getElem_cons_zero, Act.put, List.setIfInBounds_toArray, List.set_cons_zero, List.set_cons_succ]
              refine wpAnyL_take (B := [17, 18, 19, 20, 21]) (i := 16) (v := ?v85) rfl (by kernel_rfl) (by kernel_rfl) (by kernel_rfl) (by kernel_rfl) (fun _ _ _ h => h) (Or.inl ⟨rfl, fun w' hw' => ?h85⟩) hHeld ?r85
              case h85 =>
                go_simp
                try with_reducible rfl
              simp only [List.getElem_toArray, List.getElem_cons_succ, List.getElem_cons_zero, Act.put, List.setIfInBounds_toArray, List.set_cons_zero, List.set_cons_succ]
              refine wpAnyL_take (B := [18, 19, 20, 21]) (i := 17) (v := ?v87) rfl (by kernel_rfl) (by kernel_rfl) (by kernel_rfl) (by kernel_rfl) (fun _ _ _ h => h) (Or.inl ⟨rfl, fun w' hw' => ?h87⟩) hHeld ?r87
              case h87 =>
                go_simp
                try with_reducible rfl
              simp only [List.getElem_toArray, List.getElem_cons_succ, List.getElem_cons_zero, Act.put, List.setIfInBounds_toArray, List.set_cons_zero, List.set_cons_succ]
              refine wpAnyL_ready (rs := [1, 18]) (by kernel_rfl) (by simp) ?_
              refine (AllL.cons rfl rfl (fun K hK => ?_) (AllL.last (S2 := fun _ => True) rfl rfl (fun K hK => ?_) AllL.nil))
              · skip
                go_simp
                refine hK.out _ _ hHeld (fun hHeld => ?_)
                clear hK K
                try simp only [List.getElem_toArray, List.getElem_cons_succ, List.getElem_cons_zero, Act.put, List.setIfInBounds_toArray, List.set_cons_zero, List.set_cons_succ]
                refine wpAnyL_ready (rs := [18]) (by kernel_rfl) (by simp) ?_
                refine (AllL.last (S2 := fun _ => True) rfl rfl (fun K hK => ?_) AllL.nil)
                have c3 : Z7_8_14_15.cell? ⟨c, 3, none⟩ = some (.slice oo i oc) := by rw [cell_of_row _ _ _ _ _ _ HST.out.bk]; rfl
                have f3 := frozen_of_row Z7_8_14_15 c 3 _ _ HST.out.bk
                go_simp
                refine hK.out _ _ trivial (fun hHeld => ?_)
                clear c3 f3
                clear hK K
                try simp only [List.getElem_toArray, List.getElem_cons_succ, List.getElem_cons_zero, Act.put, List.setIfInBounds_toArray, List.set_cons_zero, List.set_cons_succ]
                refine wpAnyH_take (i := 19) (v := ?v88) rfl (by kernel_rfl) (by kernel_rfl) (by kernel_rfl) (fun _ _ _ h => h) (Or.inl ⟨rfl, fun w' hw' => ?h88⟩) hHeld ?r88
                case h88 =>
                  go_simp
                  try with_reducible rfl
                simp only [List.getElem_toArray, List.getElem_cons_succ, List.getElem_cons_zero, Act.put, List.setIfInBounds_toArray, List.set_cons_zero, List.set_cons_succ]
                refine wpAnyH_take (i := 20) (v := ?v89) rfl (by kernel_rfl) (by kernel_rfl) (by kernel_rfl) (fun _ _ _ h => h) (Or.inl ⟨rfl, fun w' hw' => ?h89⟩) hHeld ?r89
                case h89 =>
                  go_simp
                  try with_reducible rfl
                simp only [List.getElem_toArray, List.getElem_cons_succ, List.getElem_cons_zero, Act.put, List.setIfInBounds_toArray, List.set_cons_zero, List.set_cons_succ]
                refine wpAnyH_ready (rs := [21]) (by kernel_rfl) (by simp) ?_
                refine (AllReadyH.cons rfl (fun K hK => ?_) AllReadyH.nil)
                have s1 := heap_setCell_same Z7_8_14_15 c 3 _ 64 (.slice o8 (i + 1) k8) HST.out.bk
                have c4 : (Z7_8_14_15.setCell ⟨c, 3, none⟩ (.slice o8 (i + 1) k8)).cell? ⟨c, 4, none⟩ = some (.slice no i nc) := by rw [cell_of_row _ _ _ _ _ _ s1]; rfl
                have f4 := frozen_of_row _ c 4 _ _ s1
                go_simp
                refine hK.out _ _ trivial (fun hHeld => ?_)
                clear c4 f4 s1
                clear hK K
                try simp only [List.getElem_toArray, List.getElem_cons_succ, List.getElem_cons_zero, Act.put, List.setIfInBounds_toArray, List.set_cons_zero, List.set_cons_succ]
                refine wpAnyH_done (by kernel_rfl) ?_ _
                refine NoPanic.normal ?_
                clear hHeld
                obtain ⟨z1, z2, z3, z4⟩ := HST.out.fin
                have HDC := Lib.hid (HFIN.out _ _ _ z1 z2 (by rw [← HN.out]; exact z3) (by rw [← HN.out, ← HNN.out]; exact z4) HST.out.ap (fun k hk => (HST.out.ho k hk).1) (fun k hk => (HST.out.hn k hk).1))
                have hpos : pos os (addD D s) s = N := by rw [pos_addD, pos_none HNI.out, HNN.out]
                have HFW := Lib.hid (HF5.out.trans z1 (fun k hk e => .inr (.inr e)))
                have HRET : Hid (RetCd B c x y C1 C2 qs1 qs2 os m dp D Q (.slice oo i oc) (.slice no i nc) s w (.returned (.int .i64 (N : Nat))) ((Z7_8_14_15.setCell ⟨c, 3, none⟩ (.slice o8 (i + 1) k8)).setCell ⟨c, 4, none⟩ (.slice o15 (i + 1) k15))) := by
                  refine ⟨by rw [hpos], C3, [q], [ptrsOf os s], .slice o8 (i + 1) k8, .slice o15 (i + 1) k15, ?_, HOLD.out, HFW.out, .inr ⟨HNI.out, rfl⟩, fun k hk => by
                    have := HSZ.out
                    rcases hk with e | e
                    · rcases (HST.out.ho k e).1 with h1 | h1
                      · exact .inl h1
                      · exact .inr (.inr (by omega))
                    · rcases (HST.out.hn k e).1 with h1 | h1
                      · exact .inr (.inl h1)
                      · exact .inr (.inr (by omega))⟩
                  rw [addD_out HNI.out]; exact HDC.out
                clear z1 z2 z3 z4 hpos HFIN HDC HFW
                go_wp2_with fail
                go_ret
                exact HRET.out
              · skip
                have c3 : Z7_8_14_15.cell? ⟨c, 3, none⟩ = some (.slice oo i oc) := by rw [cell_of_row _ _ _ _ _ _ HST.out.bk]; rfl
                have f3 := frozen_of_row Z7_8_14_15 c 3 _ _ HST.out.bk
                go_simp
                refine hK.out _ _ trivial (fun hHeld => ?_)
                clear c3 f3
                clear hK K
                try simp only [List.getElem_toArray, List.getElem_cons_succ, List.getElem_cons_zero, Act.put, List.setIfInBounds_toArray, List.set_cons_zero, List.set_cons_succ]
                refine wpAnyH_take (i := 1) (v := ?v90) rfl (by kernel_rfl) (by kernel_rfl) (by kernel_rfl) (fun _ _ _ h => h) (Or.inl ⟨rfl, fun w' hw' => ?h90⟩) hHeld ?r90
                case h90 =>
                  go_simp
                  try with_reducible rfl
                simp only [List.getElem_toArray, List.getElem_cons_succ, List.getElem_cons_zero, Act.put, List.setIfInBounds_toArray, List.set_cons_zero, List.set_cons_succ]
                refine wpAnyH_take (i := 19) (v := ?v91) rfl (by kernel_rfl) (by kernel_rfl) (by kernel_rfl) (fun _ _ _ h => h) (Or.inl ⟨rfl, fun w' hw' => ?h91⟩) hHeld ?r91
                case h91 =>
                  go_simp
                  try with_reducible rfl
                simp only [List.getElem_toArray, List.getElem_cons_succ, List.getElem_cons_zero, Act.put, List.setIfInBounds_toArray, List.set_cons_zero, List.set_cons_succ]
                refine wpAnyH_take (i := 20) (v := ?v92) rfl (by kernel_rfl) (by kernel_rfl) (by kernel_rfl) (fun _ _ _ h => h) (Or.inl ⟨rfl, fun w' hw' => ?h92⟩) hHeld ?r92
                case h92 =>
                  go_simp
                  try with_reducible rfl
                simp only [List.getElem_toArray, List.getElem_cons_succ, List.getElem_cons_zero, Act.put, List.setIfInBounds_toArray, List.set_cons_zero, List.set_cons_succ]
                refine wpAnyH_ready (rs := [21]) (by kernel_rfl) (by simp) ?_
                refine (AllReadyH.cons rfl (fun K hK => ?_) AllReadyH.nil)
                have s1 := heap_setCell_same Z7_8_14_15 c 3 _ 64 (.slice o8 (i + 1) k8) HST.out.bk
                have c4 : (Z7_8_14_15.setCell ⟨c, 3, none⟩ (.slice o8 (i + 1) k8)).cell? ⟨c, 4, none⟩ = some (.slice no i nc) := by rw [cell_of_row _ _ _ _ _ _ s1]; rfl
                have f4 := frozen_of_row _ c 4 _ _ s1
                go_simp
                refine hK.out _ _ trivial (fun hHeld => ?_)
                clear c4 f4 s1
                clear hK K
                try simp only [List.getElem_toArray, List.getElem_cons_succ, List.getElem_cons_zero, Act.put, List.setIfInBounds_toArray, List.set_cons_zero, List.set_cons_succ]
                refine wpAnyH_done (by kernel_rfl) ?_ _
                refine NoPanic.normal ?_
                clear hHeld
                obtain ⟨z1, z2, z3, z4⟩ := HST.out.fin
                have HDC := Lib.hid (HFIN.out _ _ _ z1 z2 (by rw [← HN.out]; exact z3) (by rw [← HN.out, ← HNN.out]; exact z4) HST.out.ap (fun k hk => (HST.out.ho k hk).1) (fun k hk => (HST.out.hn k hk).1))
                have hpos : pos os (addD D s) s = N := by rw [pos_addD, pos_none HNI.out, HNN.out]
                have HFW := Lib.hid (HF5.out.trans z1 (fun k hk e => .inr (.inr e)))
                have HRET : Hid (RetCd B c x y C1 C2 qs1 qs2 os m dp D Q (.slice oo i oc) (.slice no i nc) s w (.returned (.int .i64 (N : Nat))) ((Z7_8_14_15.setCell ⟨c, 3, none⟩ (.slice o8 (i + 1) k8)).setCell ⟨c, 4, none⟩ (.slice o15 (i + 1) k15))) := by
                  refine ⟨by rw [hpos], C3, [q], [ptrsOf os s], .slice o8 (i + 1) k8, .slice o15 (i + 1) k15, ?_, HOLD.out, HFW.out, .inr ⟨HNI.out, rfl⟩, fun k hk => by
                    have := HSZ.out
                    rcases hk with e | e
                    · rcases (HST.out.ho k e).1 with h1 | h1
                      · exact .inl h1
                      · exact .inr (.inr (by omega))
                    · rcases (HST.out.hn k e).1 with h1 | h1
                      · exact .inr (.inl h1)
                      · exact .inr (.inr (by omega))⟩
                  rw [addD_out HNI.out]; exact HDC.out
                clear z1 z2 z3 z4 hpos HFIN HDC HFW
                go_wp2_with fail
                go_ret
                exact HRET.out
        · skip
          go_simp
          have b9 := (Below.refl Z7.heap.size Z7).alloc (Nat.le_refl _) (.cells #[.int .i64 (N : Int)] 3)
          have a9 := alloc_at Z7 (.cells #[.int .i64 (N : Int)] 3)
          have z9 : w5.heap.size ≤ Z7.heap.size := HST.out.fr.size
          generalize Z7.alloc (.cells #[.int .i64 (N : Int)] 3) = Z7_14 at b9 a9 ⊢
          have HST := Lib.hid (HST.out.below b9)
          have A7 := Lib.hid ((b9.block g7 (Array.getElem?_eq_some_iff.1 A7.out).1).trans A7.out)
          clear b9
          generalize Z7.heap.size = g14 at a9 z9 ⊢
          have A14 := Lib.hid a9
          have ZZ14 := Lib.hid z9
          clear a9 z9
          refine hK.out _ _ ⟨by rw [cell_of_row _ _ _ _ _ _ HST.out.bk]; rfl, by rw [cell_of_row _ _ _ _ _ _ HST.out.bk]; rfl⟩ (fun hHeld => ?_)
          clear hK K
          try simp only [List.getElem_toArray, List.getElem_cons_succ, List.getElem_cons_zero, Act.put, List.setIfInBounds_toArray, List.set_cons_zero, List.set_cons_succ]
          refine wpAnyL_ready (rs := [1, 8]) (by kernel_rfl) (by simp) ?_
          refine (AllL.cons rfl rfl (fun K hK => ?_) (AllL.cons rfl rfl (fun K hK => ?_) AllL.nil))
          · skip
            go_simp
            refine hK.out _ _ hHeld (fun hHeld => ?_)
            clear hK K
            try simp only [List.getElem_toArray, List.getElem_cons_succ, List.getElem_cons_zero, Act.put, List.setIfInBounds_toArray, List.set_cons_zero, List.set_cons_succ]
            refine wpAnyL_ready (rs := [8]) (by kernel_rfl) (by simp) ?_
            refine (AllL.cons rfl rfl (fun K hK => ?_) AllL.nil)
            refine wp_appI (Operand.tmp 70) (Operand.tmp 72) rfl B (.slice oo i oc) i _ rfl HST.out.o (.slice (some ⟨g7, 0, none⟩) 1 1) rfl 1 _ (srcA_one A7.out rfl 1) (by omega) (Nat.le_trans HBW.out HST.out.fr.size) ?_
            intro v8 Z7_8_14 hown9 hg9 hv9
            obtain ⟨o8, k8, rfl⟩ := own_sform hown9
            have A14 := Lib.hid ((hg9.block g14 (Array.getElem?_eq_some_iff.1 A14.out).1 (fun e => by have := HLT.out g14 (.inl e.symm); have := ZZ14.out; omega)).trans A14.out)
            have HST := Lib.hid (HST.out.appO hown9 hg9 hv9)
            clear hown9 hg9 hv9 A7
            refine hK.out _ _ ⟨by rw [cell_of_row _ _ _ _ _ _ HST.out.bk]; rfl, by rw [cell_of_row _ _ _ _ _ _ HST.out.bk]; rfl⟩ (fun hHeld => ?_)
            clear hK K
            try simp only [List.getElem_toArray, List.getElem_cons_succ, List.getElem_cons_zero, Act.put, List.setIfInBounds_toArray, List.set_cons_zero, List.set_cons_succ]
            refine wpAnyL_ready (rs := [15]) (by kernel_rfl) (by simp) ?_
            refine (AllL.cons rfl rfl (fun K hK => ?_) AllL.nil)
            refine wp_appI (Operand.tmp 77) (Operand.tmp 79) rfl B (.slice no i nc) i _ rfl HST.out.n (.slice (some ⟨g14, 0, none⟩) 1 1) rfl 1 _ (srcA_one A14.out rfl 1) (by omega) (Nat.le_trans HBW.out HST.out.fr.size) ?_
            intro v15 Z7_8_14_15 hown9 hg9 hv9
            obtain ⟨o15, k15, rfl⟩ := own_sform hown9
            have HST := Lib.hid (HST.out.appN hown9 hg9 hv9)
            clear hown9 hg9 hv9 A14
            refine hK.out _ _ ⟨by rw [cell_of_row _ _ _ _ _ _ HST.out.bk]; rfl, by rw [cell_of_row _ _ _ _ _ _ HST.out.bk]; rfl⟩ (fun hHeld => ?_)
            clear hK K
            try simp only [List.getElem_toArray, List.getElem_cons_succ, List.getElem_cons_zero, Act.put, List.setIfInBounds_toArray, List.set_cons_zero, List.set_cons_succ]
            refine wpAnyL_take (B := [17, 18, 19, 20, 21]) (i := 16) (v := ?v94) rfl (by kernel_rfl) (by kernel_rfl) (by kernel_rfl) (by kernel_rfl) (fun _ _ _ h => h) (Or.inl ⟨rfl, fun w' hw' => ?h94⟩) hHeld ?r94
            case h94 =>
              go_simp
              try with_reducible rfl
            simp only [List.getElem_toArray, List.getElem_cons_succ, List.getElem_cons_zero, Act.put, List.setIfInBounds_toArray, List.set_cons_zero, List.set_cons_succ]
            refine wpAnyL_take (B := [18, 19, 20, 21]) (i := 17) (v := ?v96) rfl (by kernel_rfl) (by kernel_rfl) (by kernel_rfl) (by kernel_rfl) (fun _ _ _ h => h) (Or.inl ⟨rfl, fun w' hw' => ?h96⟩) hHeld ?r96
            case h96 =>
              go_simp
              try with_reducible rfl
            simp only [List.getElem_toArray, List.getElem_cons_succ, List.getElem_cons_zero, Act.put, List.setIfInBounds_toArray, List.set_cons_zero, List.set_cons_succ]
            refine wpAnyL_ready (rs := [18]) (by kernel_rfl) (by simp) ?_
            refine (AllL.last (S2 := fun _ => True) rfl rfl (fun K hK => ?_) AllL.nil)
            have c3 : Z7_8_14_15.cell? ⟨c, 3, none⟩ = some (.slice oo i oc) := by rw [cell_of_row _ _ _ _ _ _ HST.out.bk]; rfl
            have f3 := frozen_of_row Z7_8_14_15 c 3 _ _ HST.out.bk
            go_simp
            refine hK.out _ _ trivial (fun hHeld => ?_)
            clear c3 f3
            clear hK K
            try simp only [List.getElem_toArray, List.getElem_cons_succ, List.getElem_cons_zero, Act.put, List.setIfInBounds_toArray, List.set_cons_zero, List.set_cons_succ]
            refine wpAnyH_take (i := 19) (v := ?v97) rfl (by kernel_rfl) (by kernel_rfl) (by kernel_rfl) (fun _ _ _ h => h) (Or.inl ⟨rfl, fun w' hw' => ?h97⟩) hHeld ?r97
            case h97 =>
              go_simp
              try with_reducible rfl
            simp only [List.getElem_toArray, List.getElem_cons_succ, List.getElem_cons_zero, Act.put, List.setIfInBounds_toArray, List.set_cons_zero, List.set_cons_succ]
            refine wpAnyH_take (i := 20) (v := ?v98) rfl (by kernel_rfl) (by kernel_rfl) (by kernel_rfl) (fun _ _ _ h => h) (Or.inl ⟨rfl, fun w' hw' => ?h98⟩) hHeld ?r98
            case h98 =>
              go_simp
              try with_reducible rfl
            simp only [List.getElem_toArray, List.getElem_cons_succ, List.getElem_cons_zero, Act.put, List.setIfInBounds_toArray, List.set_cons_zero, List.set_cons_succ]
            refine wpAnyH_ready (rs := [21]) (by kernel_rfl) (by simp) ?_
            refine (AllReadyH.cons rfl (fun K hK => ?_) AllReadyH.nil)
            have s1 := heap_setCell_same Z7_8_14_15 c 3 _ 64 (.slice o8 (i + 1) k8) HST.out.bk
            have c4 : (Z7_8_14_15.setCell ⟨c, 3, none⟩ (.slice o8 (i + 1) k8)).cell? ⟨c, 4, none⟩ = some (.slice no i nc) := by rw [cell_of_row _ _ _ _ _ _ s1]; rfl
            have f4 := frozen_of_row _ c 4 _ _ s1
            go_simp
            refine hK.out _ _ trivial (fun hHeld => ?_)
            clear c4 f4 s1
            clear hK K
            try simp only [List.getElem_toArray, List.getElem_cons_succ, List.getElem_cons_zero, Act.put, List.setIfInBounds_toArray, List.set_cons_zero, List.set_cons_succ]
            refine wpAnyH_done (by kernel_rfl) ?_ _
            refine NoPanic.normal ?_
            clear hHeld
            obtain ⟨z1, z2, z3, z4⟩ := HST.out.fin
            have HDC := Lib.hid (HFIN.out _ _ _ z1 z2 (by rw [← HN.out]; exact z3) (by rw [← HN.out, ← HNN.out]; exact z4) HST.out.ap (fun k hk => (HST.out.ho k hk).1) (fun k hk => (HST.out.hn k hk).1))
            have hpos : pos os (addD D s) s = N := by rw [pos_addD, pos_none HNI.out, HNN.out]
            have HFW := Lib.hid (HF5.out.trans z1 (fun k hk e => .inr (.inr e)))
            have HRET : Hid (RetCd B c x y C1 C2 qs1 qs2 os m dp D Q (.slice oo i oc) (.slice no i nc) s w (.returned (.int .i64 (N : Nat))) ((Z7_8_14_15.setCell ⟨c, 3, none⟩ (.slice o8 (i + 1) k8)).setCell ⟨c, 4, none⟩ (.slice o15 (i + 1) k15))) := by
              refine ⟨by rw [hpos], C3, [q], [ptrsOf os s], .slice o8 (i + 1) k8, .slice o15 (i + 1) k15, ?_, HOLD.out, HFW.out, .inr ⟨HNI.out, rfl⟩, fun k hk => by
                have := HSZ.out
                rcases hk with e | e
                · rcases (HST.out.ho k e).1 with h1 | h1
                  · exact .inl h1
                  · exact .inr (.inr (by omega))
                · rcases (HST.out.hn k e).1 with h1 | h1
                  · exact .inr (.inl h1)
                  · exact .inr (.inr (by omega))⟩
              rw [addD_out HNI.out]; exact HDC.out
            clear z1 z2 z3 z4 hpos HFIN HDC HFW
            go_wp2_with fail
            go_ret
            exact HRET.out
          · skip
            refine wp_appI (Operand.tmp 70) (Operand.tmp 72) rfl B (.slice oo i oc) i _ rfl HST.out.o (.slice (some ⟨g7, 0, none⟩) 1 1) rfl 1 _ (srcA_one A7.out rfl 1) (by omega) (Nat.le_trans HBW.out HST.out.fr.size) ?_
            intro v8 Z7_8_14 hown9 hg9 hv9
            obtain ⟨o8, k8, rfl⟩ := own_sform hown9
            have A14 := Lib.hid ((hg9.block g14 (Array.getElem?_eq_some_iff.1 A14.out).1 (fun e => by have := HLT.out g14 (.inl e.symm); have := ZZ14.out; omega)).trans A14.out)
            have HST := Lib.hid (HST.out.appO hown9 hg9 hv9)
            clear hown9 hg9 hv9 A7
            refine hK.out _ _ ⟨by rw [cell_of_row _ _ _ _ _ _ HST.out.bk]; rfl, by rw [cell_of_row _ _ _ _ _ _ HST.out.bk]; rfl⟩ (fun hHeld => ?_)
            clear hK K
            try simp only [List.getElem_toArray, List.getElem_cons_succ, List.getElem_cons_zero, Act.put, List.setIfInBounds_toArray, List.set_cons_zero, List.set_cons_succ]
            refine wpAnyL_ready (rs := [1, 15]) (by kernel_rfl) (by simp) ?_
            refine (AllL.cons rfl rfl (fun K hK => ?_) (AllL.cons rfl rfl (fun K hK => ?_) AllL.nil))
            · skip
              go_simp
              refine hK.out _ _ hHeld (fun hHeld => ?_)
              clear hK K
              try simp only [List.getElem_toArray, List.getElem_cons_succ, List.getElem_cons_zero, Act.put, List.setIfInBounds_toArray, List.set_cons_zero, List.set_cons_succ]
              refine wpAnyL_ready (rs := [15]) (by kernel_rfl) (by simp) ?_
              refine (AllL.cons rfl rfl (fun K hK => ?_) AllL.nil)
              refine wp_appI (Operand.tmp 77) (Operand.tmp 79) rfl B (.slice no i nc) i _ rfl HST.out.n (.slice (some ⟨g14, 0, none⟩) 1 1) rfl 1 _ (srcA_one A14.out rfl 1) (by omega) (Nat.le_trans HBW.out HST.out.fr.size) ?_
              intro v15 Z7_8_14_15 hown9 hg9 hv9
              obtain ⟨o15, k15, rfl⟩ := own_sform hown9
              have HST := Lib.hid (HST.out.appN hown9 hg9 hv9)
              clear hown9 hg9 hv9 A14
              refine hK.out _ _ ⟨by rw [cell_of_row _ _ _ _ _ _ HST.out.bk]; rfl, by rw [cell_of_row _ _ _ _ _ _ HST.out.bk]; rfl⟩ (fun hHeld => ?_)
              clear hK K
              try simp only [List.getElem_toArray, List.getElem_cons_succ, List.getElem_cons_zero, Act.put, List.setIfInBounds_toArray, List.set_cons_zero, List.set_cons_succ]
              refine wpAnyL_take (B := [17, 18, 19, 20, 21]) (i := 16) (v := ?v100) rfl (by kernel_rfl) (by kernel_rfl) (by kernel_rfl) (by kernel_rfl) (fun _ _ _ h => h) (Or.inl ⟨rfl, fun w' hw' => ?h100⟩) hHeld ?r100
              case h100 =>
                go_simp
                try with_reducible rfl
              simp only [List.getElem_toArray, List.getElem_cons_succ, List.getElem_cons_zero, Act.put, List.setIfInBounds_toArray, List.set_cons_zero, List.set_cons_succ]
              refine wpAnyL_take (B := [18, 19, 20, 21]) (i := 17) (v := ?v102) rfl (by kernel_rfl) (by kernel_rfl) (by kernel_rfl) (by kernel_rfl) (fun _ _ _ h => h) (Or.inl ⟨rfl, fun w' hw' => ?h102⟩) hHeld ?r102
              case h102 =>
                go_simp
                try with_reducible rfl
              simp only [List.getElem_toArray, List.getElem_cons_succ, List.getElem_cons_zero, Act.put, List.setIfInBounds_toArray, List.set_cons_zero, List.set_cons_succ]
              refine wpAnyL_ready (rs := [18]) (by kernel_rfl) (by simp) ?_
              refine (AllL.last (S2 := fun _ => True) rfl rfl (fun K hK => ?_) AllL.nil)
              have c3 : Z7_8_14_15.cell? ⟨c, 3, none⟩ = some (.slice oo i oc) := by rw [cell_of_row _ _ _ _ _ _ HST.out.bk]; rfl
              have f3 := frozen_of_row Z7_8_14_15 c 3 _ _ HST.out.bk
              go_simp
              refine hK.out _ _ trivial (fun hHeld => ?_)
              clear c3 f3
              clear hK K
              try simp only [List.getElem_toArray, List.getElem_cons_succ, List.getElem_cons_zero, Act.put, List.setIfInBounds_toArray, List.set_cons_zero, List.set_cons_succ]
              refine wpAnyH_take (i := 19) (v := ?v103) rfl (by kernel_rfl) (by kernel_rfl) (by kernel_rfl) (fun _ _ _ h => h) (Or.inl ⟨rfl, fun w' hw' => ?h103⟩) hHeld ?r103
              case h103 =>
                go_simp
                try with_reducible rfl
              simp only [List.getElem_toArray, List.getElem_cons_succ, List.getElem_cons_zero, Act.put, List.setIfInBounds_toArray, List.set_cons_zero, List.set_cons_succ]
              refine wpAnyH_take (i := 20) (v := ?v104) rfl (by kernel_rfl) (by kernel_rfl) (by kernel_rfl) (fun _ _ _ h => h) (Or.inl ⟨rfl, fun w' hw' => ?h104⟩) hHeld ?r104
              case h104 =>
                go_simp
                try with_reducible rfl
              simp only [List.getElem_toArray, List.getElem_cons_succ, List.getElem_cons_zero, Act.put, List.setIfInBounds_toArray, List.set_cons_zero, List.set_cons_succ]
              refine wpAnyH_ready (rs := [21]) (by kernel_rfl) (by simp) ?_
              refine (AllReadyH.cons rfl (fun K hK => ?_) AllReadyH.nil)
              have s1 := heap_setCell_same Z7_8_14_15 c 3 _ 64 (.slice o8 (i + 1) k8) HST.out.bk
              have c4 : (Z7_8_14_15.setCell ⟨c, 3, none⟩ (.slice o8 (i + 1) k8)).cell? ⟨c, 4, none⟩ = some (.slice no i nc) := by rw [cell_of_row _ _ _ _ _ _ s1]; rfl
              have f4 := frozen_of_row _ c 4 _ _ s1
              go_simp
              refine hK.out _ _ trivial (fun hHeld => ?_)
              clear c4 f4 s1
              clear hK K
              try simp only [List.getElem_toArray, List.getElem_cons_succ, List.getElem_cons_zero, Act.put, List.setIfInBounds_toArray, List.set_cons_zero, List.set_cons_succ]
              refine wpAnyH_done (by kernel_rfl) ?_ _
              refine NoPanic.normal ?_
              clear hHeld
              obtain ⟨z1, z2, z3, z4⟩ := HST.out.fin
              have HDC := Lib.hid (HFIN.out _ _ _ z1 z2 (by rw [← HN.out]; exact z3) (by rw [← HN.out, ← HNN.out]; exact z4) HST.out.ap (fun k hk => (HST.out.ho k hk).1) (fun k hk => (HST.out.hn k hk).1))
              have hpos : pos os (addD D s) s = N := by rw [pos_addD, pos_none HNI.out, HNN.out]
              have HFW := Lib.hid (HF5.out.trans z1 (fun k hk e => .inr (.inr e)))
              have HRET : Hid (RetCd B c x y C1 C2 qs1 qs2 os m dp D Q (.slice oo i oc) (.slice no i nc) s w (.returned (.int .i64 (N : Nat))) ((Z7_8_14_15.setCell ⟨c, 3, none⟩ (.slice o8 (i + 1) k8)).setCell ⟨c, 4, none⟩ (.slice o15 (i + 1) k15))) := by
                refine ⟨by rw [hpos], C3, [q], [ptrsOf os s], .slice o8 (i + 1) k8, .slice o15 (i + 1) k15, ?_, HOLD.out, HFW.out, .inr ⟨HNI.out, rfl⟩, fun k hk => by
                  have := HSZ.out
                  rcases hk with e | e
                  · rcases (HST.out.ho k e).1 with h1 | h1
                    · exact .inl h1
                    · exact .inr (.inr (by omega))
                  · rcases (HST.out.hn k e).1 with h1 | h1
                    · exact .inr (.inl h1)
                    · exact .inr (.inr (by omega))⟩
                rw [addD_out HNI.out]; exact HDC.out
              clear z1 z2 z3 z4 hpos HFIN HDC HFW
              go_wp2_with fail
              go_ret
              exact HRET.out
            · skip
              refine wp_appI (Operand.tmp 77) (Operand.tmp 79) rfl B (.slice no i nc) i _ rfl HST.out.n (.slice (some ⟨g14, 0, none⟩) 1 1) rfl 1 _ (srcA_one A14.out rfl 1) (by omega) (Nat.le_trans HBW.out HST.out.fr.size) ?_
              intro v15 Z7_8_14_15 hown9 hg9 hv9
              obtain ⟨o15, k15, rfl⟩ := own_sform hown9
              have HST := Lib.hid (HST.out.appN hown9 hg9 hv9)
              clear hown9 hg9 hv9 A14
              refine hK.out _ _ ⟨by rw [cell_of_row _ _ _ _ _ _ HST.out.bk]; rfl, by rw [cell_of_row _ _ _ _ _ _ HST.out.bk]; rfl⟩ (fun hHeld => ?_)
              clear hK K
              try simp only [List.getElem_toArray, List.getElem_cons_succ, List.getElem_cons_zero, Act.put, List.setIfInBounds_toArray, List.set_cons_zero, List.set_cons_succ]
              refine wpAnyL_take (B := [17, 18, 19, 20, 21]) (i := 16) (v := ?v106) rfl (by kernel_rfl) (by kernel_rfl) (by kernel_rfl) (by kernel_rfl) (fun _ _ _ h => h) (Or.inl ⟨rfl, fun w' hw' => ?h106⟩) hHeld ?r106
              case h106 =>
                go_simp
                try with_reducible rfl
              simp only [List.getElem_toArray, List.getElem_cons_succ, List.getElem_cons_zero, Act.put, List.setIfInBounds_toArray, List.set_cons_zero, List.set_cons_succ]
              refine wpAnyL_take (B := [18, 19, 20, 21]) (i := 17) (v := ?v108) rfl (by kernel_rfl) (by kernel_rfl) (by kernel_rfl) (by kernel_rfl) (fun _ _ _ h => h) (Or.inl ⟨rfl, fun w' hw' => ?h108⟩) hHeld ?r108
              case h108 =>
                go_simp
                try with_reducible rfl
              simp only [List.getElem_toArray, List.getElem_cons_succ, List.getElem_cons_zero, Act.put, List.setIfInBounds_toArray, List.set_cons_zero, List.set_cons_succ]
              refine wpAnyL_ready (rs := [1, 18]) (by kernel_rfl) (by simp) ?_
              refine (AllL.cons rfl rfl (fun K hK => ?_) (AllL.last (S2 := fun _ => True) rfl rfl (fun K hK => ?_) AllL.nil))
              · skip
                go_simp
                refine hK.out _ _ hHeld (fun hHeld => ?_)
                clear hK K
                try simp only [List.getElem_toArray, List.getElem_cons_succ, List.getElem_cons_zero, Act.put, List.setIfInBounds_toArray, List.set_cons_zero, List.set_cons_succ]
                refine wpAnyL_ready (rs := [18]) (by kernel_rfl) (by simp) ?_
                refine (AllL.last (S2 := fun _ => True) rfl rfl (fun K hK => ?_) AllL.nil)
                have c3 : Z7_8_14_15.cell? ⟨c, 3, none⟩ = some (.slice oo i oc) := by rw [cell_of_row _ _ _ _ _ _ HST.out.bk]; rfl
                have f3 := frozen_of_row Z7_8_14_15 c 3 _ _ HST.out.bk
                go_simp
                refine hK.out _ _ trivial (fun hHeld => ?_)
                clear c3 f3
                clear hK K
                try simp only [List.getElem_toArray, List.getElem_cons_succ, List.getElem_cons_zero, Act.put, List.setIfInBounds_toArray, List.set_cons_zero, List.set_cons_succ]
                refine wpAnyH_take (i := 19) (v := ?v109) rfl (by kernel_rfl) (by kernel_rfl) (by kernel_rfl) (fun _ _ _ h => h) (Or.inl ⟨rfl, fun w' hw' => ?h109⟩) hHeld ?r109
                case h109 =>
                  go_simp
                  try with_reducible rfl
                simp only [List.getElem_toArray, List.getElem_cons_succ, List.getElem_cons_zero, Act.put, List.setIfInBounds_toArray, List.set_cons_zero, List.set_cons_succ]
                refine wpAnyH_take (i := 20) (v := ?v110) rfl (by kernel_rfl) (by kernel_rfl) (by kernel_rfl) (fun _ _ _ h => h) (Or.inl ⟨rfl, fun w' hw' => ?h110⟩) hHeld ?r110
                case h110 =>
                  go_simp
                  try with_reducible rfl
                simp only [List.getElem_toArray, List.getElem_cons_succ, List.getElem_cons_zero, Act.put, List.setIfInBounds_toArray, List.set_cons_zero, List.set_cons_succ]
                refine wpAnyH_ready (rs := [21]) (by kernel_rfl) (by simp) ?_
                refine (AllReadyH.cons rfl (fun K hK => ?_) AllReadyH.nil)
                have s1 := heap_setCell_same Z7_8_14_15 c 3 _ 64 (.slice o8 (i + 1) k8) HST.out.bk
                have c4 : (Z7_8_14_15.setCell ⟨c, 3, none⟩ (.slice o8 (i + 1) k8)).cell? ⟨c, 4, none⟩ = some (.slice no i nc) := by rw [cell_of_row _ _ _ _ _ _ s1]; rfl
                have f4 := frozen_of_row _ c 4 _ _ s1
                go_simp
                refine hK.out _ _ trivial (fun hHeld => ?_)
                clear c4 f4 s1
                clear hK K
                try simp only [List.getElem_toArray, List.getElem_cons_succ, List.getElem_cons_zero, Act.put, List.setIfInBounds_toArray, List.set_cons_zero, List.set_cons_succ]
                refine wpAnyH_done (by kernel_rfl) ?_ _
                refine NoPanic.normal ?_
                clear hHeld
                obtain ⟨z1, z2, z3, z4⟩ := HST.out.fin
                have HDC := Lib.hid (HFIN.out _ _ _ z1 z2 (by rw [← HN.out]; exact z3) (by rw [← HN.out, ← HNN.out]; exact z4) HST.out.ap (fun k hk => (HST.out.ho k hk).1) (fun k hk => (HST.out.hn k hk).1))
                have hpos : pos os (addD D s) s = N := by rw [pos_addD, pos_none HNI.out, HNN.out]
                have HFW := Lib.hid (HF5.out.trans z1 (fun k hk e => .inr (.inr e)))
                have HRET : Hid (RetCd B c x y C1 C2 qs1 qs2 os m dp D Q (.slice oo i oc) (.slice no i nc) s w (.returned (.int .i64 (N : Nat))) ((Z7_8_14_15.setCell ⟨c, 3, none⟩ (.slice o8 (i + 1) k8)).setCell ⟨c, 4, none⟩ (.slice o15 (i + 1) k15))) := by
                  refine ⟨by rw [hpos], C3, [q], [ptrsOf os s], .slice o8 (i + 1) k8, .slice o15 (i + 1) k15, ?_, HOLD.out, HFW.out, .inr ⟨HNI.out, rfl⟩, fun k hk => by
                    have := HSZ.out
                    rcases hk with e | e
                    · rcases (HST.out.ho k e).1 with h1 | h1
                      · exact .inl h1
                      · exact .inr (.inr (by omega))
                    · rcases (HST.out.hn k e).1 with h1 | h1
                      · exact .inr (.inl h1)
                      · exact .inr (.inr (by omega))⟩
                  rw [addD_out HNI.out]; exact HDC.out
                clear z1 z2 z3 z4 hpos HFIN HDC HFW
                go_wp2_with fail
                go_ret
                exact HRET.out
              · skip
                have c3 : Z7_8_14_15.cell? ⟨c, 3, none⟩ = some (.slice oo i oc) := by rw [cell_of_row _ _ _ _ _ _ HST.out.bk]; rfl
                have f3 := frozen_of_row Z7_8_14_15 c 3 _ _ HST.out.bk
                go_simp
                refine hK.out _ _ trivial (fun hHeld => ?_)
                clear c3 f3
                clear hK K
                try simp only [List.getElem_toArray, List.getElem_cons_succ, List.getElem_cons_zero, Act.put, List.setIfInBounds_toArray, List.set_cons_zero, List.set_cons_succ]
                refine wpAnyH_take (i := 1) (v := ?v111) rfl (by kernel_rfl) (by kernel_rfl) (by kernel_rfl) (fun _ _ _ h => h) (Or.inl ⟨rfl, fun w' hw' => ?h111⟩) hHeld ?r111
                case h111 =>
                  go_simp
                  try with_reducible rfl
                simp only [List.getElem_toArray, List.getElem_cons_succ, List.getElem_cons_zero, Act.put, List.setIfInBounds_toArray, List.set_cons_zero, List.set_cons_succ]
                refine wpAnyH_take (i := 19) (v := ?v112) rfl (by kernel_rfl) (by kernel_rfl) (by kernel_rfl) (fun _ _ _ h => h) (Or.inl ⟨rfl, fun w' hw' => ?h112⟩) hHeld ?r112
                case h112 =>
                  go_simp
                  try with_reducible rfl
                simp only [List.getElem_toArray, List.getElem_cons_succ, List.getElem_cons_zero, Act.put, List.setIfInBounds_toArray, List.set_cons_zero, List.set_cons_succ]
                refine wpAnyH_take (i := 20) (v := ?v113) rfl (by kernel_rfl) (by kernel_rfl) (by kernel_rfl) (fun _ _ _ h => h) (Or.inl ⟨rfl, fun w' hw' => ?h113⟩) hHeld ?r113
                case h113 =>
                  go_simp
                  try with_reducible rfl
                simp only [List.getElem_toArray, List.getElem_cons_succ, List.getElem_cons_zero, Act.put, List.setIfInBounds_toArray, List.set_cons_zero, List.set_cons_succ]
                refine wpAnyH_ready (rs := [21]) (by kernel_rfl) (by simp) ?_
                refine (AllReadyH.cons rfl (fun K hK => ?_) AllReadyH.nil)
                have s1 := heap_setCell_same Z7_8_14_15 c 3 _ 64 (.slice o8 (i + 1) k8) HST.out.bk
                have c4 : (Z7_8_14_15.setCell ⟨c, 3, none⟩ (.slice o8 (i + 1) k8)).cell? ⟨c, 4, none⟩ = some (.slice no i nc) := by rw [cell_of_row _ _ _ _ _ _ s1]; rfl
                have f4 := frozen_of_row _ c 4 _ _ s1
                go_simp
                refine hK.out _ _ trivial (fun hHeld => ?_)
                clear c4 f4 s1
                clear hK K
                try simp only [List.getElem_toArray, List.getElem_cons_succ, List.getElem_cons_zero, Act.put, List.setIfInBounds_toArray, List.set_cons_zero, List.set_cons_succ]
                refine wpAnyH_done (by kernel_rfl) ?_ _
                refine NoPanic.normal ?_
                clear hHeld
                obtain ⟨z1, z2, z3, z4⟩ := HST.out.fin
                have HDC := Lib.hid (HFIN.out _ _ _ z1 z2 (by rw [← HN.out]; exact z3) (by rw [← HN.out, ← HNN.out]; exact z4) HST.out.ap (fun k hk => (HST.out.ho k hk).1) (fun k hk => (HST.out.hn k hk).1))
                have hpos : pos os (addD D s) s = N := by rw [pos_addD, pos_none HNI.out, HNN.out]
                have HFW := Lib.hid (HF5.out.trans z1 (fun k hk e => .inr (.inr e)))
                have HRET : Hid (RetCd B c x y C1 C2 qs1 qs2 os m dp D Q (.slice oo i oc) (.slice no i nc) s w (.returned (.int .i64 (N : Nat))) ((Z7_8_14_15.setCell ⟨c, 3, none⟩ (.slice o8 (i + 1) k8)).setCell ⟨c, 4, none⟩ (.slice o15 (i + 1) k15))) := by
                  refine ⟨by rw [hpos], C3, [q], [ptrsOf os s], .slice o8 (i + 1) k8, .slice o15 (i + 1) k15, ?_, HOLD.out, HFW.out, .inr ⟨HNI.out, rfl⟩, fun k hk => by
                    have := HSZ.out
                    rcases hk with e | e
                    · rcases (HST.out.ho k e).1 with h1 | h1
                      · exact .inl h1
                      · exact .inr (.inr (by omega))
                    · rcases (HST.out.hn k e).1 with h1 | h1
                      · exact .inr (.inl h1)
                      · exact .inr (.inr (by omega))⟩
                  rw [addD_out HNI.out]; exact HDC.out
                clear z1 z2 z3 z4 hpos HFIN HDC HFW
                go_wp2_with fail
                go_ret
                exact HRET.out
      · skip
        go_simp
        have b9 := (Below.refl X.heap.size X).alloc (Nat.le_refl _) (.cells #[.int .i64 (N : Int)] 3)
        have a9 := alloc_at X (.cells #[.int .i64 (N : Int)] 3)
        have z9 : w5.heap.size ≤ X.heap.size := HST.out.fr.size
        generalize X.alloc (.cells #[.int .i64 (N : Int)] 3) = Z14 at b9 a9 ⊢
        have HST := Lib.hid (HST.out.below b9)
        clear b9
        generalize X.heap.size = g14 at a9 z9 ⊢
        have A14 := Lib.hid a9
        have ZZ14 := Lib.hid z9
        clear a9 z9
        refine hK.out _ _ ⟨by rw [cell_of_row _ _ _ _ _ _ HST.out.bk]; rfl, by rw [cell_of_row _ _ _ _ _ _ HST.out.bk]; rfl⟩ (fun hHeld => ?_)
        clear hK K
        try simp only [List.getElem_toArray, List.getElem_cons_succ, List.getElem_cons_zero, Act.put, List.setIfInBounds_toArray, List.set_cons_zero, List.set_cons_succ]
        refine wpAnyL_ready (rs := [1, 7]) (by kernel_rfl) (by simp) ?_
        refine (AllL.cons rfl rfl (fun K hK => ?_) (AllL.cons rfl rfl (fun K hK => ?_) AllL.nil))
        · skip
          go_simp
          refine hK.out _ _ hHeld (fun hHeld => ?_)
          clear hK K
          try simp only [List.getElem_toArray, List.getElem_cons_succ, List.getElem_cons_zero, Act.put, List.setIfInBounds_toArray, List.set_cons_zero, List.set_cons_succ]
          refine wpAnyL_ready (rs := [7]) (by kernel_rfl) (by simp) ?_
          refine (AllL.cons rfl rfl (fun K hK => ?_) AllL.nil)
          go_simp
          have b9 := (Below.refl Z14.heap.size Z14).alloc (Nat.le_refl _) (.cells #[.int .i64 s] 3)
          have a9 := alloc_at Z14 (.cells #[.int .i64 s] 3)
          have z9 : w5.heap.size ≤ Z14.heap.size := HST.out.fr.size
          generalize Z14.alloc (.cells #[.int .i64 s] 3) = Z7_14 at b9 a9 ⊢
          have HST := Lib.hid (HST.out.below b9)
          have A14 := Lib.hid ((b9.block g14 (Array.getElem?_eq_some_iff.1 A14.out).1).trans A14.out)
          clear b9
          generalize Z14.heap.size = g7 at a9 z9 ⊢
          have A7 := Lib.hid a9
          have ZZ7 := Lib.hid z9
          clear a9 z9
          refine hK.out _ _ ⟨by rw [cell_of_row _ _ _ _ _ _ HST.out.bk]; rfl, by rw [cell_of_row _ _ _ _ _ _ HST.out.bk]; rfl⟩ (fun hHeld => ?_)
          clear hK K
          try simp only [List.getElem_toArray, List.getElem_cons_succ, List.getElem_cons_zero, Act.put, List.setIfInBounds_toArray, List.set_cons_zero, List.set_cons_succ]
          refine wpAnyL_ready (rs := [8]) (by kernel_rfl) (by simp) ?_
          refine (AllL.cons rfl rfl (fun K hK => ?_) AllL.nil)
          refine wp_appI (Operand.tmp 70) (Operand.tmp 72) rfl B (.slice oo i oc) i _ rfl HST.out.o (.slice (some ⟨g7, 0, none⟩) 1 1) rfl 1 _ (srcA_one A7.out rfl 1) (by omega) (Nat.le_trans HBW.out HST.out.fr.size) ?_
          intro v8 Z7_8_14 hown9 hg9 hv9
          obtain ⟨o8, k8, rfl⟩ := own_sform hown9
          have A14 := Lib.hid ((hg9.block g14 (Array.getElem?_eq_some_iff.1 A14.out).1 (fun e => by have := HLT.out g14 (.inl e.symm); have := ZZ14.out; omega)).trans A14.out)
          have HST := Lib.hid (HST.out.appO hown9 hg9 hv9)
          clear hown9 hg9 hv9 A7
          refine hK.out _ _ ⟨by rw [cell_of_row _ _ _ _ _ _ HST.out.bk]; rfl, by rw [cell_of_row _ _ _ _ _ _ HST.out.bk]; rfl⟩ (fun hHeld => ?_)
          clear hK K
          try simp only [List.getElem_toArray, List.getElem_cons_succ, List.getElem_cons_zero, Act.put, List.setIfInBounds_toArray, List.set_cons_zero, List.set_cons_succ]
          refine wpAnyL_ready (rs := [15]) (by kernel_rfl) (by simp) ?_
          refine (AllL.cons rfl rfl (fun K hK => ?_) AllL.nil)
          refine wp_appI (Operand.tmp 77) (Operand.tmp 79) rfl B (.slice no i nc) i _ rfl HST.out.n (.slice (some ⟨g14, 0, none⟩) 1 1) rfl 1 _ (srcA_one A14.out rfl 1) (by omega) (Nat.le_trans HBW.out HST.out.fr.size) ?_
          intro v15 Z7_8_14_15 hown9 hg9 hv9
          obtain ⟨o15, k15, rfl⟩ := own_sform hown9
          have HST := Lib.hid (HST.out.appN hown9 hg9 hv9)
          clear hown9 hg9 hv9 A14
          refine hK.out _ _ ⟨by rw [cell_of_row _ _ _ _ _ _ HST.out.bk]; rfl, by rw [cell_of_row _ _ _ _ _ _ HST.out.bk]; rfl⟩ (fun hHeld => ?_)
          clear hK K
          try simp only [List.getElem_toArray, List.getElem_cons_succ, List.getElem_cons_zero, Act.put, List.setIfInBounds_toArray, List.set_cons_zero, List.set_cons_succ]
          refine wpAnyL_take (B := [17, 18, 19, 20, 21]) (i := 16) (v := ?v115) rfl (by kernel_rfl) (by kernel_rfl) (by kernel_rfl) (by kernel_rfl) (fun _ _ _ h => h) (Or.inl ⟨rfl, fun w' hw' => ?h115⟩) hHeld ?r115
          case h115 =>
            go_simp
            try with_reducible rfl
          simp only [List.getElem_toArray, List.getElem_cons_succ, List.getElem_cons_zero, Act.put, List.setIfInBounds_toArray, List.set_cons_zero, List.set_cons_succ]
          refine wpAnyL_take (B := [18, 19, 20, 21]) (i := 17) (v := ?v117) rfl (by kernel_rfl) (by kernel_rfl) (by kernel_rfl) (by kernel_rfl) (fun _ _ _ h => h) (Or.inl ⟨rfl, fun w' hw' => ?h117⟩) hHeld ?r117
          case h117 =>
            go_simp
            try with_reducible rfl
          simp only [List.getElem_toArray, List.getElem_cons_succ, List.getElem_cons_zero, Act.put, List.setIfInBounds_toArray, List.set_cons_zero, List.set_cons_succ]
          refine wpAnyL_ready (rs := [18]) (by kernel_rfl) (by simp) ?_
          refine (AllL.last (S2 := fun _ => True) rfl rfl (fun K hK => ?_) AllL.nil)
          have c3 : Z7_8_14_15.cell? ⟨c, 3, none⟩ = some (.slice oo i oc) := by rw [cell_of_row _ _ _ _ _ _ HST.out.bk]; rfl
          have f3 := frozen_of_row Z7_8_14_15 c 3 _ _ HST.out.bk
          go_simp
          refine hK.out _ _ trivial (fun hHeld => ?_)
          clear c3 f3
          clear hK K
          try simp only [List.getElem_toArray, List.getElem_cons_succ, List.getElem_cons_zero, Act.put, List.setIfInBounds_toArray, List.set_cons_zero, List.set_cons_succ]
          refine wpAnyH_take (i := 19) (v := ?v118) rfl (by kernel_rfl) (by kernel_rfl) (by kernel_rfl) (fun _ _ _ h => h) (Or.inl ⟨rfl, fun w' hw' => ?h118⟩) hHeld ?r118
          case h118 =>
            go_simp
            try with_reducible rfl
          simp only [List.getElem_toArray, List.getElem_cons_succ, List.getElem_cons_zero, Act.put, List.setIfInBounds_toArray, List.set_cons_zero, List.set_cons_succ]
          refine wpAnyH_take (i := 20) (v := ?v119) rfl (by kernel_rfl) (by kernel_rfl) (by kernel_rfl) (fun _ _ _ h => h) (Or.inl ⟨rfl, fun w' hw' => ?h119⟩) hHeld ?r119
          case h119 =>
            go_simp
            try with_reducible rfl
          simp only [List.getElem_toArray, List.getElem_cons_succ, List.getElem_cons_zero, Act.put, List.setIfInBounds_toArray, List.set_cons_zero, List.set_cons_succ]
          refine wpAnyH_ready (rs := [21]) (by kernel_rfl) (by simp) ?_
          refine (AllReadyH.cons rfl (fun K hK => ?_) AllReadyH.nil)
          have s1 := heap_setCell_same Z7_8_14_15 c 3 _ 64 (.slice o8 (i + 1) k8) HST.out.bk
          have c4 : (Z7_8_14_15.setCell ⟨c, 3, none⟩ (.slice o8 (i + 1) k8)).cell? ⟨c, 4, none⟩ = some (.slice no i nc) := by rw [cell_of_row _ _ _ _ _ _ s1]; rfl
          have f4 := frozen_of_row _ c 4 _ _ s1
          go_simp
          refine hK.out _ _ trivial (fun hHeld => ?_)
          clear c4 f4 s1
          clear hK K
          try simp only [List.getElem_toArray, List.getElem_cons_succ, List.getElem_cons_zero, Act.put, List.setIfInBounds_toArray, List.set_cons_zero, List.set_cons_succ]
          refine wpAnyH_done (by kernel_rfl) ?_ _
          refine NoPanic.normal ?_
          clear hHeld
          obtain ⟨z1, z2, z3, z4⟩ := HST.out.fin
          have HDC := Lib.hid (HFIN.out _ _ _ z1 z2 (by rw [← HN.out]; exact z3) (by rw [← HN.out, ← HNN.out]; exact z4) HST.out.ap (fun k hk => (HST.out.ho k hk).1) (fun k hk => (HST.out.hn k hk).1))
          have hpos : pos os (addD D s) s = N := by rw [pos_addD, pos_none HNI.out, HNN.out]
          have HFW := Lib.hid (HF5.out.trans z1 (fun k hk e => .inr (.inr e)))
          have HRET : Hid (RetCd B c x y C1 C2 qs1 qs2 os m dp D Q (.slice oo i oc) (.slice no i nc) s w (.returned (.int .i64 (N : Nat))) ((Z7_8_14_15.setCell ⟨c, 3, none⟩ (.slice o8 (i + 1) k8)).setCell ⟨c, 4, none⟩ (.slice o15 (i + 1) k15))) := by
            refine ⟨by rw [hpos], C3, [q], [ptrsOf os s], .slice o8 (i + 1) k8, .slice o15 (i + 1) k15, ?_, HOLD.out, HFW.out, .inr ⟨HNI.out, rfl⟩, fun k hk => by
              have := HSZ.out
              rcases hk with e | e
              · rcases (HST.out.ho k e).1 with h1 | h1
                · exact .inl h1
                · exact .inr (.inr (by omega))
              · rcases (HST.out.hn k e).1 with h1 | h1
                · exact .inr (.inl h1)
                · exact .inr (.inr (by omega))⟩
            rw [addD_out HNI.out]; exact HDC.out
          clear z1 z2 z3 z4 hpos HFIN HDC HFW
          go_wp2_with fail
          go_ret
          exact HRET.out
        · skip
          go_simp
          have b9 := (Below.refl Z14.heap.size Z14).alloc (Nat.le_refl _) (.cells #[.int .i64 s] 3)
          have a9 := alloc_at Z14 (.cells #[.int .i64 s] 3)
          have z9 : w5.heap.size ≤ Z14.heap.size := HST.out.fr.size
          generalize Z14.alloc (.cells #[.int .i64 s] 3) = Z7_14 at b9 a9 ⊢
          have HST := Lib.hid (HST.out.below b9)
          have A14 := Lib.hid ((b9.block g14 (Array.getElem?_eq_some_iff.1 A14.out).1).trans A14.out)
          clear b9
          generalize Z14.heap.size = g7 at a9 z9 ⊢
          have A7 := Lib.hid a9
          have ZZ7 := Lib.hid z9
          clear a9 z9
          refine hK.out _ _ ⟨by rw [cell_of_row _ _ _ _ _ _ HST.out.bk]; rfl, by rw [cell_of_row _ _ _ _ _ _ HST.out.bk]; rfl⟩ (fun hHeld => ?_)
          clear hK K
          try simp only [List.getElem_toArray, List.getElem_cons_succ, List.getElem_cons_zero, Act.put, List.setIfInBounds_toArray, List.set_cons_zero, List.set_cons_succ]
          refine wpAnyL_ready (rs := [1, 8]) (by kernel_rfl) (by simp) ?_
          refine (AllL.cons rfl rfl (fun K hK => ?_) (AllL.cons rfl rfl (fun K hK => ?_) AllL.nil))
          · skip
            go_simp
            refine hK.out _ _ hHeld (fun hHeld => ?_)
            clear hK K
            try simp only [List.getElem_toArray, List.getElem_cons_succ, List.getElem_cons_zero, Act.put, List.setIfInBounds_toArray, List.set_cons_zero, List.set_cons_succ]
            refine wpAnyL_ready (rs := [8]) (by kernel_rfl) (by simp) ?_
            refine (AllL.cons rfl rfl (fun K hK => ?_) AllL.nil)
            refine wp_appI (Operand.tmp 70) (Operand.tmp 72) rfl B (.slice oo i oc) i _ rfl HST.out.o (.slice (some ⟨g7, 0, none⟩) 1 1) rfl 1 _ (srcA_one A7.out rfl 1) (by omega) (Nat.le_trans HBW.out HST.out.fr.size) ?_
            intro v8 Z7_8_14 hown9 hg9 hv9
            obtain ⟨o8, k8, rfl⟩ := own_sform hown9
            have A14 := Lib.hid ((hg9.block g14 (Array.getElem?_eq_some_iff.1 A14.out).1 (fun e => by have := HLT.out g14 (.inl e.symm); have := ZZ14.out; omega)).trans A14.out)
            have HST := Lib.hid (HST.out.appO hown9 hg9 hv9)
            clear hown9 hg9 hv9 A7
            refine hK.out _ _ ⟨by rw [cell_of_row _ _ _ _ _ _ HST.out.bk]; rfl, by rw [cell_of_row _ _ _ _ _ _ HST.out.bk]; rfl⟩ (fun hHeld => ?_)
            clear hK K
            try simp only [List.getElem_toArray, List.getElem_cons_succ, List.getElem_cons_zero, Act.put, List.setIfInBounds_toArray, List.set_cons_zero, List.set_cons_succ]
            refine wpAnyL_ready (rs := [15]) (by kernel_rfl) (by simp) ?_
            refine (AllL.cons rfl rfl (fun K hK => ?_) AllL.nil)
            refine wp_appI (Operand.tmp 77) (Operand.tmp 79) rfl B (.slice no i nc) i _ rfl HST.out.n (.slice (some ⟨g14, 0, none⟩) 1 1) rfl 1 _ (srcA_one A14.out rfl 1) (by omega) (Nat.le_trans HBW.out HST.out.fr.size) ?_
            intro v15 Z7_8_14_15 hown9 hg9 hv9
            obtain ⟨o15, k15, rfl⟩ := own_sform hown9
            have HST := Lib.hid (HST.out.appN hown9 hg9 hv9)
            clear hown9 hg9 hv9 A14
            refine hK.out _ _ ⟨by rw [cell_of_row _ _ _ _ _ _ HST.out.bk]; rfl, by rw [cell_of_row _ _ _ _ _ _ HST.out.bk]; rfl⟩ (fun hHeld => ?_)
            clear hK K
            try simp only [List.getElem_toArray, List.getElem_cons_succ, List.getElem_cons_zero, Act.put, List.setIfInBounds_toArray, List.set_cons_zero, List.set_cons_succ]
            refine wpAnyL_take (B := [17, 18, 19, 20, 21]) (i := 16) (v := ?v121) rfl (by kernel_rfl) (by kernel_rfl) (by kernel_rfl) (by kernel_rfl) (fun _ _ _ h => h) (Or.inl ⟨rfl, fun w' hw' => ?h121⟩) hHeld ?r121
            case h121 =>
              go_simp
              try with_reducible rfl
            simp only [List.getElem_toArray, List.getElem_cons_succ, List.getElem_cons_zero, Act.put, List.setIfInBounds_toArray, List.set_cons_zero, List.set_cons_succ]
            refine wpAnyL_take (B := [18, 19, 20, 21]) (i := 17) (v := ?v123) rfl (by kernel_rfl) (by kernel_rfl) (by kernel_rfl) (by kernel_rfl) (fun _ _ _ h => h) (Or.inl ⟨rfl, fun w' hw' => ?h123⟩) hHeld ?r123
            case h123 =>
              go_simp
              try with_reducible rfl
            simp only [List.getElem_toArray, List.getElem_cons_succ, List.getElem_cons_zero, Act.put, List.setIfInBounds_toArray, List.set_cons_zero, List.set_cons_succ]
            refine wpAnyL_ready (rs := [18]) (by kernel_rfl) (by simp) ?_
            refine (AllL.last (S2 := fun _ => True) rfl rfl (fun K hK => ?_) AllL.nil)
            have c3 : Z7_8_14_15.cell? ⟨c, 3, none⟩ = some (.slice oo i oc) := by rw [cell_of_row _ _ _ _ _ _ HST.out.bk]; rfl
            have f3 := frozen_of_row Z7_8_14_15 c 3 _ _ HST.out.bk
            go_simp
            refine hK.out _ _ trivial (fun hHeld => ?_)
            clear c3 f3
            clear hK K
            try simp only [List.getElem_toArray, List.getElem_cons_succ, List.getElem_cons_zero, Act.put, List.setIfInBounds_toArray, List.set_cons_zero, List.set_cons_succ]
            refine wpAnyH_take (i := 19) (v := ?v124) rfl (by kernel_rfl) (by kernel_rfl) (by kernel_rfl) (fun _ _ _ h => h) (Or.inl ⟨rfl, fun w' hw' => ?h124⟩) hHeld ?r124
            case h124 =>
              go_simp
              try with_reducible rfl
            simp only [List.getElem_toArray, List.getElem_cons_succ, List.getElem_cons_zero, Act.put, List.setIfInBounds_toArray, List.set_cons_zero, List.set_cons_succ]
            refine wpAnyH_take (i := 20) (v := ?v125) rfl (by kernel_rfl) (by kernel_rfl) (by kernel_rfl) (fun _ _ _ h => h) (Or.inl ⟨rfl, fun w' hw' => ?h125⟩) hHeld ?r125
            case h125 =>
              go_simp
              try with_reducible rfl
            simp only [List.getElem_toArray, List.getElem_cons_succ, List.getElem_cons_zero, Act.put, List.setIfInBounds_toArray, List.set_cons_zero, List.set_cons_succ]
            refine wpAnyH_ready (rs := [21]) (by kernel_rfl) (by simp) ?_
            refine (AllReadyH.cons rfl (fun K hK => ?_) AllReadyH.nil)
            have s1 := heap_setCell_same Z7_8_14_15 c 3 _ 64 (.slice o8 (i + 1) k8) HST.out.bk
            have c4 : (Z7_8_14_15.setCell ⟨c, 3, none⟩ (.slice o8 (i + 1) k8)).cell? ⟨c, 4, none⟩ = some (.slice no i nc) := by rw [cell_of_row _ _ _ _ _ _ s1]; rfl
            have f4 := frozen_of_row _ c 4 _ _ s1
            go_simp
            refine hK.out _ _ trivial (fun hHeld => ?_)
            clear c4 f4 s1
            clear hK K
            try simp only [List.getElem_toArray, List.getElem_cons_succ, List.getElem_cons_zero, Act.put, List.setIfInBounds_toArray, List.set_cons_zero, List.set_cons_succ]
            refine wpAnyH_done (by kernel_rfl) ?_ _
            refine NoPanic.normal ?_
            clear hHeld
            obtain ⟨z1, z2, z3, z4⟩ := HST.out.fin
            have HDC := Lib.hid (HFIN.out _ _ _ z1 z2 (by rw [← HN.out]; exact z3) (by rw [← HN.out, ← HNN.out]; exact z4) HST.out.ap (fun k hk => (HST.out.ho k hk).1) (fun k hk => (HST.out.hn k hk).1))
            have hpos : pos os (addD D s) s = N := by rw [pos_addD, pos_none HNI.out, HNN.out]
            have HFW := Lib.hid (HF5.out.trans z1 (fun k hk e => .inr (.inr e)))
            have HRET : Hid (RetCd B c x y C1 C2 qs1 qs2 os m dp D Q (.slice oo i oc) (.slice no i nc) s w (.returned (.int .i64 (N : Nat))) ((Z7_8_14_15.setCell ⟨c, 3, none⟩ (.slice o8 (i + 1) k8)).setCell ⟨c, 4, none⟩ (.slice o15 (i + 1) k15))) := by
              refine ⟨by rw [hpos], C3, [q], [ptrsOf os s], .slice o8 (i + 1) k8, .slice o15 (i + 1) k15, ?_, HOLD.out, HFW.out, .inr ⟨HNI.out, rfl⟩, fun k hk => by
                have := HSZ.out
                rcases hk with e | e
                · rcases (HST.out.ho k e).1 with h1 | h1
                  · exact .inl h1
                  · exact .inr (.inr (by omega))
                · rcases (HST.out.hn k e).1 with h1 | h1
                  · exact .inr (.inl h1)
                  · exact .inr (.inr (by omega))⟩
              rw [addD_out HNI.out]; exact HDC.out
            clear z1 z2 z3 z4 hpos HFIN HDC HFW
            go_wp2_with fail
            go_ret
            exact HRET.out
          · skip
            refine wp_appI (Operand.tmp 70) (Operand.tmp 72) rfl B (.slice oo i oc) i _ rfl HST.out.o (.slice (some ⟨g7, 0, none⟩) 1 1) rfl 1 _ (srcA_one A7.out rfl 1) (by omega) (Nat.le_trans HBW.out HST.out.fr.size) ?_
            intro v8 Z7_8_14 hown9 hg9 hv9
            obtain ⟨o8, k8, rfl⟩ := own_sform hown9
            have A14 := Lib.hid ((hg9.block g14 (Array.getElem?_eq_some_iff.1 A14.out).1 (fun e => by have := HLT.out g14 (.inl e.symm); have := ZZ14.out; omega)).trans A14.out)
            have HST := Lib.hid (HST.out.appO hown9 hg9 hv9)
            clear hown9 hg9 hv9 A7
            refine hK.out _ _ ⟨by rw [cell_of_row _ _ _ _ _ _ HST.out.bk]; rfl, by rw [cell_of_row _ _ _ _ _ _ HST.out.bk]; rfl⟩ (fun hHeld => ?_)
            clear hK K
            try simp only [List.getElem_toArray, List.getElem_cons_succ, List.getElem_cons_zero, Act.put, List.setIfInBounds_toArray, List.set_cons_zero, List.set_cons_succ]
            refine wpAnyL_ready (rs := [1, 15]) (by kernel_rfl) (by simp) ?_
            refine (AllL.cons rfl rfl (fun K hK => ?_) (AllL.cons rfl rfl (fun K hK => ?_) AllL.nil))
            · skip
              go_simp
              refine hK.out _ _ hHeld (fun hHeld => ?_)
              clear hK K
              try simp only [List.getElem_toArray, List.getElem_cons_succ, List.getElem_cons_zero, Act.put, List.setIfInBounds_toArray, List.set_cons_zero, List.set_cons_succ]
              refine wpAnyL_ready (rs := [15]) (by kernel_rfl) (by simp) ?_
              refine (AllL.cons rfl rfl (fun K hK => ?_) AllL.nil)
              refine wp_appI (Operand.tmp 77) (Operand.tmp 79) rfl B (.slice no i nc) i _ rfl HST.out.n (.slice (some ⟨g14, 0, none⟩) 1 1) rfl 1 _ (srcA_one A14.out rfl 1) (by omega) (Nat.le_trans HBW.out HST.out.fr.size) ?_
              intro v15 Z7_8_14_15 hown9 hg9 hv9
              obtain ⟨o15, k15, rfl⟩ := own_sform hown9
              have HST := Lib.hid (HST.out.appN hown9 hg9 hv9)
              clear hown9 hg9 hv9 A14
              refine hK.out _ _ ⟨by rw [cell_of_row _ _ _ _ _ _ HST.out.bk]; rfl, by rw [cell_of_row _ _ _ _ _ _ HST.out.bk]; rfl⟩ (fun hHeld => ?_)
              clear hK K
              try simp only [List.getElem_toArray, List.getElem_cons_succ, List.getElem_cons_zero, Act.put, List.setIfInBounds_toArray, List.set_cons_zero, List.set_cons_succ]
              refine wpAnyL_take (B := [17, 18, 19, 20, 21]) (i := 16) (v := ?v127) rfl (by kernel_rfl) (by kernel_rfl) (by kernel_rfl) (by kernel_rfl) (fun _ _ _ h => h) (Or.inl ⟨rfl, fun w' hw' => ?h127⟩) hHeld ?r127
              case h127 =>
                go_simp
                try with_reducible rfl
              simp only [List.getElem_toArray, List.getElem_cons_succ, List.getElem_cons_zero, Act.put, List.setIfInBounds_toArray, List.set_cons_zero, List.set_cons_succ]
              refine wpAnyL_take (B := [18, 19, 20, 21]) (i := 17) (v := ?v129) rfl (by kernel_rfl) (by kernel_rfl) (by kernel_rfl) (by kernel_rfl) (fun _ _ _ h => h) (Or.inl ⟨rfl, fun w' hw' => ?h129⟩) hHeld ?r129
              case h129 =>
                go_simp
                try with_reducible rfl
              simp only [List.getElem_toArray, List.getElem_cons_succ, List.getElem_cons_zero, Act.put, List.setIfInBounds_toArray, List.set_cons_zero, List.set_cons_succ]
              refine wpAnyL_ready (rs := [18]) (by kernel_rfl) (by simp) ?_
              refine (AllL.last (S2 := fun _ => True) rfl rfl (fun K hK => ?_) AllL.nil)
              have c3 : Z7_8_14_15.cell? ⟨c, 3, none⟩ = some (.slice oo i oc) := by rw [cell_of_row _ _ _ _ _ _ HST.out.bk]; rfl
              have f3 := frozen_of_row Z7_8_14_15 c 3 _ _ HST.out.bk
              go_simp
              refine hK.out _ _ trivial (fun hHeld => ?_)
              clear c3 f3
              clear hK K
              try simp only [List.getElem_toArray, List.getElem_cons_succ, List.getElem_cons_zero, Act.put, List.setIfInBounds_toArray, List.set_cons_zero, List.set_cons_succ]
              refine wpAnyH_take (i := 19) (v := ?v130) rfl (by kernel_rfl) (by kernel_rfl) (by kernel_rfl) (fun _ _ _ h => h) (Or.inl ⟨rfl, fun w' hw' => ?h130⟩) hHeld ?r130
              case h130 =>
                go_simp
                try with_reducible rfl
              simp only [List.getElem_toArray, List.getElem_cons_succ, List.getElem_cons_zero, Act.put, List.setIfInBounds_toArray, List.set_cons_zero, List.set_cons_succ]
              refine wpAnyH_take (i := 20) (v := ?v131) rfl (by kernel_rfl) (by kernel_rfl) (by kernel_rfl) (fun _ _ _ h => h) (Or.inl ⟨rfl, fun w' hw' => ?h131⟩) hHeld ?r131
              case h131 =>
                go_simp
                try with_reducible rfl
              simp only [List.getElem_toArray, List.getElem_cons_succ, List.getElem_cons_zero, Act.put, List.setIfInBounds_toArray, List.set_cons_zero, List.set_cons_succ]
              refine wpAnyH_ready (rs := [21]) (by kernel_rfl) (by simp) ?_
              refine (AllReadyH.cons rfl (fun K hK => ?_) AllReadyH.nil)
              have s1 := heap_setCell_same Z7_8_14_15 c 3 _ 64 (.slice o8 (i + 1) k8) HST.out.bk
              have c4 : (Z7_8_14_15.setCell ⟨c, 3, none⟩ (.slice o8 (i + 1) k8)).cell? ⟨c, 4, none⟩ = some (.slice no i nc) := by rw [cell_of_row _ _ _ _ _ _ s1]; rfl
              have f4 := frozen_of_row _ c 4 _ _ s1
              go_simp
              refine hK.out _ _ trivial (fun hHeld => ?_)
              clear c4 f4 s1
              clear hK K
              try simp only [List.getElem_toArray, List.getElem_cons_succ, List.getElem_cons_zero, Act.put, List.setIfInBounds_toArray, List.set_cons_zero, List.set_cons_succ]
              refine wpAnyH_done (by kernel_rfl) ?_ _
              refine NoPanic.normal ?_
              clear hHeld
              obtain ⟨z1, z2, z3, z4⟩ := HST.out.fin
              have HDC := Lib.hid (HFIN.out _ _ _ z1 z2 (by rw [← HN.out]; exact z3) (by rw [← HN.out, ← HNN.out]; exact z4) HST.out.ap (fun k hk => (HST.out.ho k hk).1) (fun k hk => (HST.out.hn k hk).1))
              have hpos : pos os (addD D s) s = N := by rw [pos_addD, pos_none HNI.out, HNN.out]
              have HFW := Lib.hid (HF5.out.trans z1 (fun k hk e => .inr (.inr e)))
              have HRET : Hid (RetCd B c x y C1 C2 qs1 qs2 os m dp D Q (.slice oo i oc) (.slice no i nc) s w (.returned (.int .i64 (N : Nat))) ((Z7_8_14_15.setCell ⟨c, 3, none⟩ (.slice o8 (i + 1) k8)).setCell ⟨c, 4, none⟩ (.slice o15 (i + 1) k15))) := by
                refine ⟨by rw [hpos], C3, [q], [ptrsOf os s], .slice o8 (i + 1) k8, .slice o15 (i + 1) k15, ?_, HOLD.out, HFW.out, .inr ⟨HNI.out, rfl⟩, fun k hk => by
                  have := HSZ.out
                  rcases hk with e | e
                  · rcases (HST.out.ho k e).1 with h1 | h1
                    · exact .inl h1
                    · exact .inr (.inr (by omega))
                  · rcases (HST.out.hn k e).1 with h1 | h1
                    · exact .inr (.inl h1)
                    · exact .inr (.inr (by omega))⟩
                rw [addD_out HNI.out]; exact HDC.out
              clear z1 z2 z3 z4 hpos HFIN HDC HFW
              go_wp2_with fail
              go_ret
              exact HRET.out
            · skip
              refine wp_appI (Operand.tmp 77) (Operand.tmp 79) rfl B (.slice no i nc) i _ rfl HST.out.n (.slice (some ⟨g14, 0, none⟩) 1 1) rfl 1 _ (srcA_one A14.out rfl 1) (by omega) (Nat.le_trans HBW.out HST.out.fr.size) ?_
              intro v15 Z7_8_14_15 hown9 hg9 hv9
              obtain ⟨o15, k15, rfl⟩ := own_sform hown9
              have HST := Lib.hid (HST.out.appN hown9 hg9 hv9)
              clear hown9 hg9 hv9 A14
              refine hK.out _ _ ⟨by rw [cell_of_row _ _ _ _ _ _ HST.out.bk]; rfl, by rw [cell_of_row _ _ _ _ _ _ HST.out.bk]; rfl⟩ (fun hHeld => ?_)
              clear hK K
              try simp only [List.getElem_toArray, List.getElem_cons_succ, List.getElem_cons_zero, Act.put, List.setIfInBounds_toArray, List.set_cons_zero, List.set_cons_succ]
              refine wpAnyL_take (B := [17, 18, 19, 20, 21]) (i := 16) (v := ?v133) rfl (by kernel_rfl) (by kernel_rfl) (by kernel_rfl) (by kernel_rfl) (fun _ _ _ h => h) (Or.inl ⟨rfl, fun w' hw' => ?h133⟩) hHeld ?r133
              case h133 =>
                go_simp
                try with_reducible rfl
              simp only [List.getElem_toArray, List.getElem_cons_succ, List.getElem_cons_zero, Act.put, List.setIfInBounds_toArray, List.set_cons_zero, List.set_cons_succ]
              refine wpAnyL_take (B := [18, 19, 20, 21]) (i := 17) (v := ?v135) rfl (by kernel_rfl) (by kernel_rfl) (by kernel_rfl) (by kernel_rfl) (fun _ _ _ h => h) (Or.inl ⟨rfl, fun w' hw' => ?h135⟩) hHeld ?r135
              case h135 =>
                go_simp
                try with_reducible rfl
              simp only [List.getElem_toArray, List.getElem_cons_succ, List.getElem_cons_zero, Act.put, List.setIfInBounds_toArray, List.set_cons_zero, List.set_cons_succ]
              refine wpAnyL_ready (rs := [1, 18]) (by kernel_rfl) (by simp) ?_
              refine (AllL.cons rfl rfl (fun K hK => ?_) (AllL.last (S2 := fun _ => True) rfl rfl (fun K hK => ?_) AllL.nil))
              · skip
                go_simp
                refine hK.out _ _ hHeld (fun hHeld => ?_)
                clear hK K
                try simp only [List.getElem_toArray, List.getElem_cons_succ, List.getElem_cons_zero, Act.put, List.setIfInBounds_toArray, List.set_cons_zero, List.set_cons_succ]
                refine wpAnyL_ready (rs := [18]) (by kernel_rfl) (by simp) ?_
                refine (AllL.last (S2 := fun _ => True) rfl rfl (fun K hK => ?_) AllL.nil)
                have c3 : Z7_8_14_15.cell? ⟨c, 3, none⟩ = some (.slice oo i oc) := by rw [cell_of_row _ _ _ _ _ _ HST.out.bk]; rfl
                have f3 := frozen_of_row Z7_8_14_15 c 3 _ _ HST.out.bk
                go_simp
                refine hK.out _ _ trivial (fun hHeld => ?_)
                clear c3 f3
                clear hK K
                try simp only [List.getElem_toArray, List.getElem_cons_succ, List.getElem_cons_zero, Act.put, List.setIfInBounds_toArray, List.set_cons_zero, List.set_cons_succ]
                refine wpAnyH_take (i := 19) (v := ?v136) rfl (by kernel_rfl) (by kernel_rfl) (by kernel_rfl) (fun _ _ _ h => h) (Or.inl ⟨rfl, fun w' hw' => ?h136⟩) hHeld ?r136
                case h136 =>
                  go_simp
                  try with_reducible rfl
                simp only [List.getElem_toArray, List.getElem_cons_succ, List.getElem_cons_zero, Act.put, List.setIfInBounds_toArray, List.set_cons_zero, List.set_cons_succ]
                refine wpAnyH_take (i := 20) (v := ?v137) rfl (by kernel_rfl) (by kernel_rfl) (by kernel_rfl) (fun _ _ _ h => h) (Or.inl ⟨rfl, fun w' hw' => ?h137⟩) hHeld ?r137
                case h137 =>
                  go_simp
                  try with_reducible rfl
                simp only [List.getElem_toArray, List.getElem_cons_succ, List.getElem_cons_zero, Act.put, List.setIfInBounds_toArray, List.set_cons_zero, List.set_cons_succ]
                refine wpAnyH_ready (rs := [21]) (by kernel_rfl) (by simp) ?_
                refine (AllReadyH.cons rfl (fun K hK => ?_) AllReadyH.nil)
                have s1 := heap_setCell_same Z7_8_14_15 c 3 _ 64 (.slice o8 (i + 1) k8) HST.out.bk
                have c4 : (Z7_8_14_15.setCell ⟨c, 3, none⟩ (.slice o8 (i + 1) k8)).cell? ⟨c, 4, none⟩ = some (.slice no i nc) := by rw [cell_of_row _ _ _ _ _ _ s1]; rfl
                have f4 := frozen_of_row _ c 4 _ _ s1
                go_simp
                refine hK.out _ _ trivial (fun hHeld => ?_)
                clear c4 f4 s1
                clear hK K
                try simp only [List.getElem_toArray, List.getElem_cons_succ, List.getElem_cons_zero, Act.put, List.setIfInBounds_toArray, List.set_cons_zero, List.set_cons_succ]
                refine wpAnyH_done (by kernel_rfl) ?_ _
                refine NoPanic.normal ?_
                clear hHeld
                obtain ⟨z1, z2, z3, z4⟩ := HST.out.fin
                have HDC := Lib.hid (HFIN.out _ _ _ z1 z2 (by rw [← HN.out]; exact z3) (by rw [← HN.out, ← HNN.out]; exact z4) HST.out.ap (fun k hk => (HST.out.ho k hk).1) (fun k hk => (HST.out.hn k hk).1))
                have hpos : pos os (addD D s) s = N := by rw [pos_addD, pos_none HNI.out, HNN.out]
                have HFW := Lib.hid (HF5.out.trans z1 (fun k hk e => .inr (.inr e)))
                have HRET : Hid (RetCd B c x y C1 C2 qs1 qs2 os m dp D Q (.slice oo i oc) (.slice no i nc) s w (.returned (.int .i64 (N : Nat))) ((Z7_8_14_15.setCell ⟨c, 3, none⟩ (.slice o8 (i + 1) k8)).setCell ⟨c, 4, none⟩ (.slice o15 (i + 1) k15))) := by
                  refine ⟨by rw [hpos], C3, [q], [ptrsOf os s], .slice o8 (i + 1) k8, .slice o15 (i + 1) k15, ?_, HOLD.out, HFW.out, .inr ⟨HNI.out, rfl⟩, fun k hk => by
                    have := HSZ.out
                    rcases hk with e | e
                    · rcases (HST.out.ho k e).1 with h1 | h1
                      · exact .inl h1
                      · exact .inr (.inr (by omega))
                    · rcases (HST.out.hn k e).1 with h1 | h1
                      · exact .inr (.inl h1)
                      · exact .inr (.inr (by omega))⟩
                  rw [addD_out HNI.out]; exact HDC.out
                clear z1 z2 z3 z4 hpos HFIN HDC HFW
                go_wp2_with fail
                go_ret
                exact HRET.out
              · skip
                have c3 : Z7_8_14_15.cell? ⟨c, 3, none⟩ = some (.slice oo i oc) := by rw [cell_of_row _ _ _ _ _ _ HST.out.bk]; rfl
                have f3 := frozen_of_row Z7_8_14_15 c 3 _ _ HST.out.bk
                go_simp
                refine hK.out _ _ trivial (fun hHeld => ?_)
                clear c3 f3
                clear hK K
                try simp only [List.getElem_toArray, List.getElem_cons_succ, List.getElem_cons_zero, Act.put, List.setIfInBounds_toArray, List.set_cons_zero, List.set_cons_succ]
                refine wpAnyH_take (i := 1) (v := ?v138) rfl (by kernel_rfl) (by kernel_rfl) (by kernel_rfl) (fun _ _ _ h => h) (Or.inl ⟨rfl, fun w' hw' => ?h138⟩) hHeld ?r138
                case h138 =>
                  go_simp
                  try with_reducible rfl
                simp only [List.getElem_toArray, List.getElem_cons_succ, List.getElem_cons_zero, Act.put, List.setIfInBounds_toArray, List.set_cons_zero, List.set_cons_succ]
                refine wpAnyH_take (i := 19) (v := ?v139) rfl (by kernel_rfl) (by kernel_rfl) (by kernel_rfl) (fun _ _ _ h => h) (Or.inl ⟨rfl, fun w' hw' => ?h139⟩) hHeld ?r139
                case h139 =>
                  go_simp
                  try with_reducible rfl
                simp only [List.getElem_toArray, List.getElem_cons_succ, List.getElem_cons_zero, Act.put, List.setIfInBounds_toArray, List.set_cons_zero, List.set_cons_succ]
                refine wpAnyH_take (i := 20) (v := ?v140) rfl (by kernel_rfl) (by kernel_rfl) (by kernel_rfl) (fun _ _ _ h => h) (Or.inl ⟨rfl, fun w' hw' => ?h140⟩) hHeld ?r140
                case h140 =>
                  go_simp
                  try with_reducible rfl
                simp only [List.getElem_toArray, List.getElem_cons_succ, List.getElem_cons_zero, Act.put, List.setIfInBounds_toArray, List.set_cons_zero, List.set_cons_succ]
                refine wpAnyH_ready (rs := [21]) (by kernel_rfl) (by simp) ?_
                refine (AllReadyH.cons rfl (fun K hK => ?_) AllReadyH.nil)
                have s1 := heap_setCell_same Z7_8_14_15 c 3 _ 64 (.slice o8 (i + 1) k8) HST.out.bk
                have c4 : (Z7_8_14_15.setCell ⟨c, 3, none⟩ (.slice o8 (i + 1) k8)).cell? ⟨c, 4, none⟩ = some (.slice no i nc) := by rw [cell_of_row _ _ _ _ _ _ s1]; rfl
                have f4 := frozen_of_row _ c 4 _ _ s1
                go_simp
                refine hK.out _ _ trivial (fun hHeld => ?_)
                clear c4 f4 s1
                clear hK K
                try simp only [List.getElem_toArray, List.getElem_cons_succ, List.getElem_cons_zero, Act.put, List.setIfInBounds_toArray, List.set_cons_zero, List.set_cons_succ]
                refine wpAnyH_done (by kernel_rfl) ?_ _
                refine NoPanic.normal ?_
                clear hHeld
                obtain ⟨z1, z2, z3, z4⟩ := HST.out.fin
                have HDC := Lib.hid (HFIN.out _ _ _ z1 z2 (by rw [← HN.out]; exact z3) (by rw [← HN.out, ← HNN.out]; exact z4) HST.out.ap (fun k hk => (HST.out.ho k hk).1) (fun k hk => (HST.out.hn k hk).1))
                have hpos : pos os (addD D s) s = N := by rw [pos_addD, pos_none HNI.out, HNN.out]
                have HFW := Lib.hid (HF5.out.trans z1 (fun k hk e => .inr (.inr e)))
                have HRET : Hid (RetCd B c x y C1 C2 qs1 qs2 os m dp D Q (.slice oo i oc) (.slice no i nc) s w (.returned (.int .i64 (N : Nat))) ((Z7_8_14_15.setCell ⟨c, 3, none⟩ (.slice o8 (i + 1) k8)).setCell ⟨c, 4, none⟩ (.slice o15 (i + 1) k15))) := by
                  refine ⟨by rw [hpos], C3, [q], [ptrsOf os s], .slice o8 (i + 1) k8, .slice o15 (i + 1) k15, ?_, HOLD.out, HFW.out, .inr ⟨HNI.out, rfl⟩, fun k hk => by
                    have := HSZ.out
                    rcases hk with e | e
                    · rcases (HST.out.ho k e).1 with h1 | h1
                      · exact .inl h1
                      · exact .inr (.inr (by omega))
                    · rcases (HST.out.hn k e).1 with h1 | h1
                      · exact .inr (.inl h1)
                      · exact .inr (.inr (by omega))⟩
                  rw [addD_out HNI.out]; exact HDC.out
                clear z1 z2 z3 z4 hpos HFIN HDC HFW
                go_wp2_with fail
                go_ret
                exact HRET.out
end Go.Proofs.Ytkekekdkfjjifaa
