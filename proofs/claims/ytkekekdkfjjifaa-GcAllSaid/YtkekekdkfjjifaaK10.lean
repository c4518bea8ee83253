/- copyOf. -/
import Derived.Test.YtkekekdkfjjifaaZM
namespace Go.Proofs.Ytkekekdkfjjifaa
open Go Go.RowKit
set_option linter.unusedVariables false
set_option linter.unusedSimpArgs false
def RetC (x : Int) (B : Nat) (C : Nat → Nat) (c b : Nat) (G : Option Nat) (os : List Ob) (m dp eb pb b2 kb : Nat) (D' : List Int) (Q : List (List Int)) (w : World) (e : Ending) (w' : World) : Prop :=
  e = .returned (.int .i64 x) ∧ ∃ C' pk' G2' dv' E, Cop B w' C' c b G os m dp eb pb pk' b2 G2' kb dv' D' (Q ++ E) ∧ Cst C w C' w'
theorem bey_total (os : List Ob) (n : Nat) : (List.replicate n ((total os : Nat) : Int)).any (bey os) = false := by
  rw [List.any_eq_false]
  intro x hx
  rw [(List.mem_replicate.1 hx).2]
  simp [bey]
theorem IRw.isS {w : World} {g : Nat} {l : List Int} (h : IRw w g l) {n : Nat} (hn : n = l.length) : IsS w (.slice (some ⟨g, 0, none⟩) n n) l := by subst hn; exact block_isS h
theorem Cop.room {B : Nat} {w : World} {C : Nat → Nat} {c b : Nat} {G : Option Nat} {os : List Ob} {m dp eb pb : Nat} {pk : List (Option Nat)} {b2 : Nat} {G2 : Option Nat} {kb : Nat} {dv : Value} {D : List Int} {Q : List (List Int)} (h : Cop B w C c b G os m dp eb pb pk b2 G2 kb dv D Q)
    {e : Nat} (he : Vd os e) (hn : (e : Int) ∉ D) {q : List Int} (hq : q.length = (ptrsOf os e).length) : total (cps os D Q) + sizeF q (numsOf os e) ≤ m := by
  have hnd : (D ++ [(e : Int)]).Nodup := by rw [List.nodup_append]; exact ⟨h.nd, by simp, fun a ha b' hb => by simp at hb; subst hb; exact fun e2 => hn (e2 ▸ ha)⟩
  have h1 := sm_total h.memo.1.hp.2.1 hnd (fun d hd => by
    rcases List.mem_append.1 hd with hd | hd
    · exact h.vd d hd
    · simp at hd; subst hd; exact he)
  rw [sm_app] at h1
  have h2 := h.memo.1.hp.2.2.2.2
  rw [cps_total h.lk]
  have e1 : sm (sz os) [(e : Int)] = sz os e := by simp [sm]
  have e2 : sz os e = max 2 (1 + q.length + (numsOf os e).length) := by unfold sz; rw [hq]
  rw [e1, e2] at h1
  unfold sizeF
  omega
theorem Cop.apart {B : Nat} {w : World} {C : Nat → Nat} {c b : Nat} {G : Option Nat} {os : List Ob} {m dp eb pb : Nat} {pk : List (Option Nat)} {b2 : Nat} {G2 : Option Nat} {kb : Nat} {dv : Value} {D : List Int} {Q : List (List Int)} (h : Cop B w C c b G os m dp eb pb pk b2 G2 kb dv D Q)
    {g n k : Nat} (hg : w.heap.size ≤ g) : Apart (.slice (some ⟨g, 0, none⟩) n k) b2 G2 :=
  apart_lt rfl (by have := h.new.1.lt; omega) (fun e => by have := (h.new.1.glt _ e).1; omega)
theorem blk_grown {W W' w10 : World} {c : Nat} {r : Option Nat} {o : Obj} (h : W.heap[c]? = some o) (hb : Below W.heap.size W W') (hg : W'.grownBy w10 r) (hn : r ≠ some c) : w10.heap[c]? = some o := by
  have h1 := (Array.getElem?_eq_some_iff.1 h).1
  exact ((Fr.grown hg).block c (by have := hb.size; omega) hn).trans ((hb.block c h1).trans h)
theorem cell_grown {W W' w10 : World} {g j : Nat} {r : Option Nat} {v : Value} (h : W.cell? ⟨g, j, none⟩ = some v) (hb : Below W.heap.size W W') (hg : W'.grownBy w10 r) (hn : r ≠ some g) : w10.cell? ⟨g, j, none⟩ = some v := by
  have h1 : g < W.heap.size := World.block_lt_of_cell? W _ h
  rw [← h]
  exact World.cell?_of_block (w := W) (((Fr.grown hg).block g (by have := hb.size; omega) hn).trans (hb.block g h1))
theorem apart_own2 {w0 w1 : World} {b2 : Nat} {G2 : Option Nat} (hb : b2 < w0.heap.size) (hG : ∀ k, G2 = some k → k < w0.heap.size) {v : Value} {n : Nat} {xs : List Value} (ho : w1.ownsRow w0.heap.size 3 1 v n xs) : Apart v b2 G2 := by
  intro ao k cp g o e hk e2
  have h1 : v.ownBlock = some g := by
    rcases ho.2 with ⟨rfl, _⟩ | ⟨g1, cap, cur, rfl, _⟩
    · cases e; cases e2
    · cases e; cases e2; rfl
  have := (ho.lt g h1).1
  exact ⟨by omega, fun e => by have := hG g e; omega⟩
set_option maxHeartbeats 16000000 in
set_option maxRecDepth 100000 in
theorem copyOf_any {B : Nat} {w : World} {C : Nat → Nat} {c b : Nat} {G : Option Nat} {os : List Ob} {m dp eb pb : Nat} {pk : List (Option Nat)} {b2 : Nat} {G2 : Option Nat} {kb : Nat} {dv : Value} {D : List Int} {Q : List (List Int)} (h : Cop B w C c b G os m dp eb pb pk b2 G2 kb dv D Q) (a : Int) (ha : Vd os a) :
    Calls Try.prog 65 #[.pointer (some ⟨c, 0, none⟩), .int .i64 a] w (RetC (pos os D a) B C c b G os m dp eb pb b2 kb (addD D a) Q w) := by
  have hvp := vd_lt ha
  obtain ⟨e, rfl⟩ : ∃ e : Nat, a = e := ⟨a.toNat, by omega⟩
  obtain ⟨ks, k1, k2, k3⟩ := h.k
  obtain ⟨v, hv⟩ : ∃ v, ks[e]? = some v := ⟨_, List.getElem?_eq_getElem (by omega)⟩
  have hval := k3 e v hv ha
  have cv := k1.cell? hv
  obtain ⟨-, -, -, c5, -⟩ := h.cells
  have hm : total os ≤ 1000000 := by have := h.memo.1.hp.2.2.2.2; have := h.memo.1.hp.2.2.2.1; omega
  obtain ⟨U, hU⟩ : ∃ U, U = total os := ⟨_, rfl⟩
  rw [← hU] at c5 hm hvp
  have HU := Lib.hid hU
  have heU : e < U := by omega
  have hcs : dv.ownBlock = dv.ownBlock := rfl
  by_cases he : (e : Int) ∈ D
  · rw [if_pos he] at hval
    have hea : addD D e = D := by unfold addD; rw [if_pos he]
    rw [hea]
    have hp0 : (0 : Int) ≤ v := by omega
    rw [← hval]
    have HH := Lib.hid h
    have qv : (v == -1) = false := by have : ¬ v = -1 := by omega
                                      simpa using this
    clear h ha he hea k1 k2 k3 hv hval hcs hU
    go_enter Try.func65, Try.ntmps65
    go_wp2_with fail
    go_ret
    exact ⟨rfl, C, pk, G2, dv, [], by rw [List.append_nil]; exact HH.out, Cst.refl _ _⟩
  · rw [if_neg he] at hval
    subst hval
    have hea : addD D e = D ++ [(e : Int)] := by unfold addD; rw [if_neg he]
    rw [hea, pos_none he]
    have HH := Lib.hid h
    have HE := Lib.hid he
    have HV := Lib.hid ha
    obtain ⟨N, hN⟩ : ∃ N, N = total (cps os D Q) := ⟨_, rfl⟩
    have hNs : sm (sz os) D = N := by rw [hN, cps_total h.lk]
    rw [hNs]
    have hN9 : N ≤ 1000000 := by have := h.new.2.2.2.2; have := h.new.2.2.2.1; omega
    have HN := Lib.hid hN
    have F20 := Lib.hid (fun W (hc : Cop B W C c b G os m dp eb pb pk b2 G2 kb dv D Q) => used_any hc.new.1)
    rw [wds_length, ← hN] at F20
    have F23 := Lib.hid (fun W (hc : Cop B W C c b G os m dp eb pb pk b2 G2 kb dv D Q) => ptrs_o hc.memo.1.hp (e : Int) (by omega) (by omega))
    have F24 := Lib.hid (fun W (hc : Cop B W C c b G os m dp eb pb pk b2 G2 kb dv D Q) => nums_o hc.memo.1.hp (e : Int) (by omega) (by omega))
    have F22 := Lib.hid (fun W (hc : Cop B W C c b G os m dp eb pb pk b2 G2 kb dv D Q) => tagm_any hc.memo.1.hp (e : Int) (by omega) (by omega))
    obtain ⟨np, hnp⟩ : ∃ np, np = (ptrsOf os e).length := ⟨_, rfl⟩
    have hnp60 : np ≤ 60 := by
      obtain ⟨qo, hqo⟩ := ha
      have := (h.memo.1.hp.2.1 qo (ob_mem hqo)).p
      rw [hnp, ptrsOf_ob hqo]; unfold Ob.ptrs; rw [List.length_take]; omega
    have hnn60 : (numsOf os e).length ≤ 60 := by
      obtain ⟨qo, hqo⟩ := ha
      have := (h.memo.1.hp.2.1 qo (ob_mem hqo)).n
      rw [numsOf_ob hqo]; unfold Ob.nums; rw [List.length_take]; omega
    have hft : fitF ((hdo os e).t : Nat) (List.replicate np (N : Int)) (numsOf os e) = true := by
      obtain ⟨qo, hqo⟩ := ha
      rw [hdo_tag hqo, numsOf_ob hqo]
      exact fit_ok (h.memo.1.hp.2.1 qo (ob_mem hqo)) (by rw [List.length_replicate, hnp, ptrsOf_ob hqo])
    have hby : (List.replicate np (N : Int)).any (bey (cps os D Q)) = false := by rw [hN]; exact bey_total _ _
    have hrm : total (cps os D Q) + sizeF (List.replicate np (N : Int)) (numsOf os e) ≤ m := h.room ha he (by rw [List.length_replicate, hnp])
    have HFT := Lib.hid hft
    have HBY := Lib.hid hby
    have HRM := Lib.hid hrm
    have HNP := Lib.hid hnp
    have hdl : D.length + 1 ≤ 1000000000 := by have := len_total h.nd h.vd; have := total_len os; omega
    have HX0 : Hid (b2 < w.heap.size ∧ ∀ k, G2 = some k → k < w.heap.size) := ⟨h.new.1.lt, fun k hk => (h.new.1.glt k hk).1⟩
    have HBW : Hid (B ≤ w.heap.size) := by have := h.low'; show _ ≤ _; omega
    obtain ⟨-, -, c4, -, c6⟩ := h.cells
    have c0 := h.memo.1.k0
    have HC : Hid (∀ W, Cop B W C c b G os m dp eb pb pk b2 G2 kb dv D Q → W.cell? ⟨c, 0, none⟩ = some (.pointer (some ⟨b, 0, none⟩)) ∧ W.cell? ⟨c, 4, none⟩ = some (.pointer (some ⟨b2, 0, none⟩)) ∧ W.cell? ⟨c, 5, none⟩ = some (.slice (some ⟨kb, 0, none⟩) U U) ∧ W.cell? ⟨c, 6, none⟩ = some dv) := by
      intro W hW
      obtain ⟨a1, a2, a3, a4, a5⟩ := hW.cells
      rw [← HU.out] at a4
      exact ⟨a1, a3, a4, a5⟩
    have qv : ((-1 : Int) == -1) = true := rfl
    clear h ha he hea k1 k2 k3 hv hcs hN hNs hnp hft hby hrm c4 c6 c0 hU
    go_enter Try.func65, Try.ntmps65
    go_wp2_with fail
    have hX := Lib.hid (HH.out.below (Below.refl w.heap.size w).drew)
    have HBX : Hid (Below w.heap.size w w.drew) := (Below.refl _ _).drew
    have FR := Lib.hid (fun (W : World) (g : Nat) (hc : W.cell? ⟨g, 0, none⟩ = some (.int .i64 (N : Int))) => repeat_any W g N 1 np (by omega) hc)
    clear HH c5 cv
    refine wp_region_noPanic ?_
    refine wp_region_held_drew (S := fun W => W.cell? ⟨c, 0, none⟩ = some (.pointer (some ⟨b, 0, none⟩)) ∧ W.cell? ⟨c, 4, none⟩ = some (.pointer (some ⟨b2, 0, none⟩))) (by kernel_rfl) ⟨(HC.out _ hX.out).1, (HC.out _ hX.out).2.1⟩ (fun hHeld => ?_)
    generalize w.drew = X at hX HBX hHeld ⊢
    refine wpAnyH_take (i := 0) (v := ?v0) rfl (by kernel_rfl) (by kernel_rfl) (by kernel_rfl) (fun _ _ _ h => h) (Or.inl ⟨rfl, fun w' hw' => ?h0⟩) hHeld ?r0
    case h0 =>
      go_simp
      try with_reducible rfl
    simp only [List.getElem_toArray, List.getElem_cons_succ, List.getElem_cons_zero, Act.put, List.setIfInBounds_toArray, List.set_cons_zero, List.set_cons_succ]
    refine wpAnyH_take (i := 1) (v := ?v1) rfl (by kernel_rfl) (by kernel_rfl) (by kernel_rfl) (fun _ _ _ h => h) (Or.inl ⟨rfl, fun w' hw' => ?h1⟩) hHeld ?r1
    case h1 =>
      go_simp
      try with_reducible rfl
    simp only [List.getElem_toArray, List.getElem_cons_succ, List.getElem_cons_zero, Act.put, List.setIfInBounds_toArray, List.set_cons_zero, List.set_cons_succ]
    refine wpAnyH_take (i := 2) (v := ?v2) rfl (by kernel_rfl) (by kernel_rfl) (by kernel_rfl) (fun _ _ _ h => h) (Or.inl ⟨rfl, fun w' hw' => ?h2⟩) hHeld ?r2
    case h2 =>
      go_simp
      try with_reducible rfl
    simp only [List.getElem_toArray, List.getElem_cons_succ, List.getElem_cons_zero, Act.put, List.setIfInBounds_toArray, List.set_cons_zero, List.set_cons_succ]
    refine wpAnyH_take (i := 3) (v := ?v3) rfl (by kernel_rfl) (by kernel_rfl) (by kernel_rfl) (fun _ _ _ h => h) (Or.inl ⟨rfl, fun w' hw' => ?h3⟩) hHeld ?r3
    case h3 =>
      (obtain ⟨_, d0⟩ := hw'; go_simp)
      try with_reducible rfl
    simp only [List.getElem_toArray, List.getElem_cons_succ, List.getElem_cons_zero, Act.put, List.setIfInBounds_toArray, List.set_cons_zero, List.set_cons_succ]
    refine wpAnyH_take (i := 6) (v := ?v4) rfl (by kernel_rfl) (by kernel_rfl) (by kernel_rfl) (fun _ _ _ h => h) (Or.inl ⟨rfl, fun w' hw' => ?h4⟩) hHeld ?r4
    case h4 =>
      go_simp
      try with_reducible rfl
    simp only [List.getElem_toArray, List.getElem_cons_succ, List.getElem_cons_zero, Act.put, List.setIfInBounds_toArray, List.set_cons_zero, List.set_cons_succ]
    refine wpAnyH_take (i := 7) (v := ?v5) rfl (by kernel_rfl) (by kernel_rfl) (by kernel_rfl) (fun _ _ _ h => h) (Or.inl ⟨rfl, fun w' hw' => ?h5⟩) hHeld ?r5
    case h5 =>
      go_simp
      try with_reducible rfl
    simp only [List.getElem_toArray, List.getElem_cons_succ, List.getElem_cons_zero, Act.put, List.setIfInBounds_toArray, List.set_cons_zero, List.set_cons_succ]
    refine wpAnyH_take (i := 8) (v := ?v6) rfl (by kernel_rfl) (by kernel_rfl) (by kernel_rfl) (fun _ _ _ h => h) (Or.inl ⟨rfl, fun w' hw' => ?h6⟩) hHeld ?r6
    case h6 =>
      go_simp
      try with_reducible rfl
    simp only [List.getElem_toArray, List.getElem_cons_succ, List.getElem_cons_zero, Act.put, List.setIfInBounds_toArray, List.set_cons_zero, List.set_cons_succ]
    refine wpAnyH_take (i := 9) (v := ?v7) rfl (by kernel_rfl) (by kernel_rfl) (by kernel_rfl) (fun _ _ _ h => h) (Or.inl ⟨rfl, fun w' hw' => ?h7⟩) hHeld ?r7
    case h7 =>
      go_simp
      try with_reducible rfl
    simp only [List.getElem_toArray, List.getElem_cons_succ, List.getElem_cons_zero, Act.put, List.setIfInBounds_toArray, List.set_cons_zero, List.set_cons_succ]
    refine wpAnyH_take (i := 10) (v := ?v8) rfl (by kernel_rfl) (by kernel_rfl) (by kernel_rfl) (fun _ _ _ h => h) (Or.inl ⟨rfl, fun w' hw' => ?h8⟩) hHeld ?r8
    case h8 =>
      (obtain ⟨d0, _⟩ := hw'; go_simp)
      try with_reducible rfl
    simp only [List.getElem_toArray, List.getElem_cons_succ, List.getElem_cons_zero, Act.put, List.setIfInBounds_toArray, List.set_cons_zero, List.set_cons_succ]
    refine wpAnyH_take (i := 11) (v := ?v9) rfl (by kernel_rfl) (by kernel_rfl) (by kernel_rfl) (fun _ _ _ h => h) (Or.inl ⟨rfl, fun w' hw' => ?h9⟩) hHeld ?r9
    case h9 =>
      go_simp
      try with_reducible rfl
    simp only [List.getElem_toArray, List.getElem_cons_succ, List.getElem_cons_zero, Act.put, List.setIfInBounds_toArray, List.set_cons_zero, List.set_cons_succ]
    refine wpAnyH_ready (rs := [4]) (by kernel_rfl) (by simp) ?_
    refine (AllReadyH.cons rfl (fun K hK => ?_) AllReadyH.nil)
    go_simp
    refine (F20.out X hX.out).mono ?_
    rintro e9 w2 ⟨rfl, rfl⟩
    refine hK.out _ _ ⟨(HC.out _ hX.out).1, (HC.out _ hX.out).2.1⟩ (fun hHeld => ?_)
    clear hK K
    try simp only [List.getElem_toArray, List.getElem_cons_succ, List.getElem_cons_zero, Act.put, List.setIfInBounds_toArray, List.set_cons_zero, List.set_cons_succ]
    refine wpAnyH_ready (rs := [5, 12]) (by kernel_rfl) (by simp) ?_
    refine (AllReadyH.cons rfl (fun K hK => ?_) (AllReadyH.cons rfl (fun K hK => ?_) AllReadyH.nil))
    · skip
      go_simp
      have hX3 := Lib.hid (hX.out.below ((Below.refl X.heap.size X).alloc (Nat.le_refl _) (.cells #[.int .i64 (N : Int)] 3)))
      have HB3 : Hid (Below w.heap.size w (X.alloc (.cells #[.int .i64 (N : Int)] 3))) := HBX.out.alloc (by have := HBX.out.size; omega) _
      have cN3 : (X.alloc (.cells #[.int .i64 (N : Int)] 3)).cell? ⟨X.heap.size, 0, none⟩ = some (.int .i64 (N : Int)) := by
        rw [cell_of_row _ _ 0 _ _ _ (alloc_at X _)]; rfl
      have hg1 : X.heap.size < (X.alloc (.cells #[.int .i64 (N : Int)] 3)).heap.size := by simp
      refine hK.out _ _ ⟨(HC.out _ hX3.out).1, (HC.out _ hX3.out).2.1⟩ (fun hHeld => ?_)
      generalize X.alloc (.cells #[.int .i64 (N : Int)] 3) = w3 at hX3 HB3 cN3 hg1 ⊢
      generalize X.heap.size = g1 at cN3 hg1 ⊢
      clear hK K
      try simp only [List.getElem_toArray, List.getElem_cons_succ, List.getElem_cons_zero, Act.put, List.setIfInBounds_toArray, List.set_cons_zero, List.set_cons_succ]
      refine wpAnyH_ready (rs := [12]) (by kernel_rfl) (by simp) ?_
      refine (AllReadyH.cons rfl (fun K hK => ?_) AllReadyH.nil)
      go_simp
      refine (F23.out w3 hX3.out).mono ?_
      rintro e9 w4 hr4
      obtain ⟨po, pc, rfl, -, hb4⟩ := hr4.form
      rw [← HNP.out]
      have h4 := Lib.hid (hX3.out.below hb4)
      have HB4 := Lib.hid (HB3.out.trans (hb4.mono HB3.out.size))
      have cN : w4.cell? ⟨g1, 0, none⟩ = some (.int .i64 (N : Int)) := (hb4.cell (p := ⟨g1, 0, none⟩) hg1).trans cN3
      clear hr4 hb4 hX3 HB3 cN3
      refine hK.out _ _ ⟨(HC.out _ h4.out).1, (HC.out _ h4.out).2.1⟩ (fun hHeld => ?_)
      clear hK K
      try simp only [List.getElem_toArray, List.getElem_cons_succ, List.getElem_cons_zero, Act.put, List.setIfInBounds_toArray, List.set_cons_zero, List.set_cons_succ]
      refine wpAnyH_take (i := 13) (v := ?v10) rfl (by kernel_rfl) (by kernel_rfl) (by kernel_rfl) (fun _ _ _ h => h) (Or.inl ⟨rfl, fun w' hw' => ?h10⟩) hHeld ?r10
      case h10 =>
        go_simp
        try with_reducible rfl
      simp only [List.getElem_toArray, List.getElem_cons_succ, List.getElem_cons_zero, Act.put, List.setIfInBounds_toArray, List.set_cons_zero, List.set_cons_succ]
      refine wpAnyH_ready (rs := [14]) (by kernel_rfl) (by simp) ?_
      refine (AllReadyH.cons rfl (fun K hK => ?_) AllReadyH.nil)
      go_simp
      refine (FR.out w4 g1 cN).mono ?_
      rintro e9 w5 ⟨rfl, hr5, hb5⟩
      have h5 := Lib.hid (h4.out.below hb5)
      have HB5 := Lib.hid (HB4.out.trans (hb5.mono HB4.out.size))
      have HR5 := Lib.hid hr5
      have hg5 := HB4.out.size
      clear hr5 hb5 h4 cN
      generalize w4.heap.size = g5 at HR5 hg5 ⊢
      refine hK.out _ _ ⟨(HC.out _ h5.out).1, (HC.out _ h5.out).2.1⟩ (fun hHeld => ?_)
      clear HB4
      clear hK K
      try simp only [List.getElem_toArray, List.getElem_cons_succ, List.getElem_cons_zero, Act.put, List.setIfInBounds_toArray, List.set_cons_zero, List.set_cons_succ]
      refine wpAnyH_take (i := 15) (v := ?v11) rfl (by kernel_rfl) (by kernel_rfl) (by kernel_rfl) (fun _ _ _ h => h) (Or.inl ⟨rfl, fun w' hw' => ?h11⟩) hHeld ?r11
      case h11 =>
        go_simp
        try with_reducible rfl
      simp only [List.getElem_toArray, List.getElem_cons_succ, List.getElem_cons_zero, Act.put, List.setIfInBounds_toArray, List.set_cons_zero, List.set_cons_succ]
      refine wpAnyH_done (by kernel_rfl) ?_ _
      refine NoPanic.normal ?_
      clear hHeld
      go_wp2_with fail
      have HLO : Hid (b2 < g5 ∧ ∀ k, G2 = some k → k < g5) := ⟨by have := HX0.out.1; omega, fun k hk => by have := HX0.out.2 k hk; omega⟩
      have h5 := Lib.hid (h5.out.below (Below.refl w5.heap.size w5).drew)
      have HB5 := Lib.hid (HB5.out.drew)
      have HR5 : Hid (IRw w5.drew g5 (List.replicate np (N : Int))) := HR5.out
      clear hX HBX
      refine wp_region_noPanic ?_
      refine wp_region_held_drew (S := fun W => W.cell? ⟨c, 0, none⟩ = some (.pointer (some ⟨b, 0, none⟩)) ∧ W.cell? ⟨c, 4, none⟩ = some (.pointer (some ⟨b2, 0, none⟩)) ∧ W.cell? ⟨c, 5, none⟩ = some (.slice (some ⟨kb, 0, none⟩) U U)) (by kernel_rfl) ⟨(HC.out _ h5.out).1, (HC.out _ h5.out).2.1, (HC.out _ h5.out).2.2.1⟩ (fun hHeld => ?_)
      generalize w5.drew = Y at h5 HB5 HR5 hHeld ⊢
      refine wpAnyH_take (i := 0) (v := ?v12) rfl (by kernel_rfl) (by kernel_rfl) (by kernel_rfl) (fun _ _ _ h => h) (Or.inl ⟨rfl, fun w' hw' => ?h12⟩) hHeld ?r12
      case h12 =>
        (go_simp; try omega)
        try with_reducible rfl
      simp only [List.getElem_toArray, List.getElem_cons_succ, List.getElem_cons_zero, Act.put, List.setIfInBounds_toArray, List.set_cons_zero, List.set_cons_succ]
      refine wpAnyH_take (i := 1) (v := ?v13) rfl (by kernel_rfl) (by kernel_rfl) (by kernel_rfl) (fun _ _ _ h => h) (Or.inl ⟨rfl, fun w' hw' => ?h13⟩) hHeld ?r13
      case h13 =>
        (go_simp; try omega)
        try with_reducible rfl
      simp only [List.getElem_toArray, List.getElem_cons_succ, List.getElem_cons_zero, Act.put, List.setIfInBounds_toArray, List.set_cons_zero, List.set_cons_succ]
      refine wpAnyH_take (i := 2) (v := ?v14) rfl (by kernel_rfl) (by kernel_rfl) (by kernel_rfl) (fun _ _ _ h => h) (Or.inl ⟨rfl, fun w' hw' => ?h14⟩) hHeld ?r14
      case h14 =>
        (go_simp; try omega)
        try with_reducible rfl
      simp only [List.getElem_toArray, List.getElem_cons_succ, List.getElem_cons_zero, Act.put, List.setIfInBounds_toArray, List.set_cons_zero, List.set_cons_succ]
      refine wpAnyH_take (i := 3) (v := ?v15) rfl (by kernel_rfl) (by kernel_rfl) (by kernel_rfl) (fun _ _ _ h => h) (Or.inl ⟨rfl, fun w' hw' => ?h15⟩) hHeld ?r15
      case h15 =>
        (obtain ⟨_, _, d0⟩ := hw'; go_simp)
        try with_reducible rfl
      simp only [List.getElem_toArray, List.getElem_cons_succ, List.getElem_cons_zero, Act.put, List.setIfInBounds_toArray, List.set_cons_zero, List.set_cons_succ]
      refine wpAnyH_take (i := 4) (v := ?v16) rfl (by kernel_rfl) (by kernel_rfl) (by kernel_rfl) (fun _ _ _ h => h) (Or.inl ⟨rfl, fun w' hw' => ?h16⟩) hHeld ?r16
      case h16 =>
        (go_simp; try omega)
        try with_reducible rfl
      simp only [List.getElem_toArray, List.getElem_cons_succ, List.getElem_cons_zero, Act.put, List.setIfInBounds_toArray, List.set_cons_zero, List.set_cons_succ]
      refine wpAnyH_take (i := 5) (v := ?v17) rfl (by kernel_rfl) (by kernel_rfl) (by kernel_rfl) (fun _ _ _ h => h) (Or.inl ⟨rfl, fun w' hw' => ?h17⟩) hHeld ?r17
      case h17 =>
        (go_simp; try omega)
        try with_reducible rfl
      simp only [List.getElem_toArray, List.getElem_cons_succ, List.getElem_cons_zero, Act.put, List.setIfInBounds_toArray, List.set_cons_zero, List.set_cons_succ]
      refine wpAnyH_take (i := 6) (v := ?v18) rfl (by kernel_rfl) (by kernel_rfl) (by kernel_rfl) (fun _ _ _ h => h) (Or.inl ⟨rfl, fun w' hw' => ?h18⟩) hHeld ?r18
      case h18 =>
        (go_simp; try omega)
        try with_reducible rfl
      simp only [List.getElem_toArray, List.getElem_cons_succ, List.getElem_cons_zero, Act.put, List.setIfInBounds_toArray, List.set_cons_zero, List.set_cons_succ]
      refine wpAnyH_take (i := 7) (v := ?v19) rfl (by kernel_rfl) (by kernel_rfl) (by kernel_rfl) (fun _ _ _ h => h) (Or.inl ⟨rfl, fun w' hw' => ?h19⟩) hHeld ?r19
      case h19 =>
        (go_simp; try omega)
        try with_reducible rfl
      simp only [List.getElem_toArray, List.getElem_cons_succ, List.getElem_cons_zero, Act.put, List.setIfInBounds_toArray, List.set_cons_zero, List.set_cons_succ]
      refine wpAnyH_take (i := 8) (v := ?v20) rfl (by kernel_rfl) (by kernel_rfl) (by kernel_rfl) (fun _ _ _ h => h) (Or.inl ⟨rfl, fun w' hw' => ?h20⟩) hHeld ?r20
      case h20 =>
        (obtain ⟨_, d0, _⟩ := hw'; go_simp)
        try with_reducible rfl
      simp only [List.getElem_toArray, List.getElem_cons_succ, List.getElem_cons_zero, Act.put, List.setIfInBounds_toArray, List.set_cons_zero, List.set_cons_succ]
      refine wpAnyH_take (i := 9) (v := ?v21) rfl (by kernel_rfl) (by kernel_rfl) (by kernel_rfl) (fun _ _ _ h => h) (Or.inl ⟨rfl, fun w' hw' => ?h21⟩) hHeld ?r21
      case h21 =>
        (go_simp; try omega)
        try with_reducible rfl
      simp only [List.getElem_toArray, List.getElem_cons_succ, List.getElem_cons_zero, Act.put, List.setIfInBounds_toArray, List.set_cons_zero, List.set_cons_succ]
      refine wpAnyH_take (i := 10) (v := ?v22) rfl (by kernel_rfl) (by kernel_rfl) (by kernel_rfl) (fun _ _ _ h => h) (Or.inl ⟨rfl, fun w' hw' => ?h22⟩) hHeld ?r22
      case h22 =>
        (go_simp; try omega)
        try with_reducible rfl
      simp only [List.getElem_toArray, List.getElem_cons_succ, List.getElem_cons_zero, Act.put, List.setIfInBounds_toArray, List.set_cons_zero, List.set_cons_succ]
      refine wpAnyH_take (i := 11) (v := ?v23) rfl (by kernel_rfl) (by kernel_rfl) (by kernel_rfl) (fun _ _ _ h => h) (Or.inl ⟨rfl, fun w' hw' => ?h23⟩) hHeld ?r23
      case h23 =>
        (go_simp; try omega)
        try with_reducible rfl
      simp only [List.getElem_toArray, List.getElem_cons_succ, List.getElem_cons_zero, Act.put, List.setIfInBounds_toArray, List.set_cons_zero, List.set_cons_succ]
      refine wpAnyH_take (i := 12) (v := ?v24) rfl (by kernel_rfl) (by kernel_rfl) (by kernel_rfl) (fun _ _ _ h => h) (Or.inl ⟨rfl, fun w' hw' => ?h24⟩) hHeld ?r24
      case h24 =>
        (go_simp; try omega)
        try with_reducible rfl
      simp only [List.getElem_toArray, List.getElem_cons_succ, List.getElem_cons_zero, Act.put, List.setIfInBounds_toArray, List.set_cons_zero, List.set_cons_succ]
      refine wpAnyH_take (i := 13) (v := ?v25) rfl (by kernel_rfl) (by kernel_rfl) (by kernel_rfl) (fun _ _ _ h => h) (Or.inl ⟨rfl, fun w' hw' => ?h25⟩) hHeld ?r25
      case h25 =>
        (obtain ⟨d0, _, _⟩ := hw'; go_simp)
        try with_reducible rfl
      simp only [List.getElem_toArray, List.getElem_cons_succ, List.getElem_cons_zero, Act.put, List.setIfInBounds_toArray, List.set_cons_zero, List.set_cons_succ]
      refine wpAnyH_take (i := 14) (v := ?v26) rfl (by kernel_rfl) (by kernel_rfl) (by kernel_rfl) (fun _ _ _ h => h) (Or.inl ⟨rfl, fun w' hw' => ?h26⟩) hHeld ?r26
      case h26 =>
        (go_simp; try omega)
        try with_reducible rfl
      simp only [List.getElem_toArray, List.getElem_cons_succ, List.getElem_cons_zero, Act.put, List.setIfInBounds_toArray, List.set_cons_zero, List.set_cons_succ]
      refine wpAnyH_take (i := 16) (v := ?v27) rfl (by kernel_rfl) (by kernel_rfl) (by kernel_rfl) (fun _ _ _ h => h) (Or.inl ⟨rfl, fun w' hw' => ?h27⟩) hHeld ?r27
      case h27 =>
        (go_simp; try omega)
        try with_reducible rfl
      simp only [List.getElem_toArray, List.getElem_cons_succ, List.getElem_cons_zero, Act.put, List.setIfInBounds_toArray, List.set_cons_zero, List.set_cons_succ]
      refine wpAnyH_take (i := 17) (v := ?v28) rfl (by kernel_rfl) (by kernel_rfl) (by kernel_rfl) (fun _ _ _ h => h) (Or.inl ⟨rfl, fun w' hw' => ?h28⟩) hHeld ?r28
      case h28 =>
        (go_simp; try omega)
        try with_reducible rfl
      simp only [List.getElem_toArray, List.getElem_cons_succ, List.getElem_cons_zero, Act.put, List.setIfInBounds_toArray, List.set_cons_zero, List.set_cons_succ]
      refine wpAnyH_take (i := 18) (v := ?v29) rfl (by kernel_rfl) (by kernel_rfl) (by kernel_rfl) (fun _ _ _ h => h) (Or.inl ⟨rfl, fun w' hw' => ?h29⟩) hHeld ?r29
      case h29 =>
        (go_simp; try omega)
        try with_reducible rfl
      simp only [List.getElem_toArray, List.getElem_cons_succ, List.getElem_cons_zero, Act.put, List.setIfInBounds_toArray, List.set_cons_zero, List.set_cons_succ]
      refine wpAnyH_take (i := 19) (v := ?v30) rfl (by kernel_rfl) (by kernel_rfl) (by kernel_rfl) (fun _ _ _ h => h) (Or.inl ⟨rfl, fun w' hw' => ?h30⟩) hHeld ?r30
      case h30 =>
        (go_simp; try omega)
        try with_reducible rfl
      simp only [List.getElem_toArray, List.getElem_cons_succ, List.getElem_cons_zero, Act.put, List.setIfInBounds_toArray, List.set_cons_zero, List.set_cons_succ]
      refine wpAnyH_take (i := 20) (v := ?v31) rfl (by kernel_rfl) (by kernel_rfl) (by kernel_rfl) (fun _ _ _ h => h) (Or.inl ⟨rfl, fun w' hw' => ?h31⟩) hHeld ?r31
      case h31 =>
        (go_simp; try omega)
        try with_reducible rfl
      simp only [List.getElem_toArray, List.getElem_cons_succ, List.getElem_cons_zero, Act.put, List.setIfInBounds_toArray, List.set_cons_zero, List.set_cons_succ]
      refine wpAnyH_take (i := 21) (v := ?v32) rfl (by kernel_rfl) (by kernel_rfl) (by kernel_rfl) (fun _ _ _ h => h) (Or.inl ⟨rfl, fun w' hw' => ?h32⟩) hHeld ?r32
      case h32 =>
        (obtain ⟨d0, _, _⟩ := hw'; go_simp)
        try with_reducible rfl
      simp only [List.getElem_toArray, List.getElem_cons_succ, List.getElem_cons_zero, Act.put, List.setIfInBounds_toArray, List.set_cons_zero, List.set_cons_succ]
      refine wpAnyH_take (i := 22) (v := ?v33) rfl (by kernel_rfl) (by kernel_rfl) (by kernel_rfl) (fun _ _ _ h => h) (Or.inl ⟨rfl, fun w' hw' => ?h33⟩) hHeld ?r33
      case h33 =>
        (go_simp; try omega)
        try with_reducible rfl
      simp only [List.getElem_toArray, List.getElem_cons_succ, List.getElem_cons_zero, Act.put, List.setIfInBounds_toArray, List.set_cons_zero, List.set_cons_succ]
      refine wpAnyH_ready (rs := [15]) (by kernel_rfl) (by simp) ?_
      refine (AllReadyH.cons rfl (fun K hK => ?_) AllReadyH.nil)
      go_simp
      refine (F22.out Y h5.out).mono ?_
      rintro e9 w6 ⟨rfl, hb6⟩
      have h6 := Lib.hid (h5.out.below hb6)
      have HR6 := Lib.hid (HR5.out.fr' (F := fun _ => False) (Fr.of_below hb6) (fun e => e))
      have HB6 := Lib.hid (HB5.out.trans (hb6.mono HB5.out.size))
      have hs6 := hb6.size
      clear hb6 h5 HR5 HB5
      refine hK.out _ _ ⟨(HC.out _ h6.out).1, (HC.out _ h6.out).2.1, (HC.out _ h6.out).2.2.1⟩ (fun hHeld => ?_)
      clear hK K
      try simp only [List.getElem_toArray, List.getElem_cons_succ, List.getElem_cons_zero, Act.put, List.setIfInBounds_toArray, List.set_cons_zero, List.set_cons_succ]
      refine wpAnyH_ready (rs := [23]) (by kernel_rfl) (by simp) ?_
      refine (AllReadyH.cons rfl (fun K hK => ?_) AllReadyH.nil)
      go_simp
      refine (F24.out w6 h6.out).mono ?_
      rintro e9 w7 hr7
      obtain ⟨no, nc, rfl, hown7, hb7⟩ := hr7.form
      have h7 := Lib.hid (h6.out.below hb7)
      have HR7 := Lib.hid (HR6.out.fr' (F := fun _ => False) (Fr.of_below hb7) (fun e => e))
      have HB7 := Lib.hid (HB6.out.trans (hb7.mono HB6.out.size))
      have HAP := Lib.hid ((apart_lt (v := .slice (some ⟨g5, 0, none⟩) np np) rfl (by have := HLO.out.1; omega) (fun e => by have := HLO.out.2 _ e; omega) : Apart _ b2 G2))
      have HAN := Lib.hid (apart_own2 (b2 := b2) (G2 := G2) h6.out.new.1.lt (fun k hk => (h6.out.new.1.glt k hk).1) hown7)
      have HIS := Lib.hid (own_isS hown7)
      have HIP := Lib.hid (HR7.out.isS (n := np) (by simp))
      have F28 := Lib.hid (alloc_yes h7.out.new (hdo os e).t (List.replicate np (N : Int)) (numsOf os e) _ _ HIP.out HIS.out HAP.out HAN.out (fun p hp => by rw [(List.mem_replicate.1 hp).2]; omega) HFT.out HBY.out HRM.out)
      rw [← HN.out] at F28
      clear HAP HAN HIS HIP
      clear hr7 hown7 hb7 h6 HR6 HB6
      refine hK.out _ _ ⟨(HC.out _ h7.out).1, (HC.out _ h7.out).2.1, (HC.out _ h7.out).2.2.1⟩ (fun hHeld => ?_)
      clear hK K
      try simp only [List.getElem_toArray, List.getElem_cons_succ, List.getElem_cons_zero, Act.put, List.setIfInBounds_toArray, List.set_cons_zero, List.set_cons_succ]
      refine wpAnyH_ready (rs := [24]) (by kernel_rfl) (by simp) ?_
      refine (AllReadyH.cons rfl (fun K hK => ?_) AllReadyH.nil)
      go_simp
      refine F28.out.mono ?_
      rintro e9 w8 ⟨rfl, G3, hp8, hf8, hg8⟩
      simp only [pair2]
      have HH8 := Lib.hid hp8
      have HF8 := Lib.hid hf8
      have HG8 := Lib.hid hg8
      have HCE : Hid (w8.heap[c]? = _) := (hf8.block c h7.out.low'.2 (fun e => by rcases e with e | e; have h1 := h7.out.memo.1.cc; rw [e, h7.out.c2] at h1; cases h1; have h1 := h7.out.memo.1.cc; rw [h7.out.cg2 c e] at h1; cases h1)).trans h7.out.cell
      obtain ⟨ks8, hk8, hkl8, -⟩ := h7.out.k
      have hk9 := hk8.fr' hf8 (fun e => by rcases e with e | e; have h1 := h7.out.ck; rw [e, h7.out.c2] at h1; cases h1; have h1 := h7.out.ck; rw [h7.out.cg2 kb e] at h1; cases h1)
      rw [← HU.out] at HCE hkl8
      obtain ⟨v8, hv8⟩ : ∃ v8, ks8[e]? = some v8 := ⟨_, List.getElem?_eq_getElem (by omega)⟩
      have cv8 := hk9.cell? hv8
      have fv8 := hk9.frz e
      have HK9 := Lib.hid (hk9.self (show e < ks8.length by omega) (N : Int))
      have HKW := Lib.hid (hk9.put e (N : Int))
      clear hk8 hv8 hp8 hf8 hg8 hk9
      have s0 : w8.cell? ⟨c, 0, none⟩ = some (.pointer (some ⟨b, 0, none⟩)) := by rw [cell_of_row _ _ _ _ _ _ HCE.out]; rfl
      have s4 : w8.cell? ⟨c, 4, none⟩ = some (.pointer (some ⟨b2, 0, none⟩)) := by rw [cell_of_row _ _ _ _ _ _ HCE.out]; rfl
      have s5 : w8.cell? ⟨c, 5, none⟩ = some (.slice (some ⟨kb, 0, none⟩) U U) := by rw [cell_of_row _ _ _ _ _ _ HCE.out]; rfl
      refine hK.out _ _ ⟨s0, s4, s5⟩ (fun hHeld => ?_)
      clear hK K
      try simp only [List.getElem_toArray, List.getElem_cons_succ, List.getElem_cons_zero, Act.put, List.setIfInBounds_toArray, List.set_cons_zero, List.set_cons_succ]
      refine wpAnyH_take (i := 25) (v := ?v34) rfl (by kernel_rfl) (by kernel_rfl) (by kernel_rfl) (fun _ _ _ h => h) (Or.inl ⟨rfl, fun w' hw' => ?h34⟩) hHeld ?r34
      case h34 =>
        (go_simp; try omega)
        try with_reducible rfl
      simp only [List.getElem_toArray, List.getElem_cons_succ, List.getElem_cons_zero, Act.put, List.setIfInBounds_toArray, List.set_cons_zero, List.set_cons_succ]
      refine wpAnyH_take (i := 26) (v := ?v35) rfl (by kernel_rfl) (by kernel_rfl) (by kernel_rfl) (fun _ _ _ h => h) (Or.inl ⟨rfl, fun w' hw' => ?h35⟩) hHeld ?r35
      case h35 =>
        (go_simp; try omega)
        try with_reducible rfl
      simp only [List.getElem_toArray, List.getElem_cons_succ, List.getElem_cons_zero, Act.put, List.setIfInBounds_toArray, List.set_cons_zero, List.set_cons_succ]
      refine wpAnyH_take (i := 27) (v := ?v36) rfl (by kernel_rfl) (by kernel_rfl) (by kernel_rfl) (fun _ _ _ h => h) (Or.inl ⟨rfl, fun w' hw' => ?h36⟩) hHeld ?r36
      case h36 =>
        (go_simp; try omega)
        try with_reducible rfl
      simp only [List.getElem_toArray, List.getElem_cons_succ, List.getElem_cons_zero, Act.put, List.setIfInBounds_toArray, List.set_cons_zero, List.set_cons_succ]
      refine wpAnyH_take (i := 28) (v := Value.pointer (some ⟨kb, e, none⟩)) rfl (by kernel_rfl) (by kernel_rfl) (by kernel_rfl) (fun _ _ _ h => h) (Or.inl ⟨rfl, fun w' hw' => ?_⟩) hHeld ?_
      · (go_simp; try omega)
      simp only [List.getElem_toArray, List.getElem_cons_succ, List.getElem_cons_zero, Act.put, List.setIfInBounds_toArray, List.set_cons_zero, List.set_cons_succ]
      refine wpAnyH_ready (rs := [29]) (by kernel_rfl) (by simp) ?_
      refine (AllReadyH.cons rfl (fun K hK => ?_) AllReadyH.nil)
      go_simp
      have HC9 : Hid ((w8.setCell ⟨kb, e, none⟩ (.int .i64 (N : Int))).heap[c]? = _) := (Below.heap_setCell _ _ _ _ (fun x => by have h1 := h7.out.memo.1.cc; rw [show c = kb from x, h7.out.ck] at h1; cases h1)).trans HCE.out
      have t0 : (w8.setCell ⟨kb, e, none⟩ (.int .i64 (N : Int))).cell? ⟨c, 0, none⟩ = some (.pointer (some ⟨b, 0, none⟩)) := by rw [cell_of_row _ _ _ _ _ _ HC9.out]; rfl
      have t4 : (w8.setCell ⟨kb, e, none⟩ (.int .i64 (N : Int))).cell? ⟨c, 4, none⟩ = some (.pointer (some ⟨b2, 0, none⟩)) := by rw [cell_of_row _ _ _ _ _ _ HC9.out]; rfl
      have t5 : (w8.setCell ⟨kb, e, none⟩ (.int .i64 (N : Int))).cell? ⟨c, 5, none⟩ = some (.slice (some ⟨kb, 0, none⟩) U U) := by rw [cell_of_row _ _ _ _ _ _ HC9.out]; rfl
      have t6 : (w8.setCell ⟨kb, e, none⟩ (.int .i64 (N : Int))).cell? ⟨c, 6, none⟩ = some dv := by rw [cell_of_row _ _ _ _ _ _ HC9.out]; rfl
      refine hK.out _ _ ⟨t0, t4, t5⟩ (fun hHeld => ?_)
      clear cv8 fv8 s0 s4 s5 HCE
      clear hK K
      try simp only [List.getElem_toArray, List.getElem_cons_succ, List.getElem_cons_zero, Act.put, List.setIfInBounds_toArray, List.set_cons_zero, List.set_cons_succ]
      refine wpAnyH_done (by kernel_rfl) ?_ _
      refine NoPanic.normal ?_
      clear hHeld
      have HO : Hid ((w8.setCell ⟨kb, e, none⟩ (.int .i64 (N : Int))).ownsRow B 3 1 dv D.length (D.map (Value.int .i64))) := by
        have h1 := h7.out.done
        have h2 := own_fr h1 HF8.out (fun k hk e => by
          have a1 := h7.out.cd k hk
          rcases e with e | e
          · rw [e, h7.out.c2] at a1; cases a1
          · rw [h7.out.cg2 k e] at a1; cases a1)
        exact own_fr (F := fun k => k = kb) h2 (Fr.setCell (F := fun k => k = kb) (p := ⟨kb, e, none⟩) (Fr.refl _ _) rfl _) (fun k hk x => by
          have a1 := h7.out.cd k hk
          rw [x, h7.out.ck] at a1; cases a1)
      have hkc : kb ≠ c := fun x => by
        have h1 := h7.out.ck
        rw [x, h7.out.memo.1.cc] at h1; cases h1
      have hkc2 : c ≠ kb := hkc.symm
      obtain ⟨W9, hW9⟩ : ∃ W9, W9 = w8.setCell ⟨kb, e, none⟩ (.int .i64 (N : Int)) := ⟨_, rfl⟩
      rw [← hW9] at HC9 t0 t4 t5 t6 HO HK9 HKW ⊢
      have HW9 := Lib.hid hW9
      clear hW9
      have HSR := Lib.hid (srcA_one (d := .int .i64 (e : Int)) (T := 3) (alloc_at W9 (.cells #[.int .i64 (e : Int)] 3)) rfl 1)
      have HA9 : Hid (Below W9.heap.size W9 (W9.alloc (.cells #[.int .i64 (e : Int)] 3))) := (Below.refl _ _).alloc (Nat.le_refl _) _
      have HO2 := Lib.hid (own_below HO.out HA9.out)
      have hBW9 : B ≤ (W9.alloc (.cells #[.int .i64 (e : Int)] 3)).heap.size := by
        have a1 := HBW.out
        have a2 := HB7.out.size
        have a3 := HF8.out.size
        have a4 : W9.heap.size = w8.heap.size := by rw [HW9.out]; simp [World.setCell]
        have a5 := HA9.out.size
        omega
      obtain ⟨RM, hRM⟩ : ∃ RM, RM = D.map (Value.int .i64) := ⟨_, rfl⟩
      rw [← hRM] at HO2
      have HRM := Lib.hid hRM
      obtain ⟨DL, hDL⟩ : ∃ DL, DL = D.length := ⟨_, rfl⟩
      rw [← hDL] at HO2 hdl
      have HDL := Lib.hid hDL
      obtain ⟨dao, dcap, hdv⟩ := own_sform HO2.out
      have HDV := Lib.hid hdv
      rw [hdv] at t6 HO2
      have HNE : Hid ((Value.slice dao DL dcap).ownBlock ≠ some c) := fun x => by
        rw [← hdv] at x
        have h1 := h7.out.memo.1.cc
        rw [h7.out.cd c x] at h1; cases h1
      have HNK : Hid ((Value.slice dao DL dcap).ownBlock ≠ some kb) := fun x => by
        rw [← HDV.out] at x
        have h1 := h7.out.ck
        rw [h7.out.cd kb x] at h1; cases h1
      clear hRM hDL HO t0 t4 t5 hdv
      go_wp2_with (refine wpList_wantedR (by rfl) fun K hK => ?_; refine wp_appI (Operand.tmp 62) (Operand.tmp 64) rfl B (.slice dao DL dcap) DL RM rfl HO2.out (.slice (some ⟨W9.heap.size, 0, none⟩) 1 1) rfl 1 _ HSR.out hdl hBW9 ?_; intro v10 w10 hown10 hg10 hv10; obtain ⟨o10, k10, rfl⟩ := own_sform hown10; have HO10 := Lib.hid hown10; have HG10 := Lib.hid hg10; have HV10 := Lib.hid hv10; have HC10 := Lib.hid (blk_grown HC9.out HA9.out hg10 HNE.out); clear t6; have u6 : w10.cell? ⟨c, 6, none⟩ = some dv := (by rw [cell_of_row _ _ _ _ _ _ HC10.out]; rfl); have f6 := frozen_of_row w10 c 6 _ _ HC10.out; have u5 : w10.cell? ⟨c, 5, none⟩ = some (.slice (some ⟨kb, 0, none⟩) U U) := (by rw [cell_of_row _ _ _ _ _ _ HC10.out]; rfl); have uk := cell_grown HK9.out HA9.out hg10 HNK.out; clear hown10 hg10 hv10; refine hK _ _ ?_; clear hK K)
      have HFIN : Hid (∃ C' : Nat → Nat, Cop B (w10.setCell ⟨c, 6, none⟩ (.slice o10 (DL + 1) k10)) C' c b G os m dp eb pb pk b2 G3 kb (.slice o10 (DL + 1) k10) (D ++ [(e : Int)]) (Q ++ [List.replicate np (N : Int)]) ∧ Cst C w C' (w10.setCell ⟨c, 6, none⟩ (.slice o10 (DL + 1) k10))) := by
        have a1 := HG10.out
        have a2 := HV10.out
        have a3 := HO10.out
        rw [HW9.out, ← HDV.out] at a1 a2
        rw [HRM.out, HDL.out] at a3
        rw [HDL.out] at a2 ⊢
        obtain ⟨C', z1, z2⟩ := h7.out.copy HV.out HE.out (q := List.replicate np (N : Int)) (by rw [List.length_replicate, HNP.out]) HN.out HH8.out HF8.out HG8.out a3 a1 a2
        exact ⟨C', z1, (⟨Fr.of_below HB7.out, fun _ _ => rfl⟩ : Cst C w C w7).trans z2⟩
      go_ret
      obtain ⟨C', z1, z2⟩ := HFIN.out
      exact ⟨rfl, C', pk, G3, _, [List.replicate np (N : Int)], z1, z2⟩
    · skip
      go_simp
      refine (F23.out X hX.out).mono ?_
      rintro e9 w3 hr3
      obtain ⟨po, pc, rfl, -, hb3⟩ := hr3.form
      rw [← HNP.out]
      have hX3 := Lib.hid (hX.out.below hb3)
      have HB3 := Lib.hid (HBX.out.trans (hb3.mono HBX.out.size))
      clear hr3 hb3
      refine hK.out _ _ ⟨(HC.out _ hX3.out).1, (HC.out _ hX3.out).2.1⟩ (fun hHeld => ?_)
      clear hK K
      try simp only [List.getElem_toArray, List.getElem_cons_succ, List.getElem_cons_zero, Act.put, List.setIfInBounds_toArray, List.set_cons_zero, List.set_cons_succ]
      refine wpAnyH_take (i := 13) (v := ?v38) rfl (by kernel_rfl) (by kernel_rfl) (by kernel_rfl) (fun _ _ _ h => h) (Or.inl ⟨rfl, fun w' hw' => ?h38⟩) hHeld ?r38
      case h38 =>
        go_simp
        try with_reducible rfl
      simp only [List.getElem_toArray, List.getElem_cons_succ, List.getElem_cons_zero, Act.put, List.setIfInBounds_toArray, List.set_cons_zero, List.set_cons_succ]
      refine wpAnyH_ready (rs := [5]) (by kernel_rfl) (by simp) ?_
      refine (AllReadyH.cons rfl (fun K hK => ?_) AllReadyH.nil)
      go_simp
      have h4 := Lib.hid (hX3.out.below ((Below.refl w3.heap.size w3).alloc (Nat.le_refl _) (.cells #[.int .i64 (N : Int)] 3)))
      have HB4 : Hid (Below w.heap.size w (w3.alloc (.cells #[.int .i64 (N : Int)] 3))) := HB3.out.alloc (by have := HB3.out.size; omega) _
      have cN : (w3.alloc (.cells #[.int .i64 (N : Int)] 3)).cell? ⟨w3.heap.size, 0, none⟩ = some (.int .i64 (N : Int)) := by
        rw [cell_of_row _ _ 0 _ _ _ (alloc_at w3 _)]; rfl
      refine hK.out _ _ ⟨(HC.out _ h4.out).1, (HC.out _ h4.out).2.1⟩ (fun hHeld => ?_)
      generalize w3.alloc (.cells #[.int .i64 (N : Int)] 3) = w4 at h4 HB4 cN ⊢
      generalize w3.heap.size = g1 at cN ⊢
      clear hX3 HB3
      clear hK K
      try simp only [List.getElem_toArray, List.getElem_cons_succ, List.getElem_cons_zero, Act.put, List.setIfInBounds_toArray, List.set_cons_zero, List.set_cons_succ]
      refine wpAnyH_ready (rs := [14]) (by kernel_rfl) (by simp) ?_
      refine (AllReadyH.cons rfl (fun K hK => ?_) AllReadyH.nil)
      go_simp
      refine (FR.out w4 g1 cN).mono ?_
      rintro e9 w5 ⟨rfl, hr5, hb5⟩
      have h5 := Lib.hid (h4.out.below hb5)
      have HB5 := Lib.hid (HB4.out.trans (hb5.mono HB4.out.size))
      have HR5 := Lib.hid hr5
      have hg5 := HB4.out.size
      clear hr5 hb5 h4 cN
      generalize w4.heap.size = g5 at HR5 hg5 ⊢
      refine hK.out _ _ ⟨(HC.out _ h5.out).1, (HC.out _ h5.out).2.1⟩ (fun hHeld => ?_)
      clear HB4
      clear hK K
      try simp only [List.getElem_toArray, List.getElem_cons_succ, List.getElem_cons_zero, Act.put, List.setIfInBounds_toArray, List.set_cons_zero, List.set_cons_succ]
      refine wpAnyH_take (i := 15) (v := ?v39) rfl (by kernel_rfl) (by kernel_rfl) (by kernel_rfl) (fun _ _ _ h => h) (Or.inl ⟨rfl, fun w' hw' => ?h39⟩) hHeld ?r39
      case h39 =>
        go_simp
        try with_reducible rfl
      simp only [List.getElem_toArray, List.getElem_cons_succ, List.getElem_cons_zero, Act.put, List.setIfInBounds_toArray, List.set_cons_zero, List.set_cons_succ]
      refine wpAnyH_done (by kernel_rfl) ?_ _
      refine NoPanic.normal ?_
      clear hHeld
      go_wp2_with fail
      have HLO : Hid (b2 < g5 ∧ ∀ k, G2 = some k → k < g5) := ⟨by have := HX0.out.1; omega, fun k hk => by have := HX0.out.2 k hk; omega⟩
      have h5 := Lib.hid (h5.out.below (Below.refl w5.heap.size w5).drew)
      have HB5 := Lib.hid (HB5.out.drew)
      have HR5 : Hid (IRw w5.drew g5 (List.replicate np (N : Int))) := HR5.out
      clear hX HBX
      refine wp_region_noPanic ?_
      refine wp_region_held_drew (S := fun W => W.cell? ⟨c, 0, none⟩ = some (.pointer (some ⟨b, 0, none⟩)) ∧ W.cell? ⟨c, 4, none⟩ = some (.pointer (some ⟨b2, 0, none⟩)) ∧ W.cell? ⟨c, 5, none⟩ = some (.slice (some ⟨kb, 0, none⟩) U U)) (by kernel_rfl) ⟨(HC.out _ h5.out).1, (HC.out _ h5.out).2.1, (HC.out _ h5.out).2.2.1⟩ (fun hHeld => ?_)
      generalize w5.drew = Y at h5 HB5 HR5 hHeld ⊢
      refine wpAnyH_take (i := 0) (v := ?v40) rfl (by kernel_rfl) (by kernel_rfl) (by kernel_rfl) (fun _ _ _ h => h) (Or.inl ⟨rfl, fun w' hw' => ?h40⟩) hHeld ?r40
      case h40 =>
        (go_simp; try omega)
        try with_reducible rfl
      simp only [List.getElem_toArray, List.getElem_cons_succ, List.getElem_cons_zero, Act.put, List.setIfInBounds_toArray, List.set_cons_zero, List.set_cons_succ]
      refine wpAnyH_take (i := 1) (v := ?v41) rfl (by kernel_rfl) (by kernel_rfl) (by kernel_rfl) (fun _ _ _ h => h) (Or.inl ⟨rfl, fun w' hw' => ?h41⟩) hHeld ?r41
      case h41 =>
        (go_simp; try omega)
        try with_reducible rfl
      simp only [List.getElem_toArray, List.getElem_cons_succ, List.getElem_cons_zero, Act.put, List.setIfInBounds_toArray, List.set_cons_zero, List.set_cons_succ]
      refine wpAnyH_take (i := 2) (v := ?v42) rfl (by kernel_rfl) (by kernel_rfl) (by kernel_rfl) (fun _ _ _ h => h) (Or.inl ⟨rfl, fun w' hw' => ?h42⟩) hHeld ?r42
      case h42 =>
        (go_simp; try omega)
        try with_reducible rfl
      simp only [List.getElem_toArray, List.getElem_cons_succ, List.getElem_cons_zero, Act.put, List.setIfInBounds_toArray, List.set_cons_zero, List.set_cons_succ]
      refine wpAnyH_take (i := 3) (v := ?v43) rfl (by kernel_rfl) (by kernel_rfl) (by kernel_rfl) (fun _ _ _ h => h) (Or.inl ⟨rfl, fun w' hw' => ?h43⟩) hHeld ?r43
      case h43 =>
        (obtain ⟨_, _, d0⟩ := hw'; go_simp)
        try with_reducible rfl
      simp only [List.getElem_toArray, List.getElem_cons_succ, List.getElem_cons_zero, Act.put, List.setIfInBounds_toArray, List.set_cons_zero, List.set_cons_succ]
      refine wpAnyH_take (i := 4) (v := ?v44) rfl (by kernel_rfl) (by kernel_rfl) (by kernel_rfl) (fun _ _ _ h => h) (Or.inl ⟨rfl, fun w' hw' => ?h44⟩) hHeld ?r44
      case h44 =>
        (go_simp; try omega)
        try with_reducible rfl
      simp only [List.getElem_toArray, List.getElem_cons_succ, List.getElem_cons_zero, Act.put, List.setIfInBounds_toArray, List.set_cons_zero, List.set_cons_succ]
      refine wpAnyH_take (i := 5) (v := ?v45) rfl (by kernel_rfl) (by kernel_rfl) (by kernel_rfl) (fun _ _ _ h => h) (Or.inl ⟨rfl, fun w' hw' => ?h45⟩) hHeld ?r45
      case h45 =>
        (go_simp; try omega)
        try with_reducible rfl
      simp only [List.getElem_toArray, List.getElem_cons_succ, List.getElem_cons_zero, Act.put, List.setIfInBounds_toArray, List.set_cons_zero, List.set_cons_succ]
      refine wpAnyH_take (i := 6) (v := ?v46) rfl (by kernel_rfl) (by kernel_rfl) (by kernel_rfl) (fun _ _ _ h => h) (Or.inl ⟨rfl, fun w' hw' => ?h46⟩) hHeld ?r46
      case h46 =>
        (go_simp; try omega)
        try with_reducible rfl
      simp only [List.getElem_toArray, List.getElem_cons_succ, List.getElem_cons_zero, Act.put, List.setIfInBounds_toArray, List.set_cons_zero, List.set_cons_succ]
      refine wpAnyH_take (i := 7) (v := ?v47) rfl (by kernel_rfl) (by kernel_rfl) (by kernel_rfl) (fun _ _ _ h => h) (Or.inl ⟨rfl, fun w' hw' => ?h47⟩) hHeld ?r47
      case h47 =>
        (go_simp; try omega)
        try with_reducible rfl
      simp only [List.getElem_toArray, List.getElem_cons_succ, List.getElem_cons_zero, Act.put, List.setIfInBounds_toArray, List.set_cons_zero, List.set_cons_succ]
      refine wpAnyH_take (i := 8) (v := ?v48) rfl (by kernel_rfl) (by kernel_rfl) (by kernel_rfl) (fun _ _ _ h => h) (Or.inl ⟨rfl, fun w' hw' => ?h48⟩) hHeld ?r48
      case h48 =>
        (obtain ⟨_, d0, _⟩ := hw'; go_simp)
        try with_reducible rfl
      simp only [List.getElem_toArray, List.getElem_cons_succ, List.getElem_cons_zero, Act.put, List.setIfInBounds_toArray, List.set_cons_zero, List.set_cons_succ]
      refine wpAnyH_take (i := 9) (v := ?v49) rfl (by kernel_rfl) (by kernel_rfl) (by kernel_rfl) (fun _ _ _ h => h) (Or.inl ⟨rfl, fun w' hw' => ?h49⟩) hHeld ?r49
      case h49 =>
        (go_simp; try omega)
        try with_reducible rfl
      simp only [List.getElem_toArray, List.getElem_cons_succ, List.getElem_cons_zero, Act.put, List.setIfInBounds_toArray, List.set_cons_zero, List.set_cons_succ]
      refine wpAnyH_take (i := 10) (v := ?v50) rfl (by kernel_rfl) (by kernel_rfl) (by kernel_rfl) (fun _ _ _ h => h) (Or.inl ⟨rfl, fun w' hw' => ?h50⟩) hHeld ?r50
      case h50 =>
        (go_simp; try omega)
        try with_reducible rfl
      simp only [List.getElem_toArray, List.getElem_cons_succ, List.getElem_cons_zero, Act.put, List.setIfInBounds_toArray, List.set_cons_zero, List.set_cons_succ]
      refine wpAnyH_take (i := 11) (v := ?v51) rfl (by kernel_rfl) (by kernel_rfl) (by kernel_rfl) (fun _ _ _ h => h) (Or.inl ⟨rfl, fun w' hw' => ?h51⟩) hHeld ?r51
      case h51 =>
        (go_simp; try omega)
        try with_reducible rfl
      simp only [List.getElem_toArray, List.getElem_cons_succ, List.getElem_cons_zero, Act.put, List.setIfInBounds_toArray, List.set_cons_zero, List.set_cons_succ]
      refine wpAnyH_take (i := 12) (v := ?v52) rfl (by kernel_rfl) (by kernel_rfl) (by kernel_rfl) (fun _ _ _ h => h) (Or.inl ⟨rfl, fun w' hw' => ?h52⟩) hHeld ?r52
      case h52 =>
        (go_simp; try omega)
        try with_reducible rfl
      simp only [List.getElem_toArray, List.getElem_cons_succ, List.getElem_cons_zero, Act.put, List.setIfInBounds_toArray, List.set_cons_zero, List.set_cons_succ]
      refine wpAnyH_take (i := 13) (v := ?v53) rfl (by kernel_rfl) (by kernel_rfl) (by kernel_rfl) (fun _ _ _ h => h) (Or.inl ⟨rfl, fun w' hw' => ?h53⟩) hHeld ?r53
      case h53 =>
        (obtain ⟨d0, _, _⟩ := hw'; go_simp)
        try with_reducible rfl
      simp only [List.getElem_toArray, List.getElem_cons_succ, List.getElem_cons_zero, Act.put, List.setIfInBounds_toArray, List.set_cons_zero, List.set_cons_succ]
      refine wpAnyH_take (i := 14) (v := ?v54) rfl (by kernel_rfl) (by kernel_rfl) (by kernel_rfl) (fun _ _ _ h => h) (Or.inl ⟨rfl, fun w' hw' => ?h54⟩) hHeld ?r54
      case h54 =>
        (go_simp; try omega)
        try with_reducible rfl
      simp only [List.getElem_toArray, List.getElem_cons_succ, List.getElem_cons_zero, Act.put, List.setIfInBounds_toArray, List.set_cons_zero, List.set_cons_succ]
      refine wpAnyH_take (i := 16) (v := ?v55) rfl (by kernel_rfl) (by kernel_rfl) (by kernel_rfl) (fun _ _ _ h => h) (Or.inl ⟨rfl, fun w' hw' => ?h55⟩) hHeld ?r55
      case h55 =>
        (go_simp; try omega)
        try with_reducible rfl
      simp only [List.getElem_toArray, List.getElem_cons_succ, List.getElem_cons_zero, Act.put, List.setIfInBounds_toArray, List.set_cons_zero, List.set_cons_succ]
      refine wpAnyH_take (i := 17) (v := ?v56) rfl (by kernel_rfl) (by kernel_rfl) (by kernel_rfl) (fun _ _ _ h => h) (Or.inl ⟨rfl, fun w' hw' => ?h56⟩) hHeld ?r56
      case h56 =>
        (go_simp; try omega)
        try with_reducible rfl
      simp only [List.getElem_toArray, List.getElem_cons_succ, List.getElem_cons_zero, Act.put, List.setIfInBounds_toArray, List.set_cons_zero, List.set_cons_succ]
      refine wpAnyH_take (i := 18) (v := ?v57) rfl (by kernel_rfl) (by kernel_rfl) (by kernel_rfl) (fun _ _ _ h => h) (Or.inl ⟨rfl, fun w' hw' => ?h57⟩) hHeld ?r57
      case h57 =>
        (go_simp; try omega)
        try with_reducible rfl
      simp only [List.getElem_toArray, List.getElem_cons_succ, List.getElem_cons_zero, Act.put, List.setIfInBounds_toArray, List.set_cons_zero, List.set_cons_succ]
      refine wpAnyH_take (i := 19) (v := ?v58) rfl (by kernel_rfl) (by kernel_rfl) (by kernel_rfl) (fun _ _ _ h => h) (Or.inl ⟨rfl, fun w' hw' => ?h58⟩) hHeld ?r58
      case h58 =>
        (go_simp; try omega)
        try with_reducible rfl
      simp only [List.getElem_toArray, List.getElem_cons_succ, List.getElem_cons_zero, Act.put, List.setIfInBounds_toArray, List.set_cons_zero, List.set_cons_succ]
      refine wpAnyH_take (i := 20) (v := ?v59) rfl (by kernel_rfl) (by kernel_rfl) (by kernel_rfl) (fun _ _ _ h => h) (Or.inl ⟨rfl, fun w' hw' => ?h59⟩) hHeld ?r59
      case h59 =>
        (go_simp; try omega)
        try with_reducible rfl
      simp only [List.getElem_toArray, List.getElem_cons_succ, List.getElem_cons_zero, Act.put, List.setIfInBounds_toArray, List.set_cons_zero, List.set_cons_succ]
      refine wpAnyH_take (i := 21) (v := ?v60) rfl (by kernel_rfl) (by kernel_rfl) (by kernel_rfl) (fun _ _ _ h => h) (Or.inl ⟨rfl, fun w' hw' => ?h60⟩) hHeld ?r60
      case h60 =>
        (obtain ⟨d0, _, _⟩ := hw'; go_simp)
        try with_reducible rfl
      simp only [List.getElem_toArray, List.getElem_cons_succ, List.getElem_cons_zero, Act.put, List.setIfInBounds_toArray, List.set_cons_zero, List.set_cons_succ]
      refine wpAnyH_take (i := 22) (v := ?v61) rfl (by kernel_rfl) (by kernel_rfl) (by kernel_rfl) (fun _ _ _ h => h) (Or.inl ⟨rfl, fun w' hw' => ?h61⟩) hHeld ?r61
      case h61 =>
        (go_simp; try omega)
        try with_reducible rfl
      simp only [List.getElem_toArray, List.getElem_cons_succ, List.getElem_cons_zero, Act.put, List.setIfInBounds_toArray, List.set_cons_zero, List.set_cons_succ]
      refine wpAnyH_ready (rs := [15]) (by kernel_rfl) (by simp) ?_
      refine (AllReadyH.cons rfl (fun K hK => ?_) AllReadyH.nil)
      go_simp
      refine (F22.out Y h5.out).mono ?_
      rintro e9 w6 ⟨rfl, hb6⟩
      have h6 := Lib.hid (h5.out.below hb6)
      have HR6 := Lib.hid (HR5.out.fr' (F := fun _ => False) (Fr.of_below hb6) (fun e => e))
      have HB6 := Lib.hid (HB5.out.trans (hb6.mono HB5.out.size))
      have hs6 := hb6.size
      clear hb6 h5 HR5 HB5
      refine hK.out _ _ ⟨(HC.out _ h6.out).1, (HC.out _ h6.out).2.1, (HC.out _ h6.out).2.2.1⟩ (fun hHeld => ?_)
      clear hK K
      try simp only [List.getElem_toArray, List.getElem_cons_succ, List.getElem_cons_zero, Act.put, List.setIfInBounds_toArray, List.set_cons_zero, List.set_cons_succ]
      refine wpAnyH_ready (rs := [23]) (by kernel_rfl) (by simp) ?_
      refine (AllReadyH.cons rfl (fun K hK => ?_) AllReadyH.nil)
      go_simp
      refine (F24.out w6 h6.out).mono ?_
      rintro e9 w7 hr7
      obtain ⟨no, nc, rfl, hown7, hb7⟩ := hr7.form
      have h7 := Lib.hid (h6.out.below hb7)
      have HR7 := Lib.hid (HR6.out.fr' (F := fun _ => False) (Fr.of_below hb7) (fun e => e))
      have HB7 := Lib.hid (HB6.out.trans (hb7.mono HB6.out.size))
      have HAP := Lib.hid ((apart_lt (v := .slice (some ⟨g5, 0, none⟩) np np) rfl (by have := HLO.out.1; omega) (fun e => by have := HLO.out.2 _ e; omega) : Apart _ b2 G2))
      have HAN := Lib.hid (apart_own2 (b2 := b2) (G2 := G2) h6.out.new.1.lt (fun k hk => (h6.out.new.1.glt k hk).1) hown7)
      have HIS := Lib.hid (own_isS hown7)
      have HIP := Lib.hid (HR7.out.isS (n := np) (by simp))
      have F28 := Lib.hid (alloc_yes h7.out.new (hdo os e).t (List.replicate np (N : Int)) (numsOf os e) _ _ HIP.out HIS.out HAP.out HAN.out (fun p hp => by rw [(List.mem_replicate.1 hp).2]; omega) HFT.out HBY.out HRM.out)
      rw [← HN.out] at F28
      clear HAP HAN HIS HIP
      clear hr7 hown7 hb7 h6 HR6 HB6
      refine hK.out _ _ ⟨(HC.out _ h7.out).1, (HC.out _ h7.out).2.1, (HC.out _ h7.out).2.2.1⟩ (fun hHeld => ?_)
      clear hK K
      try simp only [List.getElem_toArray, List.getElem_cons_succ, List.getElem_cons_zero, Act.put, List.setIfInBounds_toArray, List.set_cons_zero, List.set_cons_succ]
      refine wpAnyH_ready (rs := [24]) (by kernel_rfl) (by simp) ?_
      refine (AllReadyH.cons rfl (fun K hK => ?_) AllReadyH.nil)
      go_simp
      refine F28.out.mono ?_
      rintro e9 w8 ⟨rfl, G3, hp8, hf8, hg8⟩
      simp only [pair2]
      have HH8 := Lib.hid hp8
      have HF8 := Lib.hid hf8
      have HG8 := Lib.hid hg8
      have HCE : Hid (w8.heap[c]? = _) := (hf8.block c h7.out.low'.2 (fun e => by rcases e with e | e; have h1 := h7.out.memo.1.cc; rw [e, h7.out.c2] at h1; cases h1; have h1 := h7.out.memo.1.cc; rw [h7.out.cg2 c e] at h1; cases h1)).trans h7.out.cell
      obtain ⟨ks8, hk8, hkl8, -⟩ := h7.out.k
      have hk9 := hk8.fr' hf8 (fun e => by rcases e with e | e; have h1 := h7.out.ck; rw [e, h7.out.c2] at h1; cases h1; have h1 := h7.out.ck; rw [h7.out.cg2 kb e] at h1; cases h1)
      rw [← HU.out] at HCE hkl8
      obtain ⟨v8, hv8⟩ : ∃ v8, ks8[e]? = some v8 := ⟨_, List.getElem?_eq_getElem (by omega)⟩
      have cv8 := hk9.cell? hv8
      have fv8 := hk9.frz e
      have HK9 := Lib.hid (hk9.self (show e < ks8.length by omega) (N : Int))
      have HKW := Lib.hid (hk9.put e (N : Int))
      clear hk8 hv8 hp8 hf8 hg8 hk9
      have s0 : w8.cell? ⟨c, 0, none⟩ = some (.pointer (some ⟨b, 0, none⟩)) := by rw [cell_of_row _ _ _ _ _ _ HCE.out]; rfl
      have s4 : w8.cell? ⟨c, 4, none⟩ = some (.pointer (some ⟨b2, 0, none⟩)) := by rw [cell_of_row _ _ _ _ _ _ HCE.out]; rfl
      have s5 : w8.cell? ⟨c, 5, none⟩ = some (.slice (some ⟨kb, 0, none⟩) U U) := by rw [cell_of_row _ _ _ _ _ _ HCE.out]; rfl
      refine hK.out _ _ ⟨s0, s4, s5⟩ (fun hHeld => ?_)
      clear hK K
      try simp only [List.getElem_toArray, List.getElem_cons_succ, List.getElem_cons_zero, Act.put, List.setIfInBounds_toArray, List.set_cons_zero, List.set_cons_succ]
      refine wpAnyH_take (i := 25) (v := ?v62) rfl (by kernel_rfl) (by kernel_rfl) (by kernel_rfl) (fun _ _ _ h => h) (Or.inl ⟨rfl, fun w' hw' => ?h62⟩) hHeld ?r62
      case h62 =>
        (go_simp; try omega)
        try with_reducible rfl
      simp only [List.getElem_toArray, List.getElem_cons_succ, List.getElem_cons_zero, Act.put, List.setIfInBounds_toArray, List.set_cons_zero, List.set_cons_succ]
      refine wpAnyH_take (i := 26) (v := ?v63) rfl (by kernel_rfl) (by kernel_rfl) (by kernel_rfl) (fun _ _ _ h => h) (Or.inl ⟨rfl, fun w' hw' => ?h63⟩) hHeld ?r63
      case h63 =>
        (go_simp; try omega)
        try with_reducible rfl
      simp only [List.getElem_toArray, List.getElem_cons_succ, List.getElem_cons_zero, Act.put, List.setIfInBounds_toArray, List.set_cons_zero, List.set_cons_succ]
      refine wpAnyH_take (i := 27) (v := ?v64) rfl (by kernel_rfl) (by kernel_rfl) (by kernel_rfl) (fun _ _ _ h => h) (Or.inl ⟨rfl, fun w' hw' => ?h64⟩) hHeld ?r64
      case h64 =>
        (go_simp; try omega)
        try with_reducible rfl
      simp only [List.getElem_toArray, List.getElem_cons_succ, List.getElem_cons_zero, Act.put, List.setIfInBounds_toArray, List.set_cons_zero, List.set_cons_succ]
      refine wpAnyH_take (i := 28) (v := Value.pointer (some ⟨kb, e, none⟩)) rfl (by kernel_rfl) (by kernel_rfl) (by kernel_rfl) (fun _ _ _ h => h) (Or.inl ⟨rfl, fun w' hw' => ?_⟩) hHeld ?_
      · (go_simp; try omega)
      simp only [List.getElem_toArray, List.getElem_cons_succ, List.getElem_cons_zero, Act.put, List.setIfInBounds_toArray, List.set_cons_zero, List.set_cons_succ]
      refine wpAnyH_ready (rs := [29]) (by kernel_rfl) (by simp) ?_
      refine (AllReadyH.cons rfl (fun K hK => ?_) AllReadyH.nil)
      go_simp
      have HC9 : Hid ((w8.setCell ⟨kb, e, none⟩ (.int .i64 (N : Int))).heap[c]? = _) := (Below.heap_setCell _ _ _ _ (fun x => by have h1 := h7.out.memo.1.cc; rw [show c = kb from x, h7.out.ck] at h1; cases h1)).trans HCE.out
      have t0 : (w8.setCell ⟨kb, e, none⟩ (.int .i64 (N : Int))).cell? ⟨c, 0, none⟩ = some (.pointer (some ⟨b, 0, none⟩)) := by rw [cell_of_row _ _ _ _ _ _ HC9.out]; rfl
      have t4 : (w8.setCell ⟨kb, e, none⟩ (.int .i64 (N : Int))).cell? ⟨c, 4, none⟩ = some (.pointer (some ⟨b2, 0, none⟩)) := by rw [cell_of_row _ _ _ _ _ _ HC9.out]; rfl
      have t5 : (w8.setCell ⟨kb, e, none⟩ (.int .i64 (N : Int))).cell? ⟨c, 5, none⟩ = some (.slice (some ⟨kb, 0, none⟩) U U) := by rw [cell_of_row _ _ _ _ _ _ HC9.out]; rfl
      have t6 : (w8.setCell ⟨kb, e, none⟩ (.int .i64 (N : Int))).cell? ⟨c, 6, none⟩ = some dv := by rw [cell_of_row _ _ _ _ _ _ HC9.out]; rfl
      refine hK.out _ _ ⟨t0, t4, t5⟩ (fun hHeld => ?_)
      clear cv8 fv8 s0 s4 s5 HCE
      clear hK K
      try simp only [List.getElem_toArray, List.getElem_cons_succ, List.getElem_cons_zero, Act.put, List.setIfInBounds_toArray, List.set_cons_zero, List.set_cons_succ]
      refine wpAnyH_done (by kernel_rfl) ?_ _
      refine NoPanic.normal ?_
      clear hHeld
      have HO : Hid ((w8.setCell ⟨kb, e, none⟩ (.int .i64 (N : Int))).ownsRow B 3 1 dv D.length (D.map (Value.int .i64))) := by
        have h1 := h7.out.done
        have h2 := own_fr h1 HF8.out (fun k hk e => by
          have a1 := h7.out.cd k hk
          rcases e with e | e
          · rw [e, h7.out.c2] at a1; cases a1
          · rw [h7.out.cg2 k e] at a1; cases a1)
        exact own_fr (F := fun k => k = kb) h2 (Fr.setCell (F := fun k => k = kb) (p := ⟨kb, e, none⟩) (Fr.refl _ _) rfl _) (fun k hk x => by
          have a1 := h7.out.cd k hk
          rw [x, h7.out.ck] at a1; cases a1)
      have hkc : kb ≠ c := fun x => by
        have h1 := h7.out.ck
        rw [x, h7.out.memo.1.cc] at h1; cases h1
      have hkc2 : c ≠ kb := hkc.symm
      obtain ⟨W9, hW9⟩ : ∃ W9, W9 = w8.setCell ⟨kb, e, none⟩ (.int .i64 (N : Int)) := ⟨_, rfl⟩
      rw [← hW9] at HC9 t0 t4 t5 t6 HO HK9 HKW ⊢
      have HW9 := Lib.hid hW9
      clear hW9
      have HSR := Lib.hid (srcA_one (d := .int .i64 (e : Int)) (T := 3) (alloc_at W9 (.cells #[.int .i64 (e : Int)] 3)) rfl 1)
      have HA9 : Hid (Below W9.heap.size W9 (W9.alloc (.cells #[.int .i64 (e : Int)] 3))) := (Below.refl _ _).alloc (Nat.le_refl _) _
      have HO2 := Lib.hid (own_below HO.out HA9.out)
      have hBW9 : B ≤ (W9.alloc (.cells #[.int .i64 (e : Int)] 3)).heap.size := by
        have a1 := HBW.out
        have a2 := HB7.out.size
        have a3 := HF8.out.size
        have a4 : W9.heap.size = w8.heap.size := by rw [HW9.out]; simp [World.setCell]
        have a5 := HA9.out.size
        omega
      obtain ⟨RM, hRM⟩ : ∃ RM, RM = D.map (Value.int .i64) := ⟨_, rfl⟩
      rw [← hRM] at HO2
      have HRM := Lib.hid hRM
      obtain ⟨DL, hDL⟩ : ∃ DL, DL = D.length := ⟨_, rfl⟩
      rw [← hDL] at HO2 hdl
      have HDL := Lib.hid hDL
      obtain ⟨dao, dcap, hdv⟩ := own_sform HO2.out
      have HDV := Lib.hid hdv
      rw [hdv] at t6 HO2
      have HNE : Hid ((Value.slice dao DL dcap).ownBlock ≠ some c) := fun x => by
        rw [← hdv] at x
        have h1 := h7.out.memo.1.cc
        rw [h7.out.cd c x] at h1; cases h1
      have HNK : Hid ((Value.slice dao DL dcap).ownBlock ≠ some kb) := fun x => by
        rw [← HDV.out] at x
        have h1 := h7.out.ck
        rw [h7.out.cd kb x] at h1; cases h1
      clear hRM hDL HO t0 t4 t5 hdv
      go_wp2_with (refine wpList_wantedR (by rfl) fun K hK => ?_; refine wp_appI (Operand.tmp 62) (Operand.tmp 64) rfl B (.slice dao DL dcap) DL RM rfl HO2.out (.slice (some ⟨W9.heap.size, 0, none⟩) 1 1) rfl 1 _ HSR.out hdl hBW9 ?_; intro v10 w10 hown10 hg10 hv10; obtain ⟨o10, k10, rfl⟩ := own_sform hown10; have HO10 := Lib.hid hown10; have HG10 := Lib.hid hg10; have HV10 := Lib.hid hv10; have HC10 := Lib.hid (blk_grown HC9.out HA9.out hg10 HNE.out); clear t6; have u6 : w10.cell? ⟨c, 6, none⟩ = some dv := (by rw [cell_of_row _ _ _ _ _ _ HC10.out]; rfl); have f6 := frozen_of_row w10 c 6 _ _ HC10.out; have u5 : w10.cell? ⟨c, 5, none⟩ = some (.slice (some ⟨kb, 0, none⟩) U U) := (by rw [cell_of_row _ _ _ _ _ _ HC10.out]; rfl); have uk := cell_grown HK9.out HA9.out hg10 HNK.out; clear hown10 hg10 hv10; refine hK _ _ ?_; clear hK K)
      have HFIN : Hid (∃ C' : Nat → Nat, Cop B (w10.setCell ⟨c, 6, none⟩ (.slice o10 (DL + 1) k10)) C' c b G os m dp eb pb pk b2 G3 kb (.slice o10 (DL + 1) k10) (D ++ [(e : Int)]) (Q ++ [List.replicate np (N : Int)]) ∧ Cst C w C' (w10.setCell ⟨c, 6, none⟩ (.slice o10 (DL + 1) k10))) := by
        have a1 := HG10.out
        have a2 := HV10.out
        have a3 := HO10.out
        rw [HW9.out, ← HDV.out] at a1 a2
        rw [HRM.out, HDL.out] at a3
        rw [HDL.out] at a2 ⊢
        obtain ⟨C', z1, z2⟩ := h7.out.copy HV.out HE.out (q := List.replicate np (N : Int)) (by rw [List.length_replicate, HNP.out]) HN.out HH8.out HF8.out HG8.out a3 a1 a2
        exact ⟨C', z1, (⟨Fr.of_below HB7.out, fun _ _ => rfl⟩ : Cst C w C w7).trans z2⟩
      go_ret
      obtain ⟨C', z1, z2⟩ := HFIN.out
      exact ⟨rfl, C', pk, G3, _, [List.replicate np (N : Int)], z1, z2⟩
end Go.Proofs.Ytkekekdkfjjifaa
