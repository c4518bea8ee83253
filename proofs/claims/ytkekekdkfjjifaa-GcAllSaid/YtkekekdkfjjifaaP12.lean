/- An object is laid behind all others. -/
import Derived.Test.YtkekekdkfjjifaaZC
import Derived.Test.YtkekekdkfjjifaaZB
namespace Go.Proofs.Ytkekekdkfjjifaa
open Go Go.RowKit
set_option linter.unusedVariables false
set_option linter.unusedSimpArgs false
theorem Apart.new {xv : Value} {b : Nat} {G G' : Option Nat} {w : World} {xs : List Int} (h : Apart xv b G) (hx : IsS w xv xs) (hG : ∀ k, G' = some k → G = some k ∨ w.heap.size ≤ k) : Apart xv b G' := by
  intro ao n c g o e1 hn e2
  refine ⟨(h ao n c g o e1 hn e2).1, fun e3 => ?_⟩
  rcases hG g e3 with h1 | h1
  · exact (h ao n c g o e1 hn e2).2 h1
  · obtain ⟨ao', cap, e, _, hr⟩ := hx
    rw [e1] at e
    injection e with e4 e5 e6
    rcases hr with ⟨h2, h3⟩ | ⟨g', o', h2, h3⟩
    · rw [h3] at e5; simp at e5; omega
    · rw [e2, h2] at e4
      injection e4 with e4
      injection e4 with e7 e8
      have := World.block_lt_of_cell? w _ (h3 0 (by omega))
      simp only at this
      omega
theorem wds_snoc_new (os : List Ob) (t : Nat) (ps ns : List Int) : filled (filled ((wds os ++ List.replicate (newO t ps ns).size zw).set (total os) (newO t ps ns).head) (total os + 1) ps) (total os + 1 + ps.length) ns = wds (os ++ [newO t ps ns]) := by
  rw [← filled_append]
  have hl := wds_length os
  have hs : (newO t ps ns).size = (newO t ps ns).body.length + 1 := rfl
  have hb := newO_len t ps ns
  have e1 : (wds os ++ List.replicate (newO t ps ns).size zw).set (total os) (newO t ps ns).head = (wds os ++ [(newO t ps ns).head]) ++ List.replicate (ps ++ ns).length zw ++ List.replicate (1 - (ps.length + ns.length)) zw := by
    rw [List.set_append_right _ _ (by omega), hl, Nat.sub_self, hs, List.replicate_succ, List.set_cons_zero, hb]
    rw [List.append_assoc, List.append_assoc, List.replicate_append_replicate, List.length_append, show ps.length + ns.length + (1 - (ps.length + ns.length)) = max 1 (ps.length + ns.length) by omega]
    simp
  rw [e1]
  have e2 : total os + 1 = (wds os ++ [(newO t ps ns).head]).length := by simp [hl]
  rw [e2]
  have := filled_new (ps ++ ns) (wds os ++ [(newO t ps ns).head]) (List.replicate (1 - (ps.length + ns.length)) zw)
  rw [show (zw : Wd) = ⟨0, 0, 0, 0, 0⟩ from rfl] at this ⊢
  rw [this, wds_append]
  show _ = wds os ++ (Ob.wds _ ++ [])
  simp [Ob.wds, newO, List.map_append]
theorem HpO.snoc {w W : World} {b : Nat} {G G' : Option Nat} {os : List Ob} {m : Nat} (h : HpO w b G os m) {t : Nat} {ps ns : List Int} (h1 : 1 ≤ t) (h2 : t ≤ 7) (h3 : ps.length ≤ 60) (h4 : ns.length ≤ 60) (h5 : Shp t ps ns) (hv : ∀ p ∈ ps, bey os p = false) (hr : total os + (newO t ps ns).size ≤ m)
    (hH : Hp W b G' (wds (os ++ [newO t ps ns])) m) : HpO W b G' (os ++ [newO t ps ns]) m := by
  refine ⟨hH, oks_snoc h.2.1 (newO_ok h1 h2 h3 h4 h5), ?_, h.2.2.2.1, by rw [total_append]; simpa [total] using hr⟩
  intro x hx p hp
  rw [ob_snoc]
  split
  · exact ⟨_, rfl⟩
  · rename_i hne
    simp at hx
    rcases hx with hx | rfl
    · exact h.2.2.1 x hx p hp
    · rw [newO_ptrs] at hp
      have := hv p hp
      unfold bey at this
      cases hob : ob os p with
      | some q => exact ⟨q, rfl⟩
      | none => rw [hob] at this; simp at this; exact absurd this hne
theorem own_sform {w : World} {B : Nat} {e : TypeId} {s : Nat} {v : Value} {n : Nat} {xs : List Value} (h : w.ownsRow B e s v n xs) : ∃ ao c, v = .slice ao n c := by
  rcases h.2 with ⟨rfl, h0⟩ | ⟨g, cap, cur, rfl, _⟩
  · exact ⟨none, 0, by rw [h0]⟩
  · exact ⟨_, _, rfl⟩
theorem IsS.fr {F : Nat → Prop} {w w' : World} {v : Value} {l : List Int} (h : IsS w v l) (hf : Fr F w w') (hn : ∀ ao n c g o, v = .slice ao n c → 0 < n → ao = some ⟨g, o, none⟩ → ¬ F g) : IsS w' v l := by
  obtain ⟨ao, cap, e, hc, h⟩ := h
  refine ⟨ao, cap, e, hc, ?_⟩
  rcases h with h | ⟨g, o, e2, h⟩
  · exact .inl h
  · refine .inr ⟨g, o, e2, fun i hi => ?_⟩
    have := h i hi
    exact (World.cell?_of_block (w := w) (a := ⟨g, o + i, none⟩) (hf.block g (World.block_lt_of_cell? w _ this) (hn ao _ cap g o e (by omega) e2))).trans this
set_option maxHeartbeats 16000000 in
set_option maxRecDepth 100000 in
theorem put_o {w : World} {b : Nat} {G : Option Nat} {os : List Ob} {m : Nat} (h : HpO w b G os m) (t : Nat) (ps ns : List Int) (pv nv : Value) (hp : IsS w pv ps) (hn : IsS w nv ns) (ap : Apart pv b G) (an : Apart nv b G)
    (h1 : 1 ≤ t) (h2 : t ≤ 7) (h3 : ps.length ≤ 60) (h4 : ns.length ≤ 60) (h5 : Shp t ps ns) (hv : ∀ p ∈ ps, bey os p = false) (hr : total os + (newO t ps ns).size ≤ m) :
    Calls Try.prog 56 #[.pointer (some ⟨b, 0, none⟩), .agg #[.int .u8 t, .int .u8 ps.length, .int .u8 ns.length, .int .u8 (newO t ps ns).size], pv, nv] w (RetHp (.int .i64 (total os)) b G (os ++ [newO t ps ns]) m w) := by
  have HH := Lib.hid h
  have HP := Lib.hid hp
  have HNS := Lib.hid hn
  have AP := Lib.hid ap
  have AN := Lib.hid an
  have hszb : (newO t ps ns).size ≤ 121 := by rw [newO_size]; omega
  have hsz2 : 2 ≤ (newO t ps ns).size := by rw [newO_size]; omega
  have hszpn : 1 + ps.length + ns.length ≤ (newO t ps ns).size := by rw [newO_size]; omega
  have FIN : Hid (∀ W G', Hp W b G' (wds (os ++ [newO t ps ns])) m → HpO W b G' (os ++ [newO t ps ns]) m) := fun W G' hH => HH.out.snoc h1 h2 h3 h4 h5 hv hr hH
  have HWN := Lib.hid (wds_snoc_new os t ps ns)
  have hbl := h.1.lt
  have hm := h.2.2.2
  have hwl := wds_length os
  obtain ⟨pa, pc, rfl, hpc, _⟩ := hp
  obtain ⟨na, nc, rfl, hnc, _⟩ := hn
  clear h hv ap an
  have HHD : Hid ((newO t ps ns).head = ⟨t, ps.length, ns.length, (newO t ps ns).size, 0⟩) := rfl
  obtain ⟨sz, hszd⟩ : ∃ sz, sz = (newO t ps ns).size := ⟨_, rfl⟩
  rw [← hszd] at hszb hsz2 hszpn hr HWN HHD ⊢
  rw [HHD.out] at HWN
  generalize os ++ [newO t ps ns] = os2 at FIN HWN ⊢
  clear HHD hszd
  obtain ⟨p, hpd⟩ : ∃ p, p = ps.length := ⟨_, rfl⟩
  obtain ⟨n, hnd⟩ : ∃ n, n = ns.length := ⟨_, rfl⟩
  have HPD := Lib.hid hpd
  have HND := Lib.hid hnd
  rw [← hpd] at hpc h3 hszpn HWN ⊢
  rw [← hnd] at hnc h4 hszpn HWN ⊢
  clear hpd hnd h5
  obtain ⟨N, hN⟩ : ∃ N, N = total os := ⟨_, rfl⟩
  rw [← hN] at hr hm hwl HWN ⊢
  have HNN := Lib.hid hN
  clear hN
  have hx0 : (w.alloc (.cells #[.int .u8 t, .int .u8 p, .int .u8 n, .int .u8 sz] 77)).heap[w.heap.size]? = some (.cells #[.int .u8 t, .int .u8 p, .int .u8 n, .int .u8 sz] 77 (0, 0)) := alloc_at _ _
  have hb0 : Below w.heap.size w (w.alloc (.cells #[.int .u8 t, .int .u8 p, .int .u8 n, .int .u8 sz] 77)) := (Below.refl _ _).alloc (Nat.le_refl _) _
  have hs0 : (w.alloc (.cells #[.int .u8 t, .int .u8 p, .int .u8 n, .int .u8 sz] 77)).heap.size = w.heap.size + 1 := by simp
  generalize hW1 : w.alloc (.cells #[.int .u8 t, .int .u8 p, .int .u8 n, .int .u8 sz] 77) = W1 at hx0 hb0 hs0
  have F48 := Lib.hid (end_any (HH.out.below hb0).1)
  rw [hwl] at F48
  have HW1 := Lib.hid hW1
  have HX0 := Lib.hid hx0
  have HB0 := Lib.hid hb0
  have HS0 := Lib.hid hs0
  clear hW1 hx0 hb0 hs0
  have F49 := Lib.hid (fun W => size_any t p n sz (by omega) W)
  go_enter Try.func56, Try.ntmps56
  go_upto_region 1 with fail
  rw [HW1.out]
  clear HW1
  go_wp2_with fail
  refine F48.out.mono ?_
  rintro e w1 ⟨rfl, rfl⟩
  clear F48
  go_upto_region 2 with fail
  have hsW : w.heap.size < W1.heap.size := by have := HS0.out; omega
  obtain ⟨lv, hbk, hG, hown, hll, hlow⟩ := (HH.out.below HB0.out).1
  obtain ⟨ao, cap, hlv⟩ : ∃ ao cap, lv = .slice ao N cap := by
    rw [hwl] at hown
    rcases hown.2 with ⟨rfl, h0⟩ | ⟨g, cap, cur, rfl, _⟩
    · exact ⟨none, 0, by rw [h0]⟩
    · exact ⟨_, _, rfl⟩
  have hbW : b < W1.heap.size := by omega
  have HC : Hid (∀ w', Below W1.heap.size W1 w' → w'.cell? ⟨b, 0, none⟩ = some (.slice ao N cap) ∧ w'.rangeAt w.heap.size 0 [.int .u8 t, .int .u8 p, .int .u8 n, .int .u8 sz]) := fun w' hw' =>
    ⟨by rw [hw'.cell (p := ⟨b, 0, none⟩) hbW, cell_of_row _ _ _ _ _ _ hbk, ← hlv]; rfl, box_range (by rw [hw'.block _ hsW]; exact HX0.out)⟩
  rw [hwl] at hown
  rw [hlv] at hown hG hbk
  have HBK := Lib.hid hbk
  have HOW : Hid (∀ w', Below W1.heap.size W1 w' → w'.ownsRow 0 79 5 (.slice ao N cap) N (wcells (wds os))) := by
    intro w' hw'
    refine ⟨hown.1, ?_⟩
    rcases hown.2 with h | ⟨g, cap', cur, e, hB, hh, r⟩
    · exact .inl h
    · exact .inr ⟨g, cap', cur, e, hB, (hw'.block g (Array.getElem?_eq_some_iff.1 hh).1).trans hh, r⟩
  have HGB : Hid (∀ k, (Value.slice ao N cap).ownBlock = some k → k ≠ b) := fun k hk => (HH.out.1.glt k (by rw [← hG]; exact hk)).2
  have HGL : Hid (∀ k, (Value.slice ao N cap).ownBlock = some k → k < w.heap.size) := fun k hk => (HH.out.1.glt k (by rw [← hG]; exact hk)).1
  have HG := Lib.hid hG
  have HLO := Lib.hid hlow
  clear hbk hG hown hlv hlow
  refine wp_region_noPanic ?_
  refine wp_region_late (S := fun W => W.cell? ⟨b, 0, none⟩ = some (.slice ao N cap) ∧ W.rangeAt w.heap.size 0 [.int .u8 t, .int .u8 p, .int .u8 n, .int .u8 sz]) (fun i => i == 10) (by kernel_rfl) (HC.out _ (Below.refl _ _).drew) (fun hHeld => ?_)
  have hX := (Below.refl W1.heap.size W1).drew
  generalize W1.drew = X at hHeld hX ⊢
  have hX0 : W1.heap.size ≤ X.heap.size := hX.size
  refine wpAnyL_take (B := [8, 9, 10]) (i := 0) (v := ?v1) rfl (by kernel_rfl) (by kernel_rfl) (by kernel_rfl) (by kernel_rfl) (fun _ _ _ h => h) (Or.inl ⟨rfl, fun w' hw' => ?h1⟩) hHeld ?r1
  case h1 =>
    go_simp
    try with_reducible rfl
  simp only [List.getElem_toArray, List.getElem_cons_succ, List.getElem_cons_zero, Act.put, List.setIfInBounds_toArray, List.set_cons_zero, List.set_cons_succ]
  refine wpAnyL_take (B := [2, 3, 4, 7, 8, 9, 10]) (i := 1) (v := ?v3) rfl (by kernel_rfl) (by kernel_rfl) (by kernel_rfl) (by kernel_rfl) (fun _ _ _ h => h) (Or.inl ⟨rfl, fun w' hw' => ?h3⟩) hHeld ?r3
  case h3 =>
    go_simp
    try with_reducible rfl
  simp only [List.getElem_toArray, List.getElem_cons_succ, List.getElem_cons_zero, Act.put, List.setIfInBounds_toArray, List.set_cons_zero, List.set_cons_succ]
  refine wpAnyL_take (B := [3, 4, 7, 8, 9, 10]) (i := 2) (v := ?v5) rfl (by kernel_rfl) (by kernel_rfl) (by kernel_rfl) (by kernel_rfl) (fun _ _ _ h => h) (Or.inl ⟨rfl, fun w' hw' => ?h5⟩) hHeld ?r5
  case h5 =>
    go_simp
    try with_reducible rfl
  simp only [List.getElem_toArray, List.getElem_cons_succ, List.getElem_cons_zero, Act.put, List.setIfInBounds_toArray, List.set_cons_zero, List.set_cons_succ]
  refine wpAnyL_take (B := [4, 7, 8, 9, 10]) (i := 3) (v := ?v7) rfl (by kernel_rfl) (by kernel_rfl) (by kernel_rfl) (by kernel_rfl) (fun _ _ _ h => h) (Or.inl ⟨rfl, fun w' hw' => ?h7⟩) hHeld ?r7
  case h7 =>
    go_simp
    try with_reducible rfl
  simp only [List.getElem_toArray, List.getElem_cons_succ, List.getElem_cons_zero, Act.put, List.setIfInBounds_toArray, List.set_cons_zero, List.set_cons_succ]
  refine wpAnyL_take (B := [7, 8, 9, 10]) (i := 4) (v := ?v9) rfl (by kernel_rfl) (by kernel_rfl) (by kernel_rfl) (by kernel_rfl) (fun _ _ _ h => h) (Or.inl ⟨rfl, fun w' hw' => ?h9⟩) hHeld ?r9
  case h9 =>
    (obtain ⟨d0, _⟩ := hw'; go_simp)
    try with_reducible rfl
  simp only [List.getElem_toArray, List.getElem_cons_succ, List.getElem_cons_zero, Act.put, List.setIfInBounds_toArray, List.set_cons_zero, List.set_cons_succ]
  refine wpAnyL_take (B := [6, 7, 8, 9, 10]) (i := 5) rfl (by kernel_rfl) (by kernel_rfl) (by kernel_rfl) (by kernel_rfl) (fun _ _ _ h => h) (yieldsIf_load_mid (by rfl) _ _ rfl w.heap.size 0 rfl [.int .u8 t, .int .u8 p, .int .u8 n, .int .u8 sz] _ (fun w' hw' => hw'.2) Try.underlying77 rfl info55) hHeld ?_
  simp only [List.getElem_toArray, List.getElem_cons_succ, List.getElem_cons_zero, Act.put, List.setIfInBounds_toArray, List.set_cons_zero, List.set_cons_succ]
  refine wpAnyL_ready (rs := [6]) (by kernel_rfl) (by simp) ?_
  refine (AllL.cons rfl rfl (fun K hK => ?_) AllL.nil)
  go_simp
  refine (F49.out X).mono ?_
  rintro e w2 ⟨rfl, hw2⟩
  have hS1 : Below W1.heap.size W1 w2 := hX.trans (hw2.mono hX0)
  have HBZ := Lib.hid hS1
  refine hK.out _ _ (HC.out _ hS1) (fun hHeld => ?_)
  clear hw2 hS1 hX0 hX
  clear hK K
  try simp only [List.getElem_toArray, List.getElem_cons_succ, List.getElem_cons_zero, Act.put, List.setIfInBounds_toArray, List.set_cons_zero, List.set_cons_succ]
  refine wpAnyL_ready (rs := [7]) (by kernel_rfl) (by simp) ?_
  refine (AllL.cons rfl rfl (fun K hK => ?_) AllL.nil)
  refine wp_appZ (Operand.tmp 16) (Operand.tmp 18) rfl (.slice ao N cap) N _ rfl (HOW.out w2 HBZ.out) sz rfl (by omega) (by omega) ?_
  intro v9 w9 hown9 hg9 hv9
  have HO9 := Lib.hid hown9
  have HG9 := Lib.hid hg9
  have HV9 := Lib.hid hv9
  have hb9 : w9.heap[b]? = some (.cells #[.slice ao N cap, .int .i64 m] 75 (0, 0)) := (hg9.block b (by have := HBZ.out.size; omega) (fun e => HGB.out b e.symm rfl)).trans ((HBZ.out.block _ hbW).trans HBK.out)
  have HB9 := Lib.hid hb9
  have hx9 : w9.heap[w.heap.size]? = some (.cells #[.int .u8 t, .int .u8 p, .int .u8 n, .int .u8 sz] 77 (0, 0)) := (hg9.block _ (by have := HBZ.out.size; omega) (fun e => by have := HGL.out _ e.symm; omega)).trans ((HBZ.out.block _ hsW).trans HX0.out)
  have HX9 := Lib.hid hx9
  have hS9 : w9.cell? ⟨b, 0, none⟩ = some (.slice ao N cap) ∧ w9.rangeAt w.heap.size 0 [.int .u8 t, .int .u8 p, .int .u8 n, .int .u8 sz] := ⟨by rw [cell_of_row _ _ _ _ _ _ hb9]; rfl, box_range hx9⟩
  clear hown9 hg9 hv9 hb9 hx9
  refine hK.out _ _ hS9 (fun hHeld => ?_)
  clear hS9
  clear hK K
  try simp only [List.getElem_toArray, List.getElem_cons_succ, List.getElem_cons_zero, Act.put, List.setIfInBounds_toArray, List.set_cons_zero, List.set_cons_succ]
  refine wpAnyL_take (B := [9, 10]) (i := 8) (v := ?v11) rfl (by kernel_rfl) (by kernel_rfl) (by kernel_rfl) (by kernel_rfl) (fun _ _ _ h => h) (Or.inl ⟨rfl, fun w' hw' => ?h11⟩) hHeld ?r11
  case h11 =>
    go_simp
    try with_reducible rfl
  simp only [List.getElem_toArray, List.getElem_cons_succ, List.getElem_cons_zero, Act.put, List.setIfInBounds_toArray, List.set_cons_zero, List.set_cons_succ]
  refine wpAnyL_take (B := [10]) (i := 9) (v := ?v13) rfl (by kernel_rfl) (by kernel_rfl) (by kernel_rfl) (by kernel_rfl) (fun _ _ _ h => h) (Or.inl ⟨rfl, fun w' hw' => ?h13⟩) hHeld ?r13
  case h13 =>
    go_simp
    try with_reducible rfl
  simp only [List.getElem_toArray, List.getElem_cons_succ, List.getElem_cons_zero, Act.put, List.setIfInBounds_toArray, List.set_cons_zero, List.set_cons_succ]
  refine wpAnyL_ready (rs := [10]) (by kernel_rfl) (by simp) ?_
  refine (AllL.last (S2 := fun _ => True) rfl rfl (fun K hK => ?_) AllL.nil)
  have c9 : w9.cell? ⟨b, 0, none⟩ = some (.slice ao N cap) := by rw [cell_of_row _ _ _ _ _ _ HB9.out]; rfl
  have f9 : w9.frozen? ⟨b, 0, none⟩ = false := frozen_of_row _ _ _ _ _ HB9.out
  obtain ⟨a9, c9x, hv9⟩ : ∃ a9 c9x, v9 = .slice a9 (N + sz) c9x := own_sform HO9.out
  subst hv9
  go_simp
  refine hK.out _ _ trivial (fun hHeld => ?_)
  clear hK K
  try simp only [List.getElem_toArray, List.getElem_cons_succ, List.getElem_cons_zero, Act.put, List.setIfInBounds_toArray, List.set_cons_zero, List.set_cons_succ]
  refine wpAnyH_done (by kernel_rfl) ?_ _
  refine NoPanic.normal ?_
  clear hHeld
  have h10 : (w9.setCell ⟨b, 0, none⟩ (.slice a9 (N + sz) c9x)).heap[b]? = some (.cells #[.slice a9 (N + sz) c9x, .int .i64 m] 75 (0, 0)) := heap_setCell_same w9 b 0 _ 75 _ HB9.out
  obtain ⟨G', hG'⟩ : ∃ G', G' = (Value.slice a9 (N + sz) c9x).ownBlock := ⟨_, rfl⟩
  have hGG : ∀ k, G' = some k → G = some k ∨ w.heap.size ≤ k := by
    intro k hk
    rcases HV9.out k (by rw [← hG']; exact hk) with h | h
    · exact .inl (by rw [← HG.out]; exact h)
    · exact .inr (by have := HBZ.out.size; omega)
  have hne9 : ∀ k, G' = some k → k ≠ b := by
    intro k hk e
    rcases hGG k hk with h | h
    · exact HGB.out k (by rw [HG.out]; exact h) e
    · omega
  have hp10 : Hp (w9.setCell ⟨b, 0, none⟩ (.slice a9 (N + sz) c9x)) b G' (wds os ++ List.replicate sz zw) m := by
    refine ⟨_, h10, hG'.symm, ?_, by rw [List.length_append, List.length_replicate, hwl]; omega, ?_⟩
    · rw [wcells_append, List.length_append, List.length_replicate, hwl]
      refine ⟨HO9.out.1, ?_⟩
      rcases HO9.out.2 with h | ⟨g, cap', cur, e, hB, hh, r⟩
      · exact .inl h
      · exact .inr ⟨g, cap', cur, e, hB, (Below.heap_setCell _ _ _ _ (hne9 g (by rw [hG', e]; rfl))).trans hh, r⟩
    · intro x hx
      rcases List.mem_append.1 hx with h | h
      · exact HLO.out x h
      · rw [(List.mem_replicate.1 h).2]; simp [zw, Wd.low]
  have hf10 : Fr (own b G) w (w9.setCell ⟨b, 0, none⟩ (.slice a9 (N + sz) c9x)) := by
    have q1 : Fr (own b G) w w2 := Fr.of_below (HB0.out.trans (HBZ.out.mono (by have := HS0.out; omega)))
    have q2 : Fr (own b G) w2 w9 := ⟨HG9.out.os, HG9.out.tape, HG9.out.output, HG9.out.size, fun k hk hn => HG9.out.block k hk (fun e => hn (.inr (by rw [← HG.out, e])))⟩
    exact (q1.trans q2 (fun _ _ h => h)).setCell (.inl rfl) _
  have hx10 : (w9.setCell ⟨b, 0, none⟩ (.slice a9 (N + sz) c9x)).heap[w.heap.size]? = some (.cells #[.int .u8 t, .int .u8 p, .int .u8 n, .int .u8 sz] 77 (0, 0)) := (Below.heap_setCell _ _ _ _ (by show w.heap.size ≠ b; omega)).trans HX9.out
  generalize w9.setCell ⟨b, 0, none⟩ (.slice a9 (N + sz) c9x) = V at h10 hp10 hf10 hx10 ⊢
  have HGG := Lib.hid hGG
  have HNE9 := Lib.hid hne9
  have HF10 := Lib.hid hf10
  have HP10 := Lib.hid hp10
  obtain ⟨g9, rfl⟩ : ∃ g9, a9 = some ⟨g9, 0, none⟩ := by
    rcases HO9.out.2 with ⟨e, h0⟩ | ⟨g, cap', cur, e, _⟩
    · omega
    · injection e with e1 e2 e3; exact ⟨g, e1⟩
  have HGE : Hid (G' = some g9) := hG'
  have hsV : w.heap.size < V.heap.size := (Array.getElem?_eq_some_iff.1 hx10).1
  have hbV : b < V.heap.size := by omega
  have HC3 : Hid (∀ w', Below V.heap.size V w' → w'.cell? ⟨b, 0, none⟩ = some (.slice (some ⟨g9, 0, none⟩) (N + sz) c9x) ∧ w'.rangeAt w.heap.size 0 [.int .u8 t, .int .u8 p, .int .u8 n, .int .u8 sz]) := fun w' hw' =>
    ⟨by rw [hw'.cell (p := ⟨b, 0, none⟩) hbV, cell_of_row _ _ _ _ _ _ h10]; rfl, box_range (by rw [hw'.block _ hsV]; exact hx10)⟩
  have HLL : Hid ((wds os ++ List.replicate sz zw).length = N + sz) := by show _ = _; rw [List.length_append, List.length_replicate, hwl]
  have HAT : Hid ((wds os ++ List.replicate sz zw)[N]? = some zw) := by show _ = _; rw [List.getElem?_append_right (by omega), hwl, Nat.sub_self]; cases sz with | zero => omega | succ q => rfl
  clear h10 hp10 hf10 hx10 hG' hGG hne9 HGB HGL HG HLO HOW HBK HC HBZ HG9 HB9 HX9 HV9 HX0 HB0 HS0 HO9 c9 f9 F49
  go_wp2_with fail
  go_upto_region 3 with fail
  refine wp_region_noPanic ?_
  refine wp_region_late (S := Below V.heap.size V) (fun i => i == 8) (by kernel_rfl) ((Below.refl _ _).drew) (fun hHeld => ?_)
  generalize V.drew = X at hHeld ⊢
  have HBX := Lib.hid hHeld
  have hNsz : N < N + sz := by omega
  refine wpAnyL_take (B := [1, 2, 3, 6, 7, 8]) (i := 0) (v := ?v15) rfl (by kernel_rfl) (by kernel_rfl) (by kernel_rfl) (by kernel_rfl) (fun _ _ _ h => h) (Or.inl ⟨rfl, fun w' hw' => ?h15⟩) hHeld ?r15
  case h15 =>
    go_simp
    try with_reducible rfl
  simp only [List.getElem_toArray, List.getElem_cons_succ, List.getElem_cons_zero, Act.put, List.setIfInBounds_toArray, List.set_cons_zero, List.set_cons_succ]
  refine wpAnyL_take (B := [2, 3, 6, 7, 8]) (i := 1) (v := ?v17) rfl (by kernel_rfl) (by kernel_rfl) (by kernel_rfl) (by kernel_rfl) (fun _ _ _ h => h) (Or.inl ⟨rfl, fun w' hw' => ?h17⟩) hHeld ?r17
  case h17 =>
    go_simp
    try with_reducible rfl
  simp only [List.getElem_toArray, List.getElem_cons_succ, List.getElem_cons_zero, Act.put, List.setIfInBounds_toArray, List.set_cons_zero, List.set_cons_succ]
  refine wpAnyL_take (B := [3, 6, 7, 8]) (i := 2) (v := ?v19) rfl (by kernel_rfl) (by kernel_rfl) (by kernel_rfl) (by kernel_rfl) (fun _ _ _ h => h) (Or.inl ⟨rfl, fun w' hw' => ?h19⟩) hHeld ?r19
  case h19 =>
    go_simp
    try with_reducible rfl
  simp only [List.getElem_toArray, List.getElem_cons_succ, List.getElem_cons_zero, Act.put, List.setIfInBounds_toArray, List.set_cons_zero, List.set_cons_succ]
  refine wpAnyL_take (B := [6, 7, 8]) (i := 3) (v := ?v21) rfl (by kernel_rfl) (by kernel_rfl) (by kernel_rfl) (by kernel_rfl) (fun _ _ _ h => h) (Or.inl ⟨rfl, fun w' hw' => ?h21⟩) hHeld ?r21
  case h21 =>
    (obtain ⟨d0, _⟩ := HC3.out w' hw'; go_simp)
    try with_reducible rfl
  simp only [List.getElem_toArray, List.getElem_cons_succ, List.getElem_cons_zero, Act.put, List.setIfInBounds_toArray, List.set_cons_zero, List.set_cons_succ]
  refine wpAnyL_take (B := [6, 7, 8]) (i := 4) (v := ?v23) rfl (by kernel_rfl) (by kernel_rfl) (by kernel_rfl) (by kernel_rfl) (fun _ _ _ h => h) (Or.inl ⟨rfl, fun w' hw' => ?h23⟩) hHeld ?r23
  case h23 =>
    go_simp
    try with_reducible rfl
  simp only [List.getElem_toArray, List.getElem_cons_succ, List.getElem_cons_zero, Act.put, List.setIfInBounds_toArray, List.set_cons_zero, List.set_cons_succ]
  refine wpAnyL_take (B := [6, 7, 8]) (i := 5) rfl (by kernel_rfl) (by kernel_rfl) (by kernel_rfl) (by kernel_rfl) (fun _ _ _ h => h) (yieldsIf_load_mid (by rfl) _ _ rfl w.heap.size 0 rfl [.int .u8 t, .int .u8 p, .int .u8 n, .int .u8 sz] _ (fun w' hw' => (HC3.out w' hw').2) Try.underlying77 rfl info55) hHeld ?_
  simp only [List.getElem_toArray, List.getElem_cons_succ, List.getElem_cons_zero, Act.put, List.setIfInBounds_toArray, List.set_cons_zero, List.set_cons_succ]
  refine wpAnyL_take (B := [7, 8]) (i := 6) (v := Value.pointer (some ⟨g9, N * 5, none⟩)) rfl (by kernel_rfl) (by kernel_rfl) (by kernel_rfl) (by kernel_rfl) (fun _ _ _ h => h) (Or.inl ⟨rfl, fun w' hw' => ?_⟩) hHeld ?_
  · go_simp; try omega
  simp only [List.getElem_toArray, List.getElem_cons_succ, List.getElem_cons_zero, Act.put, List.setIfInBounds_toArray, List.set_cons_zero, List.set_cons_succ]
  refine wpAnyL_take (B := [8]) (i := 7) (v := ?v27) rfl (by kernel_rfl) (by kernel_rfl) (by kernel_rfl) (by kernel_rfl) (fun _ _ _ h => h) (Or.inl ⟨rfl, fun w' hw' => ?h27⟩) hHeld ?r27
  case h27 =>
    go_simp
    try with_reducible rfl
  simp only [List.getElem_toArray, List.getElem_cons_succ, List.getElem_cons_zero, Act.put, List.setIfInBounds_toArray, List.set_cons_zero, List.set_cons_succ]
  refine wpAnyL_ready (rs := [8]) (by kernel_rfl) (by simp) ?_
  refine (AllL.last (S2 := fun _ => True) rfl rfl (fun K hK => ?_) AllL.nil)
  obtain ⟨_, _, hc0, -, -, hcapx, hcx⟩ := (HP10.out.below HBX.out).cell
  obtain ⟨gw, ew, hGw, ⟨cc, hcc⟩, d0, d1, d2, d3, d4⟩ := hcx N (by rw [HLL.out]; omega)
  obtain rfl : g9 = gw := by have := HGE.out; rw [hGw] at this; injection this with h; exact h.symm
  have z0 := frozen_of_row X g9 (N * 5) _ _ hcc
  have z1 := frozen_of_row X g9 (N * 5 + 1) _ _ hcc
  have z2 := frozen_of_row X g9 (N * 5 + 2) _ _ hcc
  have z3 := frozen_of_row X g9 (N * 5 + 3) _ _ hcc
  clear hcx hcc hGw ew hc0 hcapx d4
  go_simp
  refine hK.out _ _ trivial (fun hHeld => ?_)
  clear z0 z1 z2 z3 d0 d1 d2 d3
  clear hK K
  try simp only [List.getElem_toArray, List.getElem_cons_succ, List.getElem_cons_zero, Act.put, List.setIfInBounds_toArray, List.set_cons_zero, List.set_cons_succ]
  refine wpAnyH_done (by kernel_rfl) ?_ _
  refine NoPanic.normal ?_
  clear hHeld
  have HPX := Lib.hid (HP10.out.below HBX.out)
  have hput := HPX.out.puth HGE.out N (by rw [HLL.out]; omega) ⟨t, p, n, sz, 0⟩ ⟨by simp only; omega, by simp only; omega, by simp only; omega, by simp only; omega⟩ (by
    have h := HAT.out
    rw [List.getElem?_eq_some_iff] at h
    obtain ⟨h7, h8⟩ := h
    rw [h8]; rfl)
  have hfx : Fr (own b G) w ((((X.setCell ⟨g9, N * 5, none⟩ (.int .u8 t)).setCell ⟨g9, N * 5 + 1, none⟩ (.int .u8 p)).setCell ⟨g9, N * 5 + 2, none⟩ (.int .u8 n)).setCell ⟨g9, N * 5 + 3, none⟩ (.int .u8 sz)) := by
    have q0 : Fr (own b G') V ((((X.setCell ⟨g9, N * 5, none⟩ (.int .u8 t)).setCell ⟨g9, N * 5 + 1, none⟩ (.int .u8 p)).setCell ⟨g9, N * 5 + 2, none⟩ (.int .u8 n)).setCell ⟨g9, N * 5 + 3, none⟩ (.int .u8 sz)) :=
      ((((Fr.of_below HBX.out).setCell (.inr HGE.out) _).setCell (.inr HGE.out) _).setCell (.inr HGE.out) _).setCell (.inr HGE.out) _
    refine HF10.out.trans q0 (fun x hx h => ?_)
    rcases h with h | h
    · exact .inl h
    · rcases HGG.out x h with h | h
      · exact .inr h
      · omega
  generalize (((X.setCell ⟨g9, N * 5, none⟩ (.int .u8 t)).setCell ⟨g9, N * 5 + 1, none⟩ (.int .u8 p)).setCell ⟨g9, N * 5 + 2, none⟩ (.int .u8 n)).setCell ⟨g9, N * 5 + 3, none⟩ (.int .u8 sz) = Y at hput hfx ⊢
  have HPY := Lib.hid hput
  have HFY := Lib.hid hfx
  clear hput hfx HPX HBX HP10 HF10 HC3 HAT hHeld
  have F58 := Lib.hid (fill_any HPY.out (N + 1) (.slice pa ps.length pc) ps (HP.out.fr HFY.out (fun ao' n' c' g' o' e1 e2 e3 h => by rcases h with h | h; exact (AP.out ao' n' c' g' o' e1 e2 e3).1 h; exact (AP.out ao' n' c' g' o' e1 e2 e3).2 h)) (AP.out.new HP.out HGG.out) (by rw [List.length_set, HLL.out, ← HPD.out]; omega))
  have eN1 : ((N + 1 : Nat) : Int) = (N : Int) + 1 := by omega
  rw [eN1, ← HPD.out] at F58
  clear eN1
  go_wp2_with fail
  refine F58.out.mono ?_
  rintro e w5 ⟨rfl, hp5, hf5⟩
  have HP5 := Lib.hid hp5
  have HF5 : Hid (Fr (own b G) w w5) := HFY.out.trans hf5 (fun x hx h => by
    rcases h with h | h
    · exact .inl h
    · rcases HGG.out x h with h | h
      · exact .inr h
      · omega)
  clear hp5 hf5 F58 HPY HFY
  have F59 := Lib.hid (fill_any HP5.out (N + 1 + p) (.slice na ns.length nc) ns (HNS.out.fr HF5.out (fun ao' n' c' g' o' e1 e2 e3 h => by rcases h with h | h; exact (AN.out ao' n' c' g' o' e1 e2 e3).1 h; exact (AN.out ao' n' c' g' o' e1 e2 e3).2 h)) (AN.out.new HNS.out HGG.out) (by rw [filled_len, List.length_set, HLL.out, ← HND.out]; omega))
  have eN1 : ((N + 1 + p : Nat) : Int) = (N : Int) + 1 + (p : Int) := by omega
  rw [eN1, ← HND.out] at F59
  clear eN1
  go_wp2_with fail
  refine F59.out.mono ?_
  rintro e w6 ⟨rfl, hp6, hf6⟩
  rw [HWN.out] at hp6
  have HO6 := Lib.hid (FIN.out w6 G' hp6)
  have HF6 : Hid (Fr (own b G) w w6) := HF5.out.trans hf6 (fun x hx h => by
    rcases h with h | h
    · exact .inl h
    · rcases HGG.out x h with h | h
      · exact .inr h
      · omega)
  clear hp6 hf6 F59 HP5 HF5
  go_wp2_with fail
  go_ret
  exact ⟨rfl, G', HO6.out, HF6.out, HGG.out⟩
end Go.Proofs.Ytkekekdkfjjifaa
