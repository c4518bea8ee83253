/- The document's reader: next: a bracket that closes. -/
import Derived.Test.YthhaegncnoekbaaYAA
import Derived.Test.YthhaegncnoekbaaYAH
import Derived.Test.YthhaegncnoekbaaProg
import Derived.Deep.RegionHeld
set_option linter.unusedVariables false
set_option linter.unusedSimpArgs false
namespace Go.Proofs.Ythhaegncnoekbaa
open Go.RowKit Go.BigM
theorem Stt.setP {D : Nat → Prop} {g : Nat} {s : ByteArray} {p : Nat} {es : List En} {out : List Dt} {w X : World} (h : Stt D g s p es out w X) (q : Nat) : Stt D g s q es out w (X.setCell ⟨g, 1, none⟩ (.int .i64 (q : Int))) := by
  have hz : (X.setCell ⟨g, 1, none⟩ (.int .i64 (q : Int))).heap.size = X.heap.size := by simp [World.setCell]
  exact ⟨by rw [hz]; exact h.rd.setP q, h.low.setCell (p := ⟨g, 1, none⟩) (Nat.le_refl _) _, by rw [hz]; exact h.size⟩
theorem dat_setg {D : Nat → Prop} {g o : Nat} {X : World} {v : Value} {d : Dt} {cs : Array Value} (hD : ∀ x, D x → g + 1 ≤ x) (h : Dt.At D X d cs) : Dt.At D (X.setCell ⟨g, o, none⟩ v) d cs :=
  Dt.At.keeps (fun x c T fz hx hh _ => ⟨fz, by rw [Below.heap_setCell X _ _ x (by show x ≠ g; have := hD x hx; omega)]; exact hh⟩) _ _ h
theorem Stt.dom {D : Nat → Prop} {g : Nat} {s : ByteArray} {p : Nat} {es : List En} {out : List Dt} {w X : World} (h : Stt D g s p es out w X) : ∀ x, D x → g + 1 ≤ x := by
  obtain ⟨⟨ov, dv, xs, _, _, _, hD, _⟩, _, _⟩ := h
  exact fun x hx => (hD x hx).1
theorem close_step {D : Nat → Prop} {g : Nat} {s : ByteArray} {p : Nat} {e : En} {r : List En} {out : List Dt} {w X : World} (h : Stt D g s p (e :: r) out w X) (hgX : g < X.heap.size) :
    ∃ og c lo ln lc, X.cell? ⟨g, 2, none⟩ = some (.slice (some ⟨og, 0, none⟩) (r.length + 1) c) ∧ r.length + 1 ≤ c ∧ c ≤ maxLen ∧ og < X.heap.size ∧
      (X.cell? ⟨og, r.length * 3, none⟩ = some (.bool e.q) ∧ X.cell? ⟨og, r.length * 3 + 1, none⟩ = some (.int .i64 e.pl) ∧ X.cell? ⟨og, r.length * 3 + 2, none⟩ = some (.slice lo ln lc)) ∧
      ∀ Y, Below X.heap.size X Y → (Y.cell? ⟨g, 1, none⟩ = some (.int .i64 (p : Int)) ∧ Y.cell? ⟨g, 2, none⟩ = some (.slice (some ⟨og, 0, none⟩) (r.length + 1) c) ∧ Y.frozen? ⟨g, 2, none⟩ = false) ∧
        (e.q = false → ∃ D', Stt D' g s p r out w (Y.setCell ⟨g, 2, none⟩ (.slice (some ⟨og, 0, none⟩) r.length c)) ∧ Dt.At D' (Y.setCell ⟨g, 2, none⟩ (.slice (some ⟨og, 0, none⟩) r.length c)) e.dt #[.int .i64 4, .string ⟨#[]⟩, .slice none 0 0, .slice lo ln lc, .int .i64 e.pl]) := by
  obtain ⟨og, c, arr, lw, dv, hR, hnc, hcm, hgo, hoN, hh, hcs, ⟨a0, a1, a2⟩, ⟨lo, lc, hlf⟩, hq, hlB, _, _, _⟩ := h.rd.top hgX
  obtain ⟨ln, hln⟩ : ∃ ln, ln = (if e.q = true then [] else e.ds).length := ⟨_, rfl⟩
  rw [← hln] at hlf
  subst hlf
  refine ⟨og, c, lo, ln, lc, hR.cells.2.2.1, hnc, hcm, hoN, ⟨by rw [Lib.cell_of_heap hh]; exact a0, by rw [Lib.cell_of_heap hh]; exact a1, by rw [Lib.cell_of_heap hh]; exact a2⟩, fun Y hb => ?_⟩
  have hs := hb.size
  have hg2 : Y.heap[g]? = X.heap[g]? := hb.block g hgX
  have hRY := rs3_of hR hg2
  have hrY : RdAt D Y.heap.size Y g s p (e :: r) out := (h.rd.keep (fun x _ hx => hb.block x hx) hgX hs).wide hs (Nat.le_refl _)
  obtain ⟨og', c', arr', lw', dv', hR', _, _, _, _, hh', _, ⟨a0', a1', a2'⟩, _, _, hlB', hpop, hlat, _⟩ := hrY.top (by omega)
  have e1 := hR'
  unfold Rs3 at e1 hR
  rw [hg2, hR] at e1
  injection e1 with e1
  injection e1 with e1 _ _
  simp only [Array.mk.injEq, List.cons.injEq, Value.slice.injEq, Option.some.injEq, Addr.mk.injEq, and_true, true_and] at e1
  obtain ⟨⟨rfl, rfl⟩, rfl⟩ := e1
  rw [hb.block og hoN, hh] at hh'
  injection hh' with hh'
  injection hh' with hh' _ _
  subst hh'
  rw [a2] at a2'
  injection a2' with a2'
  subst a2'
  refine ⟨⟨hRY.cells.2.1, hRY.cells.2.2.1, hRY.frozen 2⟩, fun hqf => ?_⟩
  have hz : (Y.setCell ⟨g, 2, none⟩ (.slice (some ⟨og, 0, none⟩) r.length c)).heap.size = Y.heap.size := by simp [World.setCell]
  have hst : Stt (fun x => D x ∨ (Value.slice lo ln lc).ownBlock = some x) g s p r out w (Y.setCell ⟨g, 2, none⟩ (.slice (some ⟨og, 0, none⟩) r.length c)) :=
    ⟨by rw [hz]; exact hpop, (h.low.trans (hb.mono (by omega))).setCell (p := ⟨g, 2, none⟩) (Nat.le_refl _) _, by rw [hz]; have := h.size; omega⟩
  refine ⟨_, hst, dat_setg hst.dom ?_⟩
  show Dt.At _ _ (.mk 4 ⟨#[]⟩ [] e.ds e.pl) _
  rw [At_mk]
  exact ⟨_, _, rfl, .inl ⟨rfl, rfl⟩, hlat hqf⟩
set_option maxHeartbeats 16000000 in
set_option maxRecDepth 100000 in
theorem next_close {D : Nat → Prop} (g : Nat) (s : ByteArray) (p : Nat) (es : List En) (out : List Dt) (b : UInt8) (w : World) (h : RdAt D w.heap.size w g s p es out) (hgN : g < w.heap.size) (hp : p < s.size) (hb : s[p] = b) (hs : s.size ≤ 8000) (hB : Bnd es out p) (hbv : b = 41) :
    Calls Try.prog 64 #[.pointer (some ⟨g, 0, none⟩)] w (RetNx g s p b es out w) := by
  obtain ⟨ao, c, bo, dd, hf⟩ := h.form
  obtain ⟨dv, hdv⟩ : ∃ v, v = Value.slice bo out.length dd := ⟨_, rfl⟩
  rw [← hdv] at hf
  have HS := Lib.hid (Stt.start h)
  have HR := Lib.hid hf
  have HB := Lib.hid hB
  have HBB := Lib.hid hb
  have hel : es.length ≤ 60 := hB.2.2
  clear h hB hdv hf hb
  have HBV := Lib.hid hbv
  have hbn : b.toNat = 41 := by rw [hbv]; rfl
  have E40 : ((b.toNat : Int) == 40) = false := by simpa using (show ¬ (b.toNat : Int) = 40 by omega)
  have E39 : ((b.toNat : Int) == 39) = false := by simpa using (show ¬ (b.toNat : Int) = 39 by omega)
  have E41 : ((b.toNat : Int) == 41) = true := by simpa using (show (b.toNat : Int) = 41 by omega)
  clear hbv hbn
  go_enter Try.func64, Try.ntmps64
  go_upto_region 1 with fail
  have HC : Hid (∀ w', Below w.heap.size w w' → w'.cell? ⟨g, 0, none⟩ = some (.string s) ∧ w'.cell? ⟨g, 1, none⟩ = some (.int .i64 (p : Int)) ∧ w'.cell? ⟨g, 2, none⟩ = some (.slice ao es.length c) ∧ w'.cell? ⟨g, 3, none⟩ = some dv) := fun w' hw' => by
    have h9 : w'.heap[g]? = some (.cells #[.string s, .int .i64 (p : Int), .slice ao es.length c, dv] 114 (0, 0)) := by rw [hw'.block g HR.out.lt]; exact HR.out
    exact Rs3.cells (p := p) h9
  have HS0 : Hid (Below w.heap.size w w.drew) := (Below.refl _ _).drew
  replace HS : Hid (Stt D g s p es out w w.drew) := HS.out.drew HR.out.lt
  replace HR : Hid (Rs3 w.drew g s p (.slice ao es.length c) dv) := HR.out
  refine wp_region_noPanic ?_
  refine wp_region_held_drew (S := Below w.heap.size w) (by kernel_rfl) HS0.out (fun hHeld => ?_)
  generalize w.drew = X1 at HS0 HS HR hHeld ⊢
  refine qtk (i := 0) (v := ?v0) rfl rfl (fun w' hw' => ?h0) hHeld ?r0
  case h0 => go_simp; try with_reducible rfl
  simp only [zt,zs,zz,Act.put,zi,zy,zx]
  refine qtk (i := 1) (v := ?v1) rfl rfl (fun w' hw' => ?h1) hHeld ?r1
  case h1 => go_simp; try with_reducible rfl
  simp only [zt,zs,zz,Act.put,zi,zy,zx]
  refine qtk (i := 2) (v := ?v2) rfl rfl (fun w' hw' => ?h2) hHeld ?r2
  case h2 => go_simp; try with_reducible rfl
  simp only [zt,zs,zz,Act.put,zi,zy,zx]
  refine qtk (i := 3) (v := ?v3) rfl rfl (fun w' hw' => ?h3) hHeld ?r3
  case h3 => (obtain ⟨d0, d1, d2, d3⟩ := HC.out w' hw'; go_simp); try with_reducible rfl
  simp only [zt,zs,zz,Act.put,zi,zy,zx]
  refine qtk (i := 4) (v := ?v4) rfl rfl (fun w' hw' => ?h4) hHeld ?r4
  case h4 => go_simp; try with_reducible rfl
  simp only [zt,zs,zz,Act.put,zi,zy,zx]
  refine qtk (i := 5) (v := ?v5) rfl rfl (fun w' hw' => ?h5) hHeld ?r5
  case h5 => go_simp; try with_reducible rfl
  simp only [zt,zs,zz,Act.put,zi,zy,zx]
  refine qtk (i := 6) (v := ?v6) rfl rfl (fun w' hw' => ?h6) hHeld ?r6
  case h6 => go_simp; try with_reducible rfl
  simp only [zt,zs,zz,Act.put,zi,zy,zx]
  refine qtk (i := 7) (v := ?v7) rfl rfl (fun w' hw' => ?h7) hHeld ?r7
  case h7 => (obtain ⟨d0, d1, d2, d3⟩ := HC.out w' hw'; go_simp); try with_reducible rfl
  simp only [zt,zs,zz,Act.put,zi,zy,zx]
  refine qtk (i := 8) (v := Value.int .u8 ((s[p]'hp).toNat : Int)) rfl rfl (fun w' hw' => ?_) hHeld ?_
  · go_simp
  simp only [zt,zs,zz,Act.put,zi,zy,zx]
  refine qtk (i := 9) (v := ?v9) rfl rfl (fun w' hw' => ?h9) hHeld ?r9
  case h9 => go_simp; try with_reducible rfl
  simp only [zt,zs,zz,Act.put,zi,zy,zx]
  refine wpAnyH_done (by kernel_rfl) ?_ _
  refine NoPanic.normal ?_
  clear hHeld
  clear HC HS0
  rw [HBB.out]
  cases es with
  | nil =>
    have HN : Hid (nxt s p b [] out = (4, p, [], out)) := by
      show _ = _
      unfold nxt
      rw [HBV.out, if_neg (by decide), if_pos rfl]
    have d2 := HR.out.cells.2.2.1
    go_upto_region 9 with fail
    clear d2
    have HC : Hid (∀ w', Below X1.heap.size X1 w' → w'.cell? ⟨g, 0, none⟩ = some (.string s) ∧ w'.cell? ⟨g, 1, none⟩ = some (.int .i64 (p : Int)) ∧ w'.cell? ⟨g, 2, none⟩ = some (.slice ao ([] : List En).length c) ∧ w'.cell? ⟨g, 3, none⟩ = some dv) := fun w' hw' => by
      have h9 : w'.heap[g]? = some (.cells #[.string s, .int .i64 (p : Int), .slice ao ([] : List En).length c, dv] 114 (0, 0)) := by rw [hw'.block g HR.out.lt]; exact HR.out
      exact Rs3.cells (p := p) h9
    have HS0 : Hid (Below X1.heap.size X1 X1.drew) := (Below.refl _ _).drew
    replace HS : Hid (Stt D g s p [] out w X1.drew) := HS.out.drew HR.out.lt
    replace HR : Hid (Rs3 X1.drew g s p (.slice ao ([] : List En).length c) dv) := HR.out
    refine wp_region_noPanic ?_
    refine wp_region_held_drew (S := Below X1.heap.size X1) (by kernel_rfl) HS0.out (fun hHeld => ?_)
    generalize X1.drew = X2 at HS0 HS HR hHeld ⊢
    refine qtk (i := 0) (v := ?v10) rfl rfl (fun w' hw' => ?h10) hHeld ?r10
    case h10 => go_simp; try with_reducible rfl
    simp only [zt,zs,zz,Act.put,zi,zy,zx]
    refine qtk (i := 1) (v := ?v11) rfl rfl (fun w' hw' => ?h11) hHeld ?r11
    case h11 => go_simp; try with_reducible rfl
    simp only [zt,zs,zz,Act.put,zi,zy,zx]
    refine qtk (i := 2) (v := ?v12) rfl rfl (fun w' hw' => ?h12) hHeld ?r12
    case h12 => go_simp; try with_reducible rfl
    simp only [zt,zs,zz,Act.put,zi,zy,zx]
    refine qtk (i := 3) (v := ?v13) rfl rfl (fun w' hw' => ?h13) hHeld ?r13
    case h13 => (obtain ⟨d0, d1, d2, d3⟩ := HC.out w' hw'; go_simp); try with_reducible rfl
    simp only [zt,zs,zz,Act.put,zi,zy,zx]
    refine qtk (i := 4) (v := ?v14) rfl rfl (fun w' hw' => ?h14) hHeld ?r14
    case h14 => go_simp; try with_reducible rfl
    simp only [zt,zs,zz,Act.put,zi,zy,zx]
    refine qtk (i := 5) (v := ?v15) rfl rfl (fun w' hw' => ?h15) hHeld ?r15
    case h15 => go_simp; try with_reducible rfl
    simp only [zt,zs,zz,Act.put,zi,zy,zx]
    refine qtk (i := 6) (v := ?v16) rfl rfl (fun w' hw' => ?h16) hHeld ?r16
    case h16 => go_simp; try with_reducible rfl
    simp only [zt,zs,zz,Act.put,zi,zy,zx]
    refine qtu (i := 7) rfl rfl hHeld ?_
    simp only [zt,zs,zz,Act.put,zi,zy,zx]
    refine qtu (i := 8) rfl rfl hHeld ?_
    simp only [zt,zs,zz,Act.put,zi,zy,zx]
    refine qtu (i := 9) rfl rfl hHeld ?_
    simp only [zt,zs,zz,Act.put,zi,zy,zx]
    refine qtu (i := 10) rfl rfl hHeld ?_
    simp only [zt,zs,zz,Act.put,zi,zy,zx]
    refine qtu (i := 11) rfl rfl hHeld ?_
    simp only [zt,zs,zz,Act.put,zi,zy,zx]
    refine qtu (i := 12) rfl rfl hHeld ?_
    simp only [zt,zs,zz,Act.put,zi,zy,zx]
    refine qtu (i := 13) rfl rfl hHeld ?_
    simp only [zt,zs,zz,Act.put,zi,zy,zx]
    refine qtu (i := 14) rfl rfl hHeld ?_
    simp only [zt,zs,zz,Act.put,zi,zy,zx]
    refine qtu (i := 15) rfl rfl hHeld ?_
    simp only [zt,zs,zz,Act.put,zi,zy,zx]
    refine qtu (i := 16) rfl rfl hHeld ?_
    simp only [zt,zs,zz,Act.put,zi,zy,zx]
    refine qtu (i := 17) rfl rfl hHeld ?_
    simp only [zt,zs,zz,Act.put,zi,zy,zx]
    refine qtu (i := 18) rfl rfl hHeld ?_
    simp only [zt,zs,zz,Act.put,zi,zy,zx]
    refine qtu (i := 19) rfl rfl hHeld ?_
    simp only [zt,zs,zz,Act.put,zi,zy,zx]
    refine qtk (i := 20) (v := ?v30) rfl rfl (fun w' hw' => ?h30) hHeld ?r30
    case h30 => go_simp; try with_reducible rfl
    simp only [zt,zs,zz,Act.put,zi,zy,zx]
    refine wpAnyH_done (by kernel_rfl) ?_ _
    refine NoPanic.normal ?_
    clear hHeld
    clear HC HS0
    go_wp2_with fail
    go_ret
    have hn := HN.out
    unfold RetNx
    rw [hn]
    exact ⟨rfl, HS.out.low, HS.out.size, fun h => absurd h (by simp), fun _ => ⟨_, _, HR.out⟩⟩
  | cons e r =>
    obtain ⟨og, c3, lo2, ln2, lc2, f0, hnc, hcm, hogl, ⟨f1, f2, f3⟩, HY⟩ := close_step HS.out HR.out.lt
    have d2 := HR.out.cells.2.2.1
    rw [d2] at f0
    injection f0 with f0
    injection f0 with f0 f0b f0c
    subst f0 f0c
    clear f0b
    obtain ⟨rn, hrn⟩ : ∃ rn, rn = r.length := ⟨_, rfl⟩
    obtain ⟨eq9, heq9⟩ : ∃ b, b = e.q := ⟨_, rfl⟩
    obtain ⟨ep, hep⟩ : ∃ b, b = e.pl := ⟨_, rfl⟩
    simp only [List.length_cons, ← hrn, ← heq9, ← hep] at d2 f1 f2 f3 HY hnc hel
    have hgl : g < X1.heap.size := HR.out.lt
    have HY := Lib.hid HY
    have HRN := Lib.hid hrn
    have HEP := Lib.hid hep
    have HEQ9 := Lib.hid heq9
    have hpp := HR.out.cells.2.1
    go_upto_region 9 with fail
    have HC : Hid (∀ w', Below X1.heap.size X1 w' → w'.cell? ⟨g, 2, none⟩ = some (.slice (some ⟨og, 0, none⟩) (rn + 1) c) ∧ w'.cell? ⟨og, rn * 3, none⟩ = some (.bool eq9) ∧ w'.cell? ⟨og, rn * 3 + 1, none⟩ = some (.int .i64 ep) ∧ w'.cell? ⟨og, rn * 3 + 2, none⟩ = some (.slice lo2 ln2 lc2)) := fun w' hw' => ⟨(hw'.cell hgl).trans d2, (hw'.cell hogl).trans f1, (hw'.cell hogl).trans f2, (hw'.cell hogl).trans f3⟩
    clear hrn heq9 hep d2 f1 f2 f3 hpp
    have HS0 : Hid (Below X1.heap.size X1 X1.drew) := (Below.refl _ _).drew
    have HS2 : Hid (Stt D g s p (e :: r) out w X1.drew) := HS.out.drew HR.out.lt
    have HR2 : Hid (Rs3 X1.drew g s p (.slice (some ⟨og, 0, none⟩) (e :: r).length c) dv) := HR.out
    refine wp_region_noPanic ?_
    refine wp_region_held_drew (S := Below X1.heap.size X1) (by kernel_rfl) HS0.out (fun hHeld => ?_)
    generalize X1.drew = X2 at HS0 HS2 HR2 hHeld ⊢
    refine qtk (i := 0) (v := ?v31) rfl rfl (fun w' hw' => ?h31) hHeld ?r31
    case h31 => go_simp; try with_reducible rfl
    simp only [zt,zs,zz,Act.put,zi,zy,zx]
    refine qtk (i := 1) (v := ?v32) rfl rfl (fun w' hw' => ?h32) hHeld ?r32
    case h32 => go_simp; try with_reducible rfl
    simp only [zt,zs,zz,Act.put,zi,zy,zx]
    refine qtk (i := 2) (v := ?v33) rfl rfl (fun w' hw' => ?h33) hHeld ?r33
    case h33 => go_simp; try with_reducible rfl
    simp only [zt,zs,zz,Act.put,zi,zy,zx]
    refine qtk (i := 3) (v := ?v34) rfl rfl (fun w' hw' => ?h34) hHeld ?r34
    case h34 => (obtain ⟨q1, q2, q3, q4⟩ := HC.out w' hw'; go_simp); try with_reducible rfl
    simp only [zt,zs,zz,Act.put,zi,zy,zx]
    refine qtk (i := 4) (v := ?v35) rfl rfl (fun w' hw' => ?h35) hHeld ?r35
    case h35 => go_simp; try with_reducible rfl
    simp only [zt,zs,zz,Act.put,zi,zy,zx]
    refine qtk (i := 5) (v := ?v36) rfl rfl (fun w' hw' => ?h36) hHeld ?r36
    case h36 => go_simp; try with_reducible rfl
    simp only [zt,zs,zz,Act.put,zi,zy,zx]
    refine qtk (i := 6) (v := ?v37) rfl rfl (fun w' hw' => ?h37) hHeld ?r37
    case h37 => go_simp; try with_reducible rfl
    simp only [zt,zs,zz,Act.put,zi,zy,zx]
    refine qtk (i := 7) (v := ?v38) rfl rfl (fun w' hw' => ?h38) hHeld ?r38
    case h38 => go_simp; try with_reducible rfl
    simp only [zt,zs,zz,Act.put,zi,zy,zx]
    refine qtk (i := 8) (v := ?v39) rfl rfl (fun w' hw' => ?h39) hHeld ?r39
    case h39 => go_simp; try with_reducible rfl
    simp only [zt,zs,zz,Act.put,zi,zy,zx]
    refine qtk (i := 9) (v := ?v40) rfl rfl (fun w' hw' => ?h40) hHeld ?r40
    case h40 => go_simp; try with_reducible rfl
    simp only [zt,zs,zz,Act.put,zi,zy,zx]
    refine qtk (i := 10) (v := ?v41) rfl rfl (fun w' hw' => ?h41) hHeld ?r41
    case h41 => (obtain ⟨q1, q2, q3, q4⟩ := HC.out w' hw'; go_simp); try with_reducible rfl
    simp only [zt,zs,zz,Act.put,zi,zy,zx]
    refine qtk (i := 11) (v := ?v42) rfl rfl (fun w' hw' => ?h42) hHeld ?r42
    case h42 => go_simp; try with_reducible rfl
    simp only [zt,zs,zz,Act.put,zi,zy,zx]
    refine qtk (i := 12) (v := ?v43) rfl rfl (fun w' hw' => ?h43) hHeld ?r43
    case h43 => go_simp; try with_reducible rfl
    simp only [zt,zs,zz,Act.put,zi,zy,zx]
    refine qtk (i := 13) (v := ?v44) rfl rfl (fun w' hw' => ?h44) hHeld ?r44
    case h44 => go_simp; try with_reducible rfl
    simp only [zt,zs,zz,Act.put,zi,zy,zx]
    refine qtk (i := 14) (v := ?v45) rfl rfl (fun w' hw' => ?h45) hHeld ?r45
    case h45 => (obtain ⟨q1, q2, q3, q4⟩ := HC.out w' hw'; go_simp); try with_reducible rfl
    simp only [zt,zs,zz,Act.put,zi,zy,zx]
    refine qtk (i := 15) (v := ?v46) rfl rfl (fun w' hw' => ?h46) hHeld ?r46
    case h46 => go_simp; try with_reducible rfl
    simp only [zt,zs,zz,Act.put,zi,zy,zx]
    refine qtk (i := 16) (v := Value.int .i64 (rn : Int)) rfl rfl (fun w' hw' => ?_) hHeld ?_
    · go_simp; rw [IntKind.wrap_i64]; omega
    simp only [zt,zs,zz,Act.put,zi,zy,zx]
    refine qtk (i := 17) (v := Value.pointer (some ⟨og, rn * 3, none⟩)) rfl rfl (fun w' hw' => ?_) hHeld ?_
    · go_simp; intro hq; omega
    simp only [zt,zs,zz,Act.put,zi,zy,zx]
    refine qtk (i := 18) (v := ?v49) rfl rfl (fun w' hw' => ?h49) hHeld ?r49
    case h49 => go_simp; try with_reducible rfl
    simp only [zt,zs,zz,Act.put,zi,zy,zx]
    refine qtk (i := 19) (v := ?v50) rfl rfl (fun w' hw' => ?h50) hHeld ?r50
    case h50 => (obtain ⟨q1, q2, q3, q4⟩ := HC.out w' hw'; go_simp); try with_reducible rfl
    simp only [zt,zs,zz,Act.put,zi,zy,zx]
    refine qtk (i := 20) (v := Value.bool eq9) rfl rfl (fun w' hw' => ?_) hHeld ?_
    · go_simp; intro hq; omega
    simp only [zt,zs,zz,Act.put,zi,zy,zx]
    refine wpAnyH_done (by kernel_rfl) ?_ _
    refine NoPanic.normal ?_
    clear hHeld
    cases eq9 with
    | true =>
      have HN : Hid (nxt s p b (e :: r) out = (4, p, e :: r, out)) := by
        show _ = _
        unfold nxt
        rw [HBV.out, if_neg (by decide), if_pos rfl]
        simp only []
        rw [if_pos HEQ9.out.symm]
      go_wp2_with fail
      go_ret
      have hn := HN.out
      unfold RetNx
      rw [hn]
      exact ⟨rfl, HS2.out.low, HS2.out.size, fun h => absurd h (by simp), fun _ => ⟨_, _, HR2.out⟩⟩
    | false =>
      have HN : Hid (nxt s p b (e :: r) out = (0, p + 1, (putS e.dt r out).1, (putS e.dt r out).2)) := by
        show _ = _
        unfold nxt
        rw [HBV.out, if_neg (by decide), if_pos rfl]
        simp only []
        rw [if_neg (by rw [← HEQ9.out]; decide)]
      go_upto_region 11 with fail
      have HS1 : Hid (Below X1.heap.size X1 X2.drew) := HS0.out.drew
      refine wp_region_noPanic ?_
      refine wp_region_held_drew (S := Below X1.heap.size X1) (by kernel_rfl) HS1.out (fun hHeld => ?_)
      generalize X2.drew = X3 at HS1 hHeld ⊢
      refine qtk (i := 0) (v := ?v52) rfl rfl (fun w' hw' => ?h52) hHeld ?r52
      case h52 => go_simp; try with_reducible rfl
      simp only [zt,zs,zz,Act.put,zi,zy,zx]
      refine qtk (i := 1) (v := ?v53) rfl rfl (fun w' hw' => ?h53) hHeld ?r53
      case h53 => go_simp; try with_reducible rfl
      simp only [zt,zs,zz,Act.put,zi,zy,zx]
      refine qtk (i := 2) (v := ?v54) rfl rfl (fun w' hw' => ?h54) hHeld ?r54
      case h54 => go_simp; try with_reducible rfl
      simp only [zt,zs,zz,Act.put,zi,zy,zx]
      refine qtk (i := 3) (v := ?v55) rfl rfl (fun w' hw' => ?h55) hHeld ?r55
      case h55 => (obtain ⟨q1, q2, q3, q4⟩ := HC.out w' hw'; go_simp); try with_reducible rfl
      simp only [zt,zs,zz,Act.put,zi,zy,zx]
      refine qtk (i := 4) (v := ?v56) rfl rfl (fun w' hw' => ?h56) hHeld ?r56
      case h56 => go_simp; try with_reducible rfl
      simp only [zt,zs,zz,Act.put,zi,zy,zx]
      refine qtk (i := 5) (v := ?v57) rfl rfl (fun w' hw' => ?h57) hHeld ?r57
      case h57 => go_simp; try with_reducible rfl
      simp only [zt,zs,zz,Act.put,zi,zy,zx]
      refine qtk (i := 6) (v := ?v58) rfl rfl (fun w' hw' => ?h58) hHeld ?r58
      case h58 => go_simp; try with_reducible rfl
      simp only [zt,zs,zz,Act.put,zi,zy,zx]
      refine qtk (i := 7) (v := ?v59) rfl rfl (fun w' hw' => ?h59) hHeld ?r59
      case h59 => (obtain ⟨q1, q2, q3, q4⟩ := HC.out w' hw'; go_simp); try with_reducible rfl
      simp only [zt,zs,zz,Act.put,zi,zy,zx]
      refine qtk (i := 8) (v := ?v60) rfl rfl (fun w' hw' => ?h60) hHeld ?r60
      case h60 => go_simp; try with_reducible rfl
      simp only [zt,zs,zz,Act.put,zi,zy,zx]
      refine qtk (i := 9) (v := Value.int .i64 (rn : Int)) rfl rfl (fun w' hw' => ?_) hHeld ?_
      · go_simp; rw [IntKind.wrap_i64]; omega
      simp only [zt,zs,zz,Act.put,zi,zy,zx]
      refine qtk (i := 10) (v := Value.pointer (some ⟨og, rn * 3, none⟩)) rfl rfl (fun w' hw' => ?_) hHeld ?_
      · go_simp; intro hq; omega
      simp only [zt,zs,zz,Act.put,zi,zy,zx]
      refine qtk (i := 11) (v := ?v63) rfl rfl (fun w' hw' => ?h63) hHeld ?r63
      case h63 => (obtain ⟨q1, q2, q3, q4⟩ := HC.out w' hw'; go_simp); try with_reducible rfl
      simp only [zt,zs,zz,Act.put,zi,zy,zx]
      refine wpAnyH_ready (rs := [12]) (by kernel_rfl) (by simp) ?_
      refine (AllReadyH.cons rfl (fun K hK => ?_) AllReadyH.nil)
      go_simp
      refine hK.out _ _ (HS1.out.alloc (by have := HS1.out.size; omega) _) (fun hHeld => ?_)
      clear hK K
      try simp only [zt,zs,zz,Act.put,zi,zy,zx]
      refine wpAnyH_ready (rs := [13]) (by kernel_rfl) (by simp) ?_
      refine (AllReadyH.cons rfl (fun K hK => ?_) AllReadyH.nil)
      go_simp
      refine hK.out _ _ (HS1.out.alloc (by have := HS1.out.size; omega) _) (fun hHeld => ?_)
      clear hK K
      try simp only [zt,zs,zz,Act.put,zi,zy,zx]
      refine wpAnyH_done (by kernel_rfl) ?_ _
      refine NoPanic.normal ?_
      clear hHeld
      have hnx := alloc_at X3 (.cells #[.bool false, .int .i64 ep, .slice lo2 ln2 lc2] 137)
      have hsx : (X3.alloc (.cells #[.bool false, .int .i64 ep, .slice lo2 ln2 lc2] 137)).heap.size = X3.heap.size + 1 := by simp
      have hbx : Below X1.heap.size X1 (X3.alloc (.cells #[.bool false, .int .i64 ep, .slice lo2 ln2 lc2] 137)) := HS1.out.alloc (by have := HS1.out.size; omega) _
      obtain ⟨n4, hn4⟩ : ∃ n4, n4 = X3.heap.size := ⟨_, rfl⟩
      rw [← hn4] at hnx hsx ⊢
      have hgn4 : g < n4 := by have := HS1.out.size; omega
      generalize X3.alloc (.cells #[.bool false, .int .i64 ep, .slice lo2 ln2 lc2] 137) = X4 at hnx hsx hbx ⊢
      have k1 : X4.cell? ⟨n4, 1, none⟩ = some (.int .i64 ep) := by rw [Lib.cell_of_heap hnx]; rfl
      have k2 : X4.cell? ⟨n4, 2, none⟩ = some (.slice lo2 ln2 lc2) := by rw [Lib.cell_of_heap hnx]; rfl
      obtain ⟨⟨y1, y2, y3⟩, hY⟩ := HY.out X4.drew hbx.drew
      obtain ⟨D', hS', hd'⟩ := hY rfl
      have HY1 := Lib.hid y1
      have HY2 := Lib.hid y2
      have HY3 := Lib.hid y3
      have HS4 := Lib.hid hS'
      have HD4 := Lib.hid hd'
      have HK1 : Hid (X4.drew.cell? ⟨n4, 1, none⟩ = some (.int .i64 ep)) := k1
      have HK2 : Hid (X4.drew.cell? ⟨n4, 2, none⟩ = some (.slice lo2 ln2 lc2)) := k2
      have HSX := Lib.hid hsx
      clear hnx hsx hbx hn4 k1 k2 hY hS' hd' y1 y2 y3 HC HY HS0 HS1 HR HR2 HS HS2
      go_upto_region 12 with fail
      refine wp_region_noPanic ?_
      refine wp_region_held_drew (S := fun _ => True) (by kernel_rfl) trivial (fun hHeld => ?_)
      generalize X4.drew = XE at HY1 HY2 HY3 HS4 HD4 HK1 HK2 hHeld ⊢
      refine qtk (i := 0) (v := ?v64) rfl rfl (fun w' hw' => ?h64) hHeld ?r64
      case h64 => go_simp; try with_reducible rfl
      simp only [zt,zs,zz,Act.put,zi,zy,zx]
      refine qtk (i := 1) (v := ?v65) rfl rfl (fun w' hw' => ?h65) hHeld ?r65
      case h65 => go_simp; try with_reducible rfl
      simp only [zt,zs,zz,Act.put,zi,zy,zx]
      refine qtk (i := 2) (v := ?v66) rfl rfl (fun w' hw' => ?h66) hHeld ?r66
      case h66 => go_simp; try with_reducible rfl
      simp only [zt,zs,zz,Act.put,zi,zy,zx]
      refine qtk (i := 3) (v := ?v67) rfl rfl (fun w' hw' => ?h67) hHeld ?r67
      case h67 => go_simp; try with_reducible rfl
      simp only [zt,zs,zz,Act.put,zi,zy,zx]
      refine qtk (i := 5) (v := ?v68) rfl rfl (fun w' hw' => ?h68) hHeld ?r68
      case h68 => go_simp; try with_reducible rfl
      simp only [zt,zs,zz,Act.put,zi,zy,zx]
      refine qtk (i := 6) (v := ?v69) rfl rfl (fun w' hw' => ?h69) hHeld ?r69
      case h69 => go_simp; try with_reducible rfl
      simp only [zt,zs,zz,Act.put,zi,zy,zx]
      refine qtk (i := 7) (v := ?v70) rfl rfl (fun w' hw' => ?h70) hHeld ?r70
      case h70 => go_simp; try with_reducible rfl
      simp only [zt,zs,zz,Act.put,zi,zy,zx]
      refine wpAnyH_ready (rs := [4, 8]) (by kernel_rfl) (by simp) ?_
      refine (AllReadyH.cons rfl (fun K hK => ?_) (AllReadyH.cons rfl (fun K hK => ?_) AllReadyH.nil))
      · skip
        have cl := HY2.out
        go_simp
        refine hK.out _ _ trivial (fun hHeld => ?_)
        clear cl
        clear hK K
        try simp only [zt,zs,zz,Act.put,zi,zy,zx]
        refine wpAnyH_ready (rs := [8]) (by kernel_rfl) (by simp) ?_
        refine (AllReadyH.cons rfl (fun K hK => ?_) AllReadyH.nil)
        have cl := HY2.out
        go_simp
        refine hK.out _ _ trivial (fun hHeld => ?_)
        clear cl
        clear hK K
        try simp only [zt,zs,zz,Act.put,zi,zy,zx]
        refine qtk (i := 9) (v := ?v71) rfl rfl (fun w' hw' => ?h71) hHeld ?r71
        case h71 => go_simp; try with_reducible rfl
        simp only [zt,zs,zz,Act.put,zi,zy,zx]
        refine qtk (i := 10) (v := Value.int .i64 (rn : Int)) rfl rfl (fun w' hw' => ?_) hHeld ?_
        · go_simp; rw [IntKind.wrap_i64]; omega
        simp only [zt,zs,zz,Act.put,zi,zy,zx]
        refine qtk (i := 11) (v := Value.slice (some ⟨og, 0, none⟩) rn c) rfl rfl (fun w' hw' => ?_) hHeld ?_
        · go_simp; intro hq; omega
        simp only [zt,zs,zz,Act.put,zi,zy,zx]
        refine qtk (i := 12) (v := ?v74) rfl rfl (fun w' hw' => ?h74) hHeld ?r74
        case h74 => go_simp; try with_reducible rfl
        simp only [zt,zs,zz,Act.put,zi,zy,zx]
        refine qtk (i := 13) (v := ?v75) rfl rfl (fun w' hw' => ?h75) hHeld ?r75
        case h75 => go_simp; try with_reducible rfl
        simp only [zt,zs,zz,Act.put,zi,zy,zx]
        refine wpAnyH_ready (rs := [14]) (by kernel_rfl) (by simp) ?_
        refine (AllReadyH.cons rfl (fun K hK => ?_) AllReadyH.nil)
        have cl := HY2.out
        have cf := HY3.out
        go_simp
        refine hK.out _ _ trivial (fun hHeld => ?_)
        clear cl cf
        clear hK K
        try simp only [zt,zs,zz,Act.put,zi,zy,zx]
        refine wpAnyH_done (by kernel_rfl) ?_ _
        refine NoPanic.normal ?_
        clear hHeld
        have hk1 : ((XE.setCell ⟨g, 2, none⟩ (.slice (some ⟨og, 0, none⟩) rn c)).setCell ⟨g, 1, none⟩ (.int .i64 ((p + 1 : Nat) : Int))).cell? ⟨n4, 1, none⟩ = some (.int .i64 ep) := by
          rw [World.cell?_setCell_far _ _ _ _ (by show g ≠ n4; omega), World.cell?_setCell_far _ _ _ _ (by show g ≠ n4; omega)]; exact HK1.out
        have hk2 : ((XE.setCell ⟨g, 2, none⟩ (.slice (some ⟨og, 0, none⟩) rn c)).setCell ⟨g, 1, none⟩ (.int .i64 ((p + 1 : Nat) : Int))).cell? ⟨n4, 2, none⟩ = some (.slice lo2 ln2 lc2) := by
          rw [World.cell?_setCell_far _ _ _ _ (by show g ≠ n4; omega), World.cell?_setCell_far _ _ _ _ (by show g ≠ n4; omega)]; exact HK2.out
        have HS5 := Lib.hid (HS4.out.setP (p + 1))
        have HD5 := Lib.hid (dat_setg (o := 1) (v := .int .i64 ((p + 1 : Nat) : Int)) HS4.out.dom HD4.out)
        obtain ⟨ao3, c3, bo3, dd3, hf3⟩ := HS4.out.rd.form
        have d1 := hf3.cells.2.1
        have fz := hf3.frozen 1
        have e9 := wrap_succ p (by omega)
        have HK5 := Lib.hid hk1
        have HK6 := Lib.hid hk2
        clear hf3 HY1 HY2 HY3 HK1 HK2 HS4 HD4 hk1 hk2
        have HLO := Lib.hid HS5.out.low
        have HSZ := Lib.hid HS5.out.size
        have hgz : g < ((XE.setCell ⟨g, 2, none⟩ (.slice (some ⟨og, 0, none⟩) rn c)).setCell ⟨g, 1, none⟩ (.int .i64 ((p + 1 : Nat) : Int))).heap.size := by have := HS5.out.size; omega
        have HBN : Hid (Bnd r out (p + 1)) := ⟨fun x hx => by have := HB.out.1 x (List.mem_cons_of_mem _ hx); omega, by have := HB.out.2.1; omega, by have := HB.out.2.2; simp only [List.length_cons] at this; omega⟩
        have FP := Lib.hid (put3_any g s (p + 1) r out e.dt 4 ⟨#[]⟩ none 0 0 lo2 ln2 lc2 ep (p + 1) _ HS5.out.rd hgz HD5.out HBN.out (by omega))
        clear hgz HS5 HD5
        obtain ⟨XP, hXP⟩ : ∃ X, X = (XE.setCell ⟨g, 2, none⟩ (.slice (some ⟨og, 0, none⟩) rn c)).setCell ⟨g, 1, none⟩ (.int .i64 ((p + 1 : Nat) : Int)) := ⟨_, rfl⟩
        rw [← hXP] at HK5 HK6 FP HLO HSZ
        have HXP : Hid ((XE.setCell ⟨g, 2, none⟩ (.slice (some ⟨og, 0, none⟩) rn c)).setCell ⟨g, 1, none⟩ (.int .i64 ((p : Int) + 1)) = XP) := by show _ = _; rw [hXP]; push_cast; rfl
        clear hXP
        go_upto_region 14 with fail
        rw [HXP.out]
        clear d1 fz e9
        have k1 := HK5.out
        have k2 := HK6.out
        go_wp2_with fail
        refine FP.out.mono ?_
        rintro e7 w7 ⟨rfl, hbl, hsz, D7, hD7⟩
        have HB7 := Lib.hid hbl
        have HZ7 := Lib.hid hsz
        have HD7 := Lib.hid hD7
        clear hbl hsz hD7 k1 k2
        go_wp2_with fail
        go_ret
        have hn := HN.out
        unfold RetNx
        rw [hn]
        exact ⟨rfl, HLO.out.trans HB7.out, by have h1 := HSZ.out; have h2 := HZ7.out; omega, fun _ => ⟨D7, HD7.out⟩, fun h => absurd rfl h⟩
      · skip
        have cl := HY2.out
        go_simp
        refine hK.out _ _ trivial (fun hHeld => ?_)
        clear cl
        clear hK K
        try simp only [zt,zs,zz,Act.put,zi,zy,zx]
        refine qtk (i := 9) (v := ?v76) rfl rfl (fun w' hw' => ?h76) hHeld ?r76
        case h76 => go_simp; try with_reducible rfl
        simp only [zt,zs,zz,Act.put,zi,zy,zx]
        refine qtk (i := 10) (v := Value.int .i64 (rn : Int)) rfl rfl (fun w' hw' => ?_) hHeld ?_
        · go_simp; rw [IntKind.wrap_i64]; omega
        simp only [zt,zs,zz,Act.put,zi,zy,zx]
        refine wpAnyH_ready (rs := [4]) (by kernel_rfl) (by simp) ?_
        refine (AllReadyH.cons rfl (fun K hK => ?_) AllReadyH.nil)
        have cl := HY2.out
        go_simp
        refine hK.out _ _ trivial (fun hHeld => ?_)
        clear cl
        clear hK K
        try simp only [zt,zs,zz,Act.put,zi,zy,zx]
        refine qtk (i := 11) (v := Value.slice (some ⟨og, 0, none⟩) rn c) rfl rfl (fun w' hw' => ?_) hHeld ?_
        · go_simp; intro hq; omega
        simp only [zt,zs,zz,Act.put,zi,zy,zx]
        refine qtk (i := 12) (v := ?v79) rfl rfl (fun w' hw' => ?h79) hHeld ?r79
        case h79 => go_simp; try with_reducible rfl
        simp only [zt,zs,zz,Act.put,zi,zy,zx]
        refine qtk (i := 13) (v := ?v80) rfl rfl (fun w' hw' => ?h80) hHeld ?r80
        case h80 => go_simp; try with_reducible rfl
        simp only [zt,zs,zz,Act.put,zi,zy,zx]
        refine wpAnyH_ready (rs := [14]) (by kernel_rfl) (by simp) ?_
        refine (AllReadyH.cons rfl (fun K hK => ?_) AllReadyH.nil)
        have cl := HY2.out
        have cf := HY3.out
        go_simp
        refine hK.out _ _ trivial (fun hHeld => ?_)
        clear cl cf
        clear hK K
        try simp only [zt,zs,zz,Act.put,zi,zy,zx]
        refine wpAnyH_done (by kernel_rfl) ?_ _
        refine NoPanic.normal ?_
        clear hHeld
        have hk1 : ((XE.setCell ⟨g, 2, none⟩ (.slice (some ⟨og, 0, none⟩) rn c)).setCell ⟨g, 1, none⟩ (.int .i64 ((p + 1 : Nat) : Int))).cell? ⟨n4, 1, none⟩ = some (.int .i64 ep) := by
          rw [World.cell?_setCell_far _ _ _ _ (by show g ≠ n4; omega), World.cell?_setCell_far _ _ _ _ (by show g ≠ n4; omega)]; exact HK1.out
        have hk2 : ((XE.setCell ⟨g, 2, none⟩ (.slice (some ⟨og, 0, none⟩) rn c)).setCell ⟨g, 1, none⟩ (.int .i64 ((p + 1 : Nat) : Int))).cell? ⟨n4, 2, none⟩ = some (.slice lo2 ln2 lc2) := by
          rw [World.cell?_setCell_far _ _ _ _ (by show g ≠ n4; omega), World.cell?_setCell_far _ _ _ _ (by show g ≠ n4; omega)]; exact HK2.out
        have HS5 := Lib.hid (HS4.out.setP (p + 1))
        have HD5 := Lib.hid (dat_setg (o := 1) (v := .int .i64 ((p + 1 : Nat) : Int)) HS4.out.dom HD4.out)
        obtain ⟨ao3, c3, bo3, dd3, hf3⟩ := HS4.out.rd.form
        have d1 := hf3.cells.2.1
        have fz := hf3.frozen 1
        have e9 := wrap_succ p (by omega)
        have HK5 := Lib.hid hk1
        have HK6 := Lib.hid hk2
        clear hf3 HY1 HY2 HY3 HK1 HK2 HS4 HD4 hk1 hk2
        have HLO := Lib.hid HS5.out.low
        have HSZ := Lib.hid HS5.out.size
        have hgz : g < ((XE.setCell ⟨g, 2, none⟩ (.slice (some ⟨og, 0, none⟩) rn c)).setCell ⟨g, 1, none⟩ (.int .i64 ((p + 1 : Nat) : Int))).heap.size := by have := HS5.out.size; omega
        have HBN : Hid (Bnd r out (p + 1)) := ⟨fun x hx => by have := HB.out.1 x (List.mem_cons_of_mem _ hx); omega, by have := HB.out.2.1; omega, by have := HB.out.2.2; simp only [List.length_cons] at this; omega⟩
        have FP := Lib.hid (put3_any g s (p + 1) r out e.dt 4 ⟨#[]⟩ none 0 0 lo2 ln2 lc2 ep (p + 1) _ HS5.out.rd hgz HD5.out HBN.out (by omega))
        clear hgz HS5 HD5
        obtain ⟨XP, hXP⟩ : ∃ X, X = (XE.setCell ⟨g, 2, none⟩ (.slice (some ⟨og, 0, none⟩) rn c)).setCell ⟨g, 1, none⟩ (.int .i64 ((p + 1 : Nat) : Int)) := ⟨_, rfl⟩
        rw [← hXP] at HK5 HK6 FP HLO HSZ
        have HXP : Hid ((XE.setCell ⟨g, 2, none⟩ (.slice (some ⟨og, 0, none⟩) rn c)).setCell ⟨g, 1, none⟩ (.int .i64 ((p : Int) + 1)) = XP) := by show _ = _; rw [hXP]; push_cast; rfl
        clear hXP
        go_upto_region 14 with fail
        rw [HXP.out]
        clear d1 fz e9
        have k1 := HK5.out
        have k2 := HK6.out
        go_wp2_with fail
        refine FP.out.mono ?_
        rintro e7 w7 ⟨rfl, hbl, hsz, D7, hD7⟩
        have HB7 := Lib.hid hbl
        have HZ7 := Lib.hid hsz
        have HD7 := Lib.hid hD7
        clear hbl hsz hD7 k1 k2
        go_wp2_with fail
        go_ret
        have hn := HN.out
        unfold RetNx
        rw [hn]
        exact ⟨rfl, HLO.out.trans HB7.out, by have h1 := HSZ.out; have h2 := HZ7.out; omega, fun _ => ⟨D7, HD7.out⟩, fun h => absurd rfl h⟩
end Go.Proofs.Ythhaegncnoekbaa
namespace Go
section
variable {P : Program} {ops : Array Oper} {Q : Exit → Act → World → Prop} {md : Region.Mode} {S : World → Prop} {late : Nat → Bool}
/-- Whatever comes up: behind a late operation nothing is known any more, behind each other one S holds. -/
def wpAnyL (P : Program) (md : Region.Mode) (ops : Array Oper) (Q : Exit → Act → World → Prop) (S : World → Prop) (late : Nat → Bool) : Nat → Array Bool → Act → World → Prop
  | 0, listed, a, w => Region.ready md ops listed = [] ∧ Q .normal a w
  | n + 1, listed, a, w =>
    (Region.ready md ops listed = [] → Q .normal a w) ∧
    ∀ i ∈ Region.ready md ops listed, wpOp P ops Q i (fun b v => (late i = true ∧ wpAny P md ops Q n (listed.setIfInBounds i true) b v) ∨ (late i = false ∧ S v ∧ wpAnyL P md ops Q S late n (listed.setIfInBounds i true) b v)) a w
theorem wpAnyL.any : ∀ {n : Nat} {listed : Array Bool} {a : Act} {w : World}, wpAnyL P md ops Q S late n listed a w → wpAny P md ops Q n listed a w
  | 0, _, _, _, h => h
  | _ + 1, _, _, _, h => ⟨h.1, fun i hi => wpOp_mono (fun _ _ h => by
      rcases h with h | h
      · exact h.2
      · exact h.2.2.any) (h.2 i hi)⟩
/-- B: operations that are not listed and wait, at last, for number i; the late ones are among them. -/
def waitsB (md : Region.Mode) (ops : Array Oper) (late : Nat → Bool) (B : List Nat) (listed : Array Bool) (i : Nat) : Bool :=
  !late i && (List.range ops.size).all (fun j => !late j || B.contains j) && B.all (fun k => !listed.getD k true && (match ops[k]? with | some o => o.after.any fun e => Region.binds md e && (e.on == i || B.contains e.on) | none => false))
def Waits (md : Region.Mode) (ops : Array Oper) (B : List Nat) (listed : Array Bool) (i : Nat) : Prop := ∀ k ∈ B, listed.getD k true = false ∧ ∀ o, ops[k]? = some o → ∃ e ∈ o.after, Region.binds md e = true ∧ (e.on = i ∨ e.on ∈ B)
theorem waits_spec {B : List Nat} {listed : Array Bool} {i : Nat} (h : waitsB md ops late B listed i = true) : late i = false ∧ (∀ j oj, ops[j]? = some oj → late j = true → j ∈ B) ∧ Waits md ops B listed i := by
  unfold waitsB at h
  simp only [Bool.and_eq_true] at h
  obtain ⟨⟨h1, h2⟩, h3⟩ := h
  refine ⟨by simpa using h1, fun j oj hj hl => ?_, fun k hk => ?_⟩
  · have h4 := List.all_eq_true.1 h2 j (List.mem_range.2 (Array.getElem?_eq_some_iff.1 hj).1)
    rw [hl] at h4
    simpa using h4
  · have h4 := List.all_eq_true.1 h3 k hk
    rw [Bool.and_eq_true] at h4
    refine ⟨by simpa using h4.1, fun o ho => ?_⟩
    have h5 := h4.2
    rw [ho] at h5
    obtain ⟨e, he, h6⟩ := Array.any_eq_true'.1 h5
    rw [Bool.and_eq_true, Bool.or_eq_true, beq_iff_eq] at h6
    exact ⟨e, he, h6.1, h6.2.imp id (fun h => by simpa using h)⟩
theorem wpAnyL_pull {i : Nat} {oi : Oper} {v : Value} (hi : ops[i]? = some oi) (hsel : Region.noSelect ops = true) (hQ : ∀ c a w, Q (.panic c) (a.put oi.dst v) w → Q (.panic c) a w) (hli : late i = false) {B : List Nat} (hlB : ∀ j oj, ops[j]? = some oj → late j = true → j ∈ B) :
    ∀ (n : Nat) (listed : Array Bool) (a : Act) (w : World),
      (∀ j oj, ops[j]? = some oj → j ≠ i → listed.getD j true = false → (∀ e ∈ oj.after, Region.binds md e = true → e.on ≠ i) → oi.apart ops oj = true) →
      i ∈ Region.ready md ops listed → Waits md ops B listed i → YieldsIf P ops S oi v a → S w →
      wpAnyL P md ops Q S late n (listed.setIfInBounds i true) (a.put oi.dst v) w → wpAnyL P md ops Q S late (n + 1) listed a w
  | n, listed, a, w, hfree, hr, hwt, hy, hS, H => by
    refine ⟨fun h => (by rw [h] at hr; cases hr), fun j hj => ?_⟩
    by_cases hji : j = i
    · rw [hji]
      exact hy.wpOp hi hS (.inr ⟨hli, hS, H⟩)
    · obtain ⟨hun, oj, hoj, hall⟩ := mem_ready.1 hj
      have hnot : ∀ e ∈ oj.after, Region.binds md e = true → e.on ≠ i := fun e he hb heq => by
        have h1 := hall e he hb
        have h0 := (mem_ready.1 hr).1
        rw [heq] at h1
        rcases Nat.lt_or_ge i listed.size with h' | h'
        · simp [h'] at h0 h1; rw [h0] at h1; cases h1
        · simp [Array.getElem?_eq_none h'] at h1
      have hnB : j ∉ B := fun h => by
        obtain ⟨_, h2⟩ := hwt j h
        obtain ⟨e, he, hb, h3⟩ := h2 oj hoj
        rcases h3 with h3 | h3
        · exact hnot e he hb h3
        · have h4 := (hwt _ h3).1
          have h5 := hall e he hb
          rcases Nat.lt_or_ge e.on listed.size with h' | h'
          · simp [h'] at h4 h5; rw [h4] at h5; cases h5
          · simp [Array.getElem?_eq_none h'] at h4
      have hlj : late j = false := by
        cases h : late j with
        | false => rfl
        | true => exact absurd (hlB j oj hoj h) hnB
      have hj2 := ready_mono hj hji
      cases n with
      | zero =>
        rw [H.1] at hj2
        cases hj2
      | succ n =>
        have h2 := wpOp_putIf hoj (hfree j oj hoj hji hun hnot) (fun cs b => Region.noSelect_spec hsel i oi cs b hi) (fun cs b => Region.noSelect_spec hsel j oj cs b hoj) hQ hy (H.2 j hj2)
        refine wpOp_mono (fun b u h3 => .inr ⟨hlj, ?_⟩) h2
        obtain ⟨h4, h5⟩ := h3
        rcases h5 with h5 | h5
        · rw [hlj] at h5; cases h5.1
        · refine ⟨h5.2.1, wpAnyL_pull hi hsel hQ hli hlB n (listed.setIfInBounds j true) b u (fun k ok hk hki hun2 hno => ?_) (ready_mono hr (Ne.symm hji)) (fun k hk => ⟨?_, (hwt k hk).2⟩) h4 h5.2.1 ?_⟩
          · refine hfree k ok hk hki ?_ hno
            by_cases hjk : j = k
            · subst hjk; exact hun
            · rw [getD_set_ne true hjk] at hun2; exact hun2
          · rw [getD_set_ne true (fun e => hnB (by rw [e]; exact hk))]; exact (hwt k hk).1
          · rw [Array.setIfInBounds_comm _ _ hji]
            exact h5.2.2
theorem wpAnyL_take {i : Nat} {oi : Oper} {v : Value} {n : Nat} {listed : Array Bool} {a : Act} {w : World} (hi : ops[i]? = some oi)
    (hs : Region.noSelect ops = true) (hf : Region.free md ops listed i = true) (hr : (Region.ready md ops listed).contains i = true) {B : List Nat} (hw : waitsB md ops late B listed i = true)
    (hQ : ∀ c a w, Q (.panic c) (a.put oi.dst v) w → Q (.panic c) a w) (hy : YieldsIf P ops S oi v a) (hS : S w)
    (h : wpAnyL P md ops Q S late n (listed.setIfInBounds i true) (a.put oi.dst v) w) : wpAnyL P md ops Q S late (n + 1) listed a w :=
  wpAnyL_pull hi hs hQ (waits_spec hw).1 (waits_spec hw).2.1 n listed a w (Region.free_spec hi hf) (by simpa using hr) (waits_spec hw).2.2 hy hS h
theorem wpAnyL_done {n : Nat} {listed : Array Bool} {a : Act} {w : World} (hr : Region.ready md ops listed = []) (h : Q .normal a w) : wpAnyL P md ops Q S late n listed a w := by
  cases n with
  | zero => exact ⟨hr, h⟩
  | succ n => exact ⟨fun _ => h, by rw [hr]; simp⟩
/-- Each of these comes up next. -/
def AllL (P : Program) (md : Region.Mode) (ops : Array Oper) (Q : Exit → Act → World → Prop) (S : World → Prop) (late : Nat → Bool) (n : Nat) (listed : Array Bool) (a : Act) (w : World) (rs : List Nat) : Prop :=
  ∀ i ∈ rs, wpOp P ops Q i (fun b v => (late i = true ∧ wpAny P md ops Q n (listed.setIfInBounds i true) b v) ∨ (late i = false ∧ S v ∧ wpAnyL P md ops Q S late n (listed.setIfInBounds i true) b v)) a w
theorem wpAnyL_ready {rs : List Nat} {n : Nat} {listed : Array Bool} {a : Act} {w : World} (hr : Region.ready md ops listed = rs) (hne : rs ≠ [])
    (h : AllL P md ops Q S late n listed a w rs) : wpAnyL P md ops Q S late (n + 1) listed a w := ⟨fun h0 => absurd (hr ▸ h0) hne, hr ▸ h⟩
theorem AllL.nil {n : Nat} {listed : Array Bool} {a : Act} {w : World} : AllL P md ops Q S late n listed a w [] := fun _ h => by cases h
theorem AllL.cons {n : Nat} {listed : Array Bool} {a : Act} {w : World} {i : Nat} {o : Oper} {rs : List Nat} (ho : ops[i]? = some o) (hl : late i = false)
    (h : ∀ K' : Act → World → Prop, Shut (∀ a w, S w → (S w → wpAnyL P md ops Q S late n (listed.setIfInBounds i true) a w) → K' a w) → if Region.wanted o (yielded ops a.tmps) = true then Oper.wp P o a w K' Q else K' (a.put o.dst undef) w)
    (hs : AllL P md ops Q S late n listed a w rs) : AllL P md ops Q S late n listed a w (i :: rs) := fun j hj => by
  rcases List.mem_cons.1 hj with e | hj
  · rw [e]; exact wpOp_step ho (fun K' hK => h K' (fun a w hS hW => hK a w (.inr ⟨hl, hS, hW hS⟩)))
  · exact hs j hj
/-- A late one: what follows goes under another condition. -/
theorem AllL.last {S2 : World → Prop} {n : Nat} {listed : Array Bool} {a : Act} {w : World} {i : Nat} {o : Oper} {rs : List Nat} (ho : ops[i]? = some o) (hl : late i = true)
    (h : ∀ K' : Act → World → Prop, Shut (∀ a w, S2 w → (S2 w → wpAnyH P md ops Q S2 n (listed.setIfInBounds i true) a w) → K' a w) → if Region.wanted o (yielded ops a.tmps) = true then Oper.wp P o a w K' Q else K' (a.put o.dst undef) w)
    (hs : AllL P md ops Q S late n listed a w rs) : AllL P md ops Q S late n listed a w (i :: rs) := fun j hj => by
  rcases List.mem_cons.1 hj with e | hj
  · rw [e]; exact wpOp_step ho (fun K' hK => h K' (fun a w hS hW => hK a w (.inl ⟨hl, wpAny_of_held _ _ _ _ (hW hS)⟩)))
  · exact hs j hj
theorem wp_region_late {id : Nat} {a : Act} {w : World} (late : Nat → Bool) (hm : P.follows .mixedOrders = true) (hS : S w.drew)
    (h : S w.drew → wpAnyL P .any ops Q S late ops.size (Array.replicate ops.size false) a w.drew) : (Code.region id ops true).wp P Q a w :=
  wp_region_any hm (h hS).any
end
end Go
namespace Go.Proofs.Ythhaegncnoekbaa
open Go.RowKit Go.BigM
theorem bool_two (c : UInt8) (r : List UInt8) : boolOf (35 :: c :: r) = if (c = 116 ∨ c = 102) ∧ rowOf sset r = 0 then some ⟨#[35, c]⟩ else none := by
  unfold boolOf bAt
  by_cases h1 : c = 116
  · subst h1
    by_cases h2 : rowOf sset r = 0 <;> simp [Lib.hasPrefix, Lib.trimPrefix, List.isPrefixOf, h2]
  · have h1b : (116 == c) = false := by simpa using (fun e => h1 e.symm)
    by_cases h3 : c = 102
    · subst h3
      by_cases h2 : rowOf sset r = 0 <;> simp [Lib.hasPrefix, Lib.trimPrefix, List.isPrefixOf, h2]
    · have h3b : (102 == c) = false := by simpa using (fun e => h3 e.symm)
      simp [Lib.hasPrefix, List.isPrefixOf, h1b, h3b, h1, h3]
theorem tok_hash (r : List UInt8) : tokOf (35 :: r) = (boolOf (35 :: r)).map (fun t => (2, t, 2)) := by
  unfold tokOf
  rw [if_pos (by simp [Lib.hasPrefix, List.isPrefixOf])]
theorem hash_a {s : ByteArray} {p : Nat} (hp : p < s.size) (hb : s[p] = 35) (h1 : ¬ p + 1 < s.size) : tokOf (s.data.toList.drop p) = none := by
  rw [drop_at s p hp, hb, List.drop_eq_nil_of_le (by rw [← Lib.size_eq]; omega), tok_hash]
  rfl
theorem hash_b {s : ByteArray} {p : Nat} (hp : p < s.size) (hb : s[p] = 35) (h1 : p + 1 < s.size) : tokOf (s.data.toList.drop p) = if (s[p + 1] = 116 ∨ s[p + 1] = 102) ∧ rowOf sset (s.data.toList.drop (p + 2)) = 0 then some (2, ⟨#[35, s[p + 1]]⟩, 2) else none := by
  rw [drop_at s p hp, hb, drop_at s (p + 1) h1, tok_hash, bool_two]
  split <;> rfl
theorem row0_end {s : ByteArray} {p : Nat} (h : ¬ p < s.size) : rowOf sset (s.data.toList.drop p) = 0 := by
  rw [List.drop_eq_nil_of_le (by rw [← Lib.size_eq]; omega)]; rfl
theorem row0_no {s : ByteArray} {p : Nat} (h : p < s.size) (hc : sset.contains s[p] = false) : rowOf sset (s.data.toList.drop p) = 0 := by
  rw [drop_at s p h]; unfold rowOf; rw [List.takeWhile_cons, hc]; rfl
theorem cut_two {s : ByteArray} {p : Nat} (hp : p < s.size) (hb : s[p] = 35) (h1 : p + 1 < s.size) : s.extract p (p + 2) = ⟨#[35, s[p + 1]]⟩ := by
  apply ByteArray.ext
  apply Array.ext'
  rw [ByteArray.data_extract, Array.toList_extract, List.extract_eq_take_drop, drop_at s p hp, hb, drop_at s (p + 1) h1]
  have : p + 2 - p = 2 := by omega
  rw [this]; rfl
end Go.Proofs.Ythhaegncnoekbaa
