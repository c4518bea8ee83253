/- Names that norm gives; both sides. -/
import Derived.Test.YtmcgocbkjdacaaaDoorSHI
import Derived.Test.YtmcgocbkjdacaaaDoorNM
import Derived.Test.YtmcgocbkjdacaaaDoorM1
namespace Go.Proofs.YtmcgocbkjdacaaaDoor
open Go.RowKit Go.BigM
set_option linter.unusedVariables false
set_option linter.unusedSimpArgs false
def tabA : Array Value := (Lib.pow10Tab.map fun z => Value.int .u64 z).toArray
/-- The library's table of powers of ten lies where it was laid. -/
def Tab (w : World) : Prop := ∃ T fz, w.heap[0]? = some (.cells tabA T fz)
theorem Tab.pos {w : World} (h : Tab w) : 0 < w.heap.size := by
  obtain ⟨T, fz, h⟩ := h; exact (Array.getElem?_eq_some_iff.1 h).1
theorem Tab.heap {w w' : World} (h : Tab w) (hb : w'.heap[0]? = w.heap[0]?) : Tab w' := by
  obtain ⟨T, fz, h⟩ := h
  exact ⟨T, fz, by rw [hb]; exact h⟩
theorem Tab.below {w w' : World} (h : Tab w) (hb : Below w.heap.size w w') : Tab w' := h.heap (hb.block 0 h.pos)
theorem Tab.but {w w' : World} {B g : Nat} (h : Tab w) (hb : But B g w w') (hB : 0 < B) (hg : 0 < g) : Tab w' := h.heap (hb.block 0 hB (by omega))
theorem Tab.is {w : World} (h : Tab w) : Lib.TabIs Tryd.prog w "internal/strconv.uint64pow10" .u64 Lib.pow10Tab := by
  obtain ⟨T, fz, h⟩ := h
  have hg : Tryd.prog.globalNamed "internal/strconv.uint64pow10" = some 0 := by kernel_rfl
  unfold Lib.TabIs World.var?
  rw [hg]
  simp only [Option.bind_some, h]
  rfl
theorem dec_dgn (n : Nat) : Lib.decDigits n = dgn n := by
  induction n using Nat.strongRecOn with
  | ind n ih =>
    by_cases h : n < 10
    · rw [dgn_small n h, Lib.decDigits, dif_pos h]
    · rw [dgn_big n h, Lib.decDigits, dif_neg h, ih (n / 10) (by omega)]
theorem itoa_any (n : Nat) (hn : n ≤ 1000000) (w : World) (ht : Tab w) : Calls Tryd.prog 55 #[.int .i64 (n : Int)] w (RetStr ⟨(dgn n).toArray⟩ w) := by
  refine (Tryd.strconv_Itoa (n : Int) (by omega) (by omega) w ht.is).mono ?_
  rintro e w' ⟨rfl, k, os, rfl⟩
  have e1 : Lib.itoa (n : Int) = dgn n := by
    unfold Lib.itoa
    rw [if_neg (by omega)]
    simp [dec_dgn]
  refine ⟨by rw [e1], ?_⟩
  have h1 : Below w.heap.size w (w.drewN k) := by
    refine ⟨?_, ?_, ?_, ?_, ?_⟩ <;> simp [World.drewN]
  have h2 : Below w.heap.size (w.drewN k) (Sort.grow (w.drewN k) os) := by
    refine ⟨rfl, rfl, rfl, ?_, ?_⟩
    · simp [Sort.grow]
    · intro i hi
      have hi2 : i < (w.drewN k).heap.size := by simpa [World.drewN] using hi
      show ((w.drewN k).heap ++ os)[i]? = (w.drewN k).heap[i]?
      rw [Array.getElem?_append_left hi2]
  exact h1.trans h2
/-- Norm's counter. -/
def Nk (w : World) (g N : Nat) : Prop := w.heap[g]? = some (.cells #[.int .i64 (N : Int)] 60 (0, 0))
theorem Nk.lt {w : World} {g N : Nat} (h : Nk w g N) : g < w.heap.size := (Array.getElem?_eq_some_iff.1 h).1
theorem Nk.below {w w' : World} {g N : Nat} (h : Nk w g N) (hb : Below w.heap.size w w') : Nk w' g N := by
  unfold Nk; rw [hb.block g h.lt]; exact h
def RetPn (g N : Nat) (w : World) (e : Ending) (w' : World) : Prop := e = .returned (.string (pn (N + 1))) ∧ Nk w' g (N + 1) ∧ But w.heap.size g w w'
set_option maxHeartbeats 4000000 in
set_option maxRecDepth 100000 in
theorem next_any (g N : Nat) (w : World) (h : Nk w g N) (hN : N ≤ 100000) (ht : Tab w) (hg0 : 0 < g) : Calls Tryd.prog 51 #[.pointer (some ⟨g, 0, none⟩)] w (RetPn g N w) := by
  unfold RetPn
  obtain ⟨M, hMN⟩ : ∃ M, M = N + 1 := ⟨_, rfl⟩
  rw [← hMN]
  have c0 : w.cell? ⟨g, 0, none⟩ = some (.int .i64 (N : Int)) := by rw [Lib.cell_of_heap h]; rfl
  have hf := frozen_of_row w g 0 _ 60 h
  have hgl := h.lt
  have h1 := heap_setCell_same w g 0 _ 60 (.int .i64 (M : Int)) h
  have hM : Nk (w.setCell ⟨g, 0, none⟩ (.int .i64 (M : Int))) g M := by
    unfold Nk; rw [h1]; rfl
  have HM := Lib.hid hM
  have hbu := (But.refl w.heap.size g w).setCell (p := ⟨g, 0, none⟩) (.inr rfl) (.int .i64 (M : Int))
  have HBU := Lib.hid hbu
  have HD := Lib.hid (itoa_any M (by omega) _ (ht.but hbu (by omega) hg0))
  have z1 : (dgn M).length ≤ 10 := dgn_len 9 M (by omega)
  obtain ⟨sv, hsv⟩ : ∃ s : ByteArray, s = ⟨(dgn M).toArray⟩ := ⟨_, rfl⟩
  have y1 : sv.size ≤ 10 := by rw [hsv]; simpa [ByteArray.size] using z1
  have HE : Hid (⟨#[37, 46]⟩ ++ sv = pn M) := by
    show _ = _
    rw [hsv]
    have := str_app [37, 46] (dgn M)
    exact this
  rw [← hsv] at HD
  have e1 : (N : Int) + 1 = (M : Int) := by omega
  have hsz : (w.setCell ⟨g, 0, none⟩ (.int .i64 (M : Int))).heap.size = w.heap.size := by simp [World.setCell]
  have hc1 : (w.setCell ⟨g, 0, none⟩ (.int .i64 (M : Int))).cell? ⟨g, 0, none⟩ = some (.int .i64 (M : Int)) := by
    have hm := HM.out
    unfold Nk at hm
    rw [Lib.cell_of_heap hm]; rfl
  have HSZ := Lib.hid hsz
  clear h h1 hM hsv z1 hMN hsz hbu ht
  go_enter Tryd.func51, Tryd.ntmps51
  go_wp2_with fail
  refine HD.out.mono ?_
  rintro e w2 ⟨rfl, hb⟩
  have H1 := Lib.hid (HM.out.below hb)
  have H2 := Lib.hid (HBU.out.trans (But.of (hb.mono (by rw [HSZ.out]; exact Nat.le_refl _))))
  clear hb
  go_wp2_with fail
  go_ret
  exact ⟨by rw [← HE.out]; rfl, H1.out, H2.out⟩
set_option maxHeartbeats 4000000 in
set_option maxRecDepth 100000 in
theorem rdigits_small (d : Nat) (hd : d < 10) (w : World) : Calls Tryd.prog 57 #[.int .i64 (d : Int)] w (RetStr ⟨(dgn d).toArray⟩ w) := by
  have hcv := conv_digit w d hd
  rw [dgn_small d hd]
  obtain ⟨cc, hcc⟩ : ∃ cc : UInt8, cc = UInt8.ofNat (48 + d) := ⟨_, rfl⟩
  rw [← hcc] at hcv ⊢
  have q1 : decide (10 ≤ (d : Int)) = false := decide_eq_false (by omega)
  have HB := Lib.hid ((Below.refl w.heap.size w).alloc (Nat.le_refl _) (.cells #[.int .u8 (48 + (d : Int))] 5))
  clear hcc
  go_enter Tryd.func57, Tryd.ntmps57
  go_wp2_with fail
  go_ret
  exact ⟨rfl, HB.out⟩
set_option maxHeartbeats 4000000 in
set_option maxRecDepth 100000 in
theorem rdigits_any (m : Nat) : ∀ (n : Nat), n ≤ m → n ≤ 1000000 → ∀ w, Calls Tryd.prog 57 #[.int .i64 (n : Int)] w (RetStr ⟨(dgn n).toArray⟩ w) := by
  induction m with
  | zero => intro n hn _ w; exact rdigits_small n (by omega) w
  | succ m ih =>
    intro n hn hl w
    by_cases h10 : n < 10
    · exact rdigits_small n h10 w
    · obtain ⟨v, hv⟩ : ∃ v, v = n / 10 := ⟨_, rfl⟩
      obtain ⟨d, hd⟩ : ∃ d, d = n % 10 := ⟨_, rfl⟩
      have hd10 : d < 10 := by omega
      have hdg : (⟨(dgn n).toArray⟩ : ByteArray) = ⟨(dgn v).toArray⟩ ++ ⟨(dgn d).toArray⟩ := by
        rw [dgn_big n h10, ← hv, ← hd, str_app, dgn_small d hd10]
      rw [hdg]
      have H1 := Lib.hid (fun w => ih v (by omega) (by omega) w)
      have H2 := Lib.hid (fun w => rdigits_small d hd10 w)
      have z1 : (dgn v).length ≤ 10 := dgn_len 9 v (by omega)
      have z2 : (dgn d).length ≤ 10 := dgn_len 9 d (by omega)
      obtain ⟨sv, hsv⟩ : ∃ s : ByteArray, s = ⟨(dgn v).toArray⟩ := ⟨_, rfl⟩
      obtain ⟨sd, hsd⟩ : ∃ s : ByteArray, s = ⟨(dgn d).toArray⟩ := ⟨_, rfl⟩
      have y1 : sv.size ≤ 10 := by rw [hsv]; simpa [ByteArray.size] using z1
      have y2 : sd.size ≤ 10 := by rw [hsd]; simpa [ByteArray.size] using z2
      rw [← hsv] at H1 ⊢
      rw [← hsd] at H2 ⊢
      have q1 : decide (10 ≤ (n : Int)) = true := decide_eq_true (by omega)
      have hq3 : (n : Int) / 10 = (v : Int) := by omega
      have hq4 : (n : Int) % 10 = (d : Int) := by omega
      have hn0 : 0 ≤ (n : Int) := by omega
      have hv6 : v ≤ 1000000 := by omega
      have hnl : n ≤ 1000000 := hl
      have BB := Lib.hid (Below.refl w.heap.size w)
      clear hv hd hdg ih hn hl h10 hsv hsd z1 z2
      go_enter Tryd.func57, Tryd.ntmps57
      go_wp2_with fail
      refine (H1.out _).mono ?_
      rintro e w1 ⟨rfl, hb⟩
      replace BB := Lib.hid (BB.out.trans (hb.mono BB.out.size))
      clear hb
      go_wp2_with fail
      refine (H2.out _).mono ?_
      rintro e w2 ⟨rfl, hb⟩
      replace BB := Lib.hid (BB.out.trans (hb.mono BB.out.size))
      clear hb
      go_wp2_with fail
      go_ret
      exact ⟨rfl, BB.out⟩
/-- The document's counter. -/
def Rk (w : World) (g N : Nat) : Prop := w.heap[g]? = some (.cells #[.string ⟨#[37, 46]⟩, .int .i64 (N : Int)] 63 (0, 0))
theorem Rk.lt {w : World} {g N : Nat} (h : Rk w g N) : g < w.heap.size := (Array.getElem?_eq_some_iff.1 h).1
theorem Rk.below {w w' : World} {g N : Nat} (h : Rk w g N) (hb : Below w.heap.size w w') : Rk w' g N := by
  unfold Rk; rw [hb.block g h.lt]; exact h
def RetRp (g N : Nat) (w : World) (e : Ending) (w' : World) : Prop := e = .returned (.string (pn (N + 1))) ∧ Rk w' g (N + 1) ∧ But w.heap.size g w w'
end Go.Proofs.YtmcgocbkjdacaaaDoor
