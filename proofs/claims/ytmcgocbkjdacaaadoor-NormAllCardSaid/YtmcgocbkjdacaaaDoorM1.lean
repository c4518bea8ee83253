/- The contracts of digits and name. -/
import Derived.Test.YtmcgocbkjdacaaaDoorM0
import Derived.Laws.BytesArg
namespace Go.Proofs.YtmcgocbkjdacaaaDoor
open Go.RowKit Go.BigM
set_option linter.unusedVariables false
set_option linter.unusedSimpArgs false
theorem conv_digit (w : World) (d : Nat) (hd : d < 10) :
    (convert 44 9 (.slice (some ⟨w.heap.size, 0, none⟩) 1 1)).run Tryd.prog (w.alloc (.cells #[.int .u8 (48 + (d : Int))] 5)) = .ok (.string ⟨#[UInt8.ofNat (48 + d)]⟩) (w.alloc (.cells #[.int .u8 (48 + (d : Int))] 5)) := by
  have := run_convert_bytes_arg (P := Tryd.prog) (w.alloc (.cells #[.int .u8 (48 + (d : Int))] 5)) 44 5 Tryd.underlying44 Tryd.underlying5 w.heap.size 0 1 1 [48 + (d : Int)] rfl (fun i hi => by
    obtain rfl : i = 0 := by omega
    rw [Lib.cell_of_heap (alloc_at w _)]; rfl) 9 Tryd.underlying9
  have e : strOfNums [48 + (d : Int)] = ⟨#[UInt8.ofNat (48 + d)]⟩ := by
    unfold strOfNums
    have : ((48 : Int) + (d : Int)).toNat = 48 + d := by omega
    simp [this]
  rw [e] at this; exact this
set_option maxHeartbeats 4000000 in
set_option maxRecDepth 100000 in
theorem digits_small (d : Nat) (hd : d < 10) (w : World) : Calls Tryd.prog 49 #[.int .i64 (d : Int)] w (RetStr ⟨(dgn d).toArray⟩ w) := by
  have hcv := conv_digit w d hd
  rw [dgn_small d hd]
  obtain ⟨cc, hcc⟩ : ∃ cc : UInt8, cc = UInt8.ofNat (48 + d) := ⟨_, rfl⟩
  rw [← hcc] at hcv ⊢
  have q1 : decide (10 ≤ (d : Int)) = false := decide_eq_false (by omega)
  have HB := Lib.hid ((Below.refl w.heap.size w).alloc (Nat.le_refl _) (.cells #[.int .u8 (48 + (d : Int))] 5))
  clear hcc
  go_enter Tryd.func49, Tryd.ntmps49
  go_wp2_with fail
  go_ret
  exact ⟨rfl, HB.out⟩
set_option maxHeartbeats 4000000 in
set_option maxRecDepth 100000 in
theorem digits_any (m : Nat) : ∀ (n : Nat), n ≤ m → n ≤ 1000000 → ∀ w, Calls Tryd.prog 49 #[.int .i64 (n : Int)] w (RetStr ⟨(dgn n).toArray⟩ w) := by
  induction m with
  | zero => intro n hn _ w; exact digits_small n (by omega) w
  | succ m ih =>
    intro n hn hl w
    by_cases h10 : n < 10
    · exact digits_small n h10 w
    · obtain ⟨v, hv⟩ : ∃ v, v = n / 10 := ⟨_, rfl⟩
      obtain ⟨d, hd⟩ : ∃ d, d = n % 10 := ⟨_, rfl⟩
      have hd10 : d < 10 := by omega
      have hdg : (⟨(dgn n).toArray⟩ : ByteArray) = ⟨(dgn v).toArray⟩ ++ ⟨(dgn d).toArray⟩ := by
        rw [dgn_big n h10, ← hv, ← hd, str_app, dgn_small d hd10]
      rw [hdg]
      have H1 := Lib.hid (fun w => ih v (by omega) (by omega) w)
      have H2 := Lib.hid (fun w => digits_small d hd10 w)
      have z1 : (dgn v).length ≤ 10 := dgn_len 9 v (by omega)
      have z2 : (dgn d).length ≤ 10 := dgn_len 9 d (by omega)
      obtain ⟨sv, hsv⟩ : ∃ s : ByteArray, s = ⟨(dgn v).toArray⟩ := ⟨_, rfl⟩
      obtain ⟨sd, hsd⟩ : ∃ s : ByteArray, s = ⟨(dgn d).toArray⟩ := ⟨_, rfl⟩
      have y1 : sv.size ≤ 10 := by rw [hsv]; simpa [ByteArray.size] using z1
      have y2 : sd.size ≤ 10 := by rw [hsd]; simpa [ByteArray.size] using z2
      rw [← hsv] at H1 ⊢
      rw [← hsd] at H2 ⊢
      have q1 : decide (10 ≤ (n : Int)) = true := decide_eq_true (by omega)
      have hq3 : (n : Int) / 10 = (v : Int) := by omega
      have hq4 : (n : Int) % 10 = (d : Int) := by omega
      have hn0 : 0 ≤ (n : Int) := by omega
      have hv6 : v ≤ 1000000 := by omega
      have hnl : n ≤ 1000000 := hl
      have BB := Lib.hid (Below.refl w.heap.size w)
      clear hv hd hdg ih hn hl h10 hsv hsd z1 z2
      go_enter Tryd.func49, Tryd.ntmps49
      go_wp2_with fail
      refine (H1.out _).mono ?_
      rintro e w1 ⟨rfl, hb⟩
      replace BB := Lib.hid (BB.out.trans (hb.mono BB.out.size))
      clear hb
      go_wp2_with fail
      refine (H2.out _).mono ?_
      rintro e w2 ⟨rfl, hb⟩
      replace BB := Lib.hid (BB.out.trans (hb.mono BB.out.size))
      clear hb
      go_wp2_with fail
      go_ret
      exact ⟨rfl, BB.out⟩
/-- The maker's counter. -/
def Mk (w : World) (g N : Nat) : Prop := w.heap[g]? = some (.cells #[.int .i64 (N : Int)] 50 (0, 0))
theorem Mk.lt {w : World} {g N : Nat} (h : Mk w g N) : g < w.heap.size := (Array.getElem?_eq_some_iff.1 h).1
theorem Mk.below {w w' : World} {g N : Nat} (h : Mk w g N) (hb : Below w.heap.size w w') : Mk w' g N := by
  unfold Mk; rw [hb.block g h.lt]; exact h
def RetNm (g N : Nat) (w : World) (e : Ending) (w' : World) : Prop := e = .returned (.string (nm (N + 1))) ∧ Mk w' g (N + 1) ∧ But w.heap.size g w w'
set_option maxHeartbeats 4000000 in
set_option maxRecDepth 100000 in
theorem name_any (g N : Nat) (w : World) (h : Mk w g N) (hN : N ≤ 100000) : Calls Tryd.prog 31 #[.pointer (some ⟨g, 0, none⟩)] w (RetNm g N w) := by
  unfold RetNm
  obtain ⟨M, hMN⟩ : ∃ M, M = N + 1 := ⟨_, rfl⟩
  rw [← hMN]
  have c0 : w.cell? ⟨g, 0, none⟩ = some (.int .i64 (N : Int)) := by rw [Lib.cell_of_heap h]; rfl
  have hf := frozen_of_row w g 0 _ 50 h
  have hgl := h.lt
  have h1 := heap_setCell_same w g 0 _ 50 (.int .i64 (M : Int)) h
  have hM : Mk (w.setCell ⟨g, 0, none⟩ (.int .i64 (M : Int))) g M := by
    unfold Mk; rw [h1]; rfl
  have HM := Lib.hid hM
  have HBU := Lib.hid ((But.refl w.heap.size g w).setCell (p := ⟨g, 0, none⟩) (.inr rfl) (.int .i64 (M : Int)))
  have HD := Lib.hid (fun w => digits_any M M (Nat.le_refl _) (by omega) w)
  have z1 : (dgn M).length ≤ 10 := dgn_len 9 M (by omega)
  obtain ⟨sv, hsv⟩ : ∃ s : ByteArray, s = ⟨(dgn M).toArray⟩ := ⟨_, rfl⟩
  have y1 : sv.size ≤ 10 := by rw [hsv]; simpa [ByteArray.size] using z1
  have HE : Hid (⟨#[118, 46]⟩ ++ sv = nm M) := by
    show _ = _
    rw [hsv]
    have := str_app [118, 46] (dgn M)
    exact this
  rw [← hsv] at HD
  have e1 : (N : Int) + 1 = (M : Int) := by omega
  have hsz : (w.setCell ⟨g, 0, none⟩ (.int .i64 (M : Int))).heap.size = w.heap.size := by simp [World.setCell]
  have hc1 : (w.setCell ⟨g, 0, none⟩ (.int .i64 (M : Int))).cell? ⟨g, 0, none⟩ = some (.int .i64 (M : Int)) := by
    have hm := HM.out
    unfold Mk at hm
    rw [Lib.cell_of_heap hm]; rfl
  have HSZ := Lib.hid hsz
  clear h h1 hM hsv z1 hMN hsz
  go_enter Tryd.func31, Tryd.ntmps31
  go_wp2_with fail
  refine (HD.out _).mono ?_
  rintro e w2 ⟨rfl, hb⟩
  have H1 := Lib.hid (HM.out.below hb)
  have H2 := Lib.hid (HBU.out.trans (But.of (hb.mono (by rw [HSZ.out]; exact Nat.le_refl _))))
  clear hb
  go_wp2_with fail
  go_ret
  exact ⟨by rw [← HE.out]; rfl, H1.out, H2.out⟩
end Go.Proofs.YtmcgocbkjdacaaaDoor
