/- The contract of the document's own Right: of any text. -/
import Derived.Test.YtahdiknkcgnieaaDoorZA
namespace Go.Proofs.YtahdiknkcgnieaaDoor
open Go.RowKit Go.BigM
set_option linter.unusedVariables false

set_option maxHeartbeats 4000000 in
set_option maxRecDepth 100000 in
theorem refRight_low (s t : ByteArray) (ht : t.data.toList = strip s.data.toList) (hx : s.extract 1 s.size = t) (hs0 : 0 < s.size) (hq0 : ((s[0].toNat : Int) == 45) = true) (w : World) (hs : s.size ≤ 9000) :
    Calls Tryd.prog 61 #[.string s] w fun e w' => e = .returned (.bool (decide (Canon s.data.toList))) ∧ w = w' := by
  have hlen : (strip s.data.toList).length = t.size := by rw [Lib.size_eq, ht]
  by_cases h0 : t.size = 0
  · have hn : false = true ↔ Canon s.data.toList := by simp [Canon, hlen, h0]
    rw [← right_ret _ _ hn]
    have e1 : ((t.size : Int) == 0) = true := beq_iff_eq.2 (by omega)
    clear ht hlen hn
    go_enter Tryd.func61, Tryd.ntmps61
    go_wp2
    go_ret
    exact ⟨rfl, rfl⟩
  · have h0' : 1 ≤ t.size := by omega
    have e1 : ((t.size : Int) == 0) = false := beq_eq_false_iff_ne.2 (by omega)
    by_cases h1 : 200 < t.size
    · have hn : false = true ↔ Canon s.data.toList := by simp [Canon, hlen]; intros; omega
      rw [← right_ret _ _ hn]
      have e2 : decide (200 < (t.size : Int)) = true := decide_eq_true (by omega)
      clear ht hlen hn h0
      go_enter Tryd.func61, Tryd.ntmps61
      go_wp2
      go_ret
      exact ⟨rfl, rfl⟩
    · have h1' : t.size ≤ 200 := by omega
      have e2 : decide (200 < (t.size : Int)) = false := decide_eq_false (by omega)
      have hhd : (strip s.data.toList).head? = some t[0] := by
        rw [← ht, List.head?_eq_getElem?, List.getElem?_eq_getElem (by rw [← Lib.size_eq]; omega)]; rfl
      by_cases hz : t[0].toNat = 48 ∧ 1 < s.size
      · have hn : false = true ↔ Canon s.data.toList := by
          simp only [Bool.false_eq_true, false_iff]
          rintro ⟨_, _, _, h | h⟩
          · apply h; rw [hhd]; congr 1; exact UInt8.toNat_inj.1 (by rw [hz.1]; rfl)
          · have := hz.2; rw [Lib.size_eq, h] at this; simp at this
        rw [← right_ret _ _ hn]
        have e3 : ((t[0].toNat : Int) == 48) = true := by rw [beq_iff_eq]; omega
        have e4 : decide (1 < (s.size : Int)) = true := decide_eq_true (by omega)
        clear ht hlen hn h0 hhd hz
        go_enter Tryd.func61, Tryd.ntmps61
        go_wp2
        go_ret
        exact ⟨rfl, rfl⟩
      · have hok : (strip s.data.toList).head? ≠ some 48 ∨ s.data.toList = [48] := by
          by_cases hq : t[0].toNat = 48
          · right
            have hs1 : s.size ≤ 1 := by omega
            have hq' : t[0] = 48 := UInt8.toNat_inj.1 (by rw [hq]; rfl)
            rw [hq'] at hhd
            cases hl : s.data.toList with
            | nil => rw [hl] at hhd; simp [strip] at hhd
            | cons a m =>
              have : m = [] := by
                rw [Lib.size_eq, hl] at hs1; simp at hs1; exact hs1
              subst this
              rw [hl] at hhd
              unfold strip at hhd
              split at hhd
              · simp at hhd
              · simp at hhd; rw [hhd]
          · left; rw [hhd]; intro e; injection e with e; apply hq; rw [e]; rfl
        have HT := Lib.hid ht
        have HL := Lib.hid hlen
        have HOK := Lib.hid hok
        by_cases hq : t[0].toNat = 48
        · have e3 : ((t[0].toNat : Int) == 48) = true := by rw [beq_iff_eq]; omega
          have e4 : decide (1 < (s.size : Int)) = false := decide_eq_false (by omega)
          clear ht hlen h0 hhd hz hok h1 hq
          go_enter Tryd.func61, Tryd.ntmps61
          go_wp2
          go_loop [4] (fun i => ∃ k : Nat, k ≤ t.size ∧ i = .int .i64 k ∧ Hid (∀ c ∈ t.data.toList.take k, isD c)) (fun i => t.size - (intOf i).toNat)
          case atStart => exact ⟨0, Nat.zero_le _, rfl, by intro c hc; simp at hc⟩
          case round =>
            obtain ⟨k, hk, rfl, hd⟩ := hrel
            by_cases hlt : k < t.size
            · have hmem : t[k] ∈ t.data.toList := by simp [ByteArray.getElem_eq_getElem_data]
              by_cases ha : t[k].toNat < 48
              · have hn : false = true ↔ Canon s.data.toList := by
                  simp only [Bool.false_eq_true, false_iff]; rintro ⟨_, _, h, _⟩
                  have := h _ (by rw [← HT.out]; exact hmem)
                  unfold isD at this; omega
                have HR := Lib.hid (right_ret _ _ hn)
                clear hmem hn
                go_wp2
                go_ret
                exact ⟨HR.out, rfl⟩
              · by_cases hb : 57 < t[k].toNat
                · have hn : false = true ↔ Canon s.data.toList := by
                    simp only [Bool.false_eq_true, false_iff]; rintro ⟨_, _, h, _⟩
                    have := h _ (by rw [← HT.out]; exact hmem)
                    unfold isD at this; omega
                  have HR := Lib.hid (right_ret _ _ hn)
                  have ha' : 48 ≤ t[k].toNat := by omega
                  clear hmem hn ha
                  go_wp2
                  go_ret
                  exact ⟨HR.out, rfl⟩
                · have ha' : 48 ≤ t[k].toNat := by omega
                  have hb' : t[k].toNat ≤ 57 := by omega
                  have hd' : Hid (∀ c ∈ t.data.toList.take (k + 1), isD c) := by
                    intro c hc
                    rw [take_snoc t k hlt] at hc
                    simp only [List.mem_append, List.mem_singleton] at hc
                    rcases hc with hc | rfl
                    · exact hd c hc
                    · exact ⟨ha', hb'⟩
                  clear hmem ha hb hd
                  go_wp2
                  go_round
                  case rel => exact ⟨k + 1, by omega, by go_num, hd'⟩
                  case measure => simp [intOf]; omega
            · have hk' : k = t.size := by omega
              have q2 : true = true ↔ Canon s.data.toList := by
                simp only [true_iff]
                refine ⟨by rw [HL.out]; exact h0', by rw [HL.out]; exact h1', fun c hc => ?_, HOK.out⟩
                rw [← HT.out] at hc
                exact hd c (by rw [List.take_of_length_le (by rw [← Lib.size_eq]; omega)]; exact hc)
              have HQ := Lib.hid (right_ret _ _ q2)
              clear q2 hd hlt hk
              subst hk'
              go_wp2
              go_ret
              exact ⟨HQ.out, rfl⟩
        · have e3 : ((t[0].toNat : Int) == 48) = false := by rw [beq_eq_false_iff_ne]; omega
          clear ht hlen h0 hhd hz hok h1 hq
          go_enter Tryd.func61, Tryd.ntmps61
          go_wp2
          go_loop [4] (fun i => ∃ k : Nat, k ≤ t.size ∧ i = .int .i64 k ∧ Hid (∀ c ∈ t.data.toList.take k, isD c)) (fun i => t.size - (intOf i).toNat)
          case atStart => exact ⟨0, Nat.zero_le _, rfl, by intro c hc; simp at hc⟩
          case round =>
            obtain ⟨k, hk, rfl, hd⟩ := hrel
            by_cases hlt : k < t.size
            · have hmem : t[k] ∈ t.data.toList := by simp [ByteArray.getElem_eq_getElem_data]
              by_cases ha : t[k].toNat < 48
              · have hn : false = true ↔ Canon s.data.toList := by
                  simp only [Bool.false_eq_true, false_iff]; rintro ⟨_, _, h, _⟩
                  have := h _ (by rw [← HT.out]; exact hmem)
                  unfold isD at this; omega
                have HR := Lib.hid (right_ret _ _ hn)
                clear hmem hn
                go_wp2
                go_ret
                exact ⟨HR.out, rfl⟩
              · by_cases hb : 57 < t[k].toNat
                · have hn : false = true ↔ Canon s.data.toList := by
                    simp only [Bool.false_eq_true, false_iff]; rintro ⟨_, _, h, _⟩
                    have := h _ (by rw [← HT.out]; exact hmem)
                    unfold isD at this; omega
                  have HR := Lib.hid (right_ret _ _ hn)
                  have ha' : 48 ≤ t[k].toNat := by omega
                  clear hmem hn ha
                  go_wp2
                  go_ret
                  exact ⟨HR.out, rfl⟩
                · have ha' : 48 ≤ t[k].toNat := by omega
                  have hb' : t[k].toNat ≤ 57 := by omega
                  have hd' : Hid (∀ c ∈ t.data.toList.take (k + 1), isD c) := by
                    intro c hc
                    rw [take_snoc t k hlt] at hc
                    simp only [List.mem_append, List.mem_singleton] at hc
                    rcases hc with hc | rfl
                    · exact hd c hc
                    · exact ⟨ha', hb'⟩
                  clear hmem ha hb hd
                  go_wp2
                  go_round
                  case rel => exact ⟨k + 1, by omega, by go_num, hd'⟩
                  case measure => simp [intOf]; omega
            · have hk' : k = t.size := by omega
              have q2 : true = true ↔ Canon s.data.toList := by
                simp only [true_iff]
                refine ⟨by rw [HL.out]; exact h0', by rw [HL.out]; exact h1', fun c hc => ?_, HOK.out⟩
                rw [← HT.out] at hc
                exact hd c (by rw [List.take_of_length_le (by rw [← Lib.size_eq]; omega)]; exact hc)
              have HQ := Lib.hid (right_ret _ _ q2)
              clear q2 hd hlt hk
              subst hk'
              go_wp2
              go_ret
              exact ⟨HQ.out, rfl⟩

set_option maxHeartbeats 4000000 in
set_option maxRecDepth 100000 in
theorem refRight_high (s : ByteArray) (ht : s.data.toList = strip s.data.toList) (hs0 : 0 < s.size) (hq0 : ((s[0].toNat : Int) == 45) = false) (w : World) (hs : s.size ≤ 9000) :
    Calls Tryd.prog 61 #[.string s] w fun e w' => e = .returned (.bool (decide (Canon s.data.toList))) ∧ w = w' := by
  have hlen : (strip s.data.toList).length = s.size := (congrArg List.length ht).symm.trans (Lib.size_eq s).symm
  by_cases h0 : s.size = 0
  · have hn : false = true ↔ Canon s.data.toList := by simp [Canon, hlen, h0]
    rw [← right_ret _ _ hn]
    have e1 : ((s.size : Int) == 0) = true := beq_iff_eq.2 (by omega)
    clear ht hlen hn
    go_enter Tryd.func61, Tryd.ntmps61
    go_wp2
    go_ret
    exact ⟨rfl, rfl⟩
  · have h0' : 1 ≤ s.size := by omega
    have e1 : ((s.size : Int) == 0) = false := beq_eq_false_iff_ne.2 (by omega)
    by_cases h1 : 200 < s.size
    · have hn : false = true ↔ Canon s.data.toList := by simp [Canon, hlen]; intros; omega
      rw [← right_ret _ _ hn]
      have e2 : decide (200 < (s.size : Int)) = true := decide_eq_true (by omega)
      clear ht hlen hn h0
      go_enter Tryd.func61, Tryd.ntmps61
      go_wp2
      go_ret
      exact ⟨rfl, rfl⟩
    · have h1' : s.size ≤ 200 := by omega
      have e2 : decide (200 < (s.size : Int)) = false := decide_eq_false (by omega)
      have hhd : (strip s.data.toList).head? = some s[0] := by
        rw [← ht, List.head?_eq_getElem?, List.getElem?_eq_getElem (by rw [← Lib.size_eq]; omega)]; rfl
      by_cases hz : s[0].toNat = 48 ∧ 1 < s.size
      · have hn : false = true ↔ Canon s.data.toList := by
          simp only [Bool.false_eq_true, false_iff]
          rintro ⟨_, _, _, h | h⟩
          · apply h; rw [hhd]; congr 1; exact UInt8.toNat_inj.1 (by rw [hz.1]; rfl)
          · have := hz.2; rw [Lib.size_eq, h] at this; simp at this
        rw [← right_ret _ _ hn]
        have e3 : ((s[0].toNat : Int) == 48) = true := by rw [beq_iff_eq]; omega
        have e4 : decide (1 < (s.size : Int)) = true := decide_eq_true (by omega)
        clear ht hlen hn h0 hhd hz
        go_enter Tryd.func61, Tryd.ntmps61
        go_wp2
        go_ret
        exact ⟨rfl, rfl⟩
      · have hok : (strip s.data.toList).head? ≠ some 48 ∨ s.data.toList = [48] := by
          by_cases hq : s[0].toNat = 48
          · right
            have hs1 : s.size ≤ 1 := by omega
            have hq' : s[0] = 48 := UInt8.toNat_inj.1 (by rw [hq]; rfl)
            rw [hq'] at hhd
            cases hl : s.data.toList with
            | nil => rw [hl] at hhd; simp [strip] at hhd
            | cons a m =>
              have : m = [] := by
                rw [Lib.size_eq, hl] at hs1; simp at hs1; exact hs1
              subst this
              rw [hl] at hhd
              unfold strip at hhd
              split at hhd
              · simp at hhd
              · simp at hhd; rw [hhd]
          · left; rw [hhd]; intro e; injection e with e; apply hq; rw [e]; rfl
        have HT := Lib.hid ht
        have HL := Lib.hid hlen
        have HOK := Lib.hid hok
        by_cases hq : s[0].toNat = 48
        · have e3 : ((s[0].toNat : Int) == 48) = true := by rw [beq_iff_eq]; omega
          have e4 : decide (1 < (s.size : Int)) = false := decide_eq_false (by omega)
          clear ht hlen h0 hhd hz hok h1 hq
          go_enter Tryd.func61, Tryd.ntmps61
          go_wp2
          go_loop [4] (fun i => ∃ k : Nat, k ≤ s.size ∧ i = .int .i64 k ∧ Hid (∀ c ∈ s.data.toList.take k, isD c)) (fun i => s.size - (intOf i).toNat)
          case atStart => exact ⟨0, Nat.zero_le _, rfl, by intro c hc; simp at hc⟩
          case round =>
            obtain ⟨k, hk, rfl, hd⟩ := hrel
            by_cases hlt : k < s.size
            · have hmem : s[k] ∈ s.data.toList := by simp [ByteArray.getElem_eq_getElem_data]
              by_cases ha : s[k].toNat < 48
              · have hn : false = true ↔ Canon s.data.toList := by
                  simp only [Bool.false_eq_true, false_iff]; rintro ⟨_, _, h, _⟩
                  have := h _ (by rw [← HT.out]; exact hmem)
                  unfold isD at this; omega
                have HR := Lib.hid (right_ret _ _ hn)
                clear hmem hn
                go_wp2
                go_ret
                exact ⟨HR.out, rfl⟩
              · by_cases hb : 57 < s[k].toNat
                · have hn : false = true ↔ Canon s.data.toList := by
                    simp only [Bool.false_eq_true, false_iff]; rintro ⟨_, _, h, _⟩
                    have := h _ (by rw [← HT.out]; exact hmem)
                    unfold isD at this; omega
                  have HR := Lib.hid (right_ret _ _ hn)
                  have ha' : 48 ≤ s[k].toNat := by omega
                  clear hmem hn ha
                  go_wp2
                  go_ret
                  exact ⟨HR.out, rfl⟩
                · have ha' : 48 ≤ s[k].toNat := by omega
                  have hb' : s[k].toNat ≤ 57 := by omega
                  have hd' : Hid (∀ c ∈ s.data.toList.take (k + 1), isD c) := by
                    intro c hc
                    rw [take_snoc s k hlt] at hc
                    simp only [List.mem_append, List.mem_singleton] at hc
                    rcases hc with hc | rfl
                    · exact hd c hc
                    · exact ⟨ha', hb'⟩
                  clear hmem ha hb hd
                  go_wp2
                  go_round
                  case rel => exact ⟨k + 1, by omega, by go_num, hd'⟩
                  case measure => simp [intOf]; omega
            · have hk' : k = s.size := by omega
              have q2 : true = true ↔ Canon s.data.toList := by
                simp only [true_iff]
                refine ⟨by rw [HL.out]; exact h0', by rw [HL.out]; exact h1', fun c hc => ?_, HOK.out⟩
                rw [← HT.out] at hc
                exact hd c (by rw [List.take_of_length_le (by rw [← Lib.size_eq]; omega)]; exact hc)
              have HQ := Lib.hid (right_ret _ _ q2)
              clear q2 hd hlt hk
              subst hk'
              go_wp2
              go_ret
              exact ⟨HQ.out, rfl⟩
        · have e3 : ((s[0].toNat : Int) == 48) = false := by rw [beq_eq_false_iff_ne]; omega
          clear ht hlen h0 hhd hz hok h1 hq
          go_enter Tryd.func61, Tryd.ntmps61
          go_wp2
          go_loop [4] (fun i => ∃ k : Nat, k ≤ s.size ∧ i = .int .i64 k ∧ Hid (∀ c ∈ s.data.toList.take k, isD c)) (fun i => s.size - (intOf i).toNat)
          case atStart => exact ⟨0, Nat.zero_le _, rfl, by intro c hc; simp at hc⟩
          case round =>
            obtain ⟨k, hk, rfl, hd⟩ := hrel
            by_cases hlt : k < s.size
            · have hmem : s[k] ∈ s.data.toList := by simp [ByteArray.getElem_eq_getElem_data]
              by_cases ha : s[k].toNat < 48
              · have hn : false = true ↔ Canon s.data.toList := by
                  simp only [Bool.false_eq_true, false_iff]; rintro ⟨_, _, h, _⟩
                  have := h _ (by rw [← HT.out]; exact hmem)
                  unfold isD at this; omega
                have HR := Lib.hid (right_ret _ _ hn)
                clear hmem hn
                go_wp2
                go_ret
                exact ⟨HR.out, rfl⟩
              · by_cases hb : 57 < s[k].toNat
                · have hn : false = true ↔ Canon s.data.toList := by
                    simp only [Bool.false_eq_true, false_iff]; rintro ⟨_, _, h, _⟩
                    have := h _ (by rw [← HT.out]; exact hmem)
                    unfold isD at this; omega
                  have HR := Lib.hid (right_ret _ _ hn)
                  have ha' : 48 ≤ s[k].toNat := by omega
                  clear hmem hn ha
                  go_wp2
                  go_ret
                  exact ⟨HR.out, rfl⟩
                · have ha' : 48 ≤ s[k].toNat := by omega
                  have hb' : s[k].toNat ≤ 57 := by omega
                  have hd' : Hid (∀ c ∈ s.data.toList.take (k + 1), isD c) := by
                    intro c hc
                    rw [take_snoc s k hlt] at hc
                    simp only [List.mem_append, List.mem_singleton] at hc
                    rcases hc with hc | rfl
                    · exact hd c hc
                    · exact ⟨ha', hb'⟩
                  clear hmem ha hb hd
                  go_wp2
                  go_round
                  case rel => exact ⟨k + 1, by omega, by go_num, hd'⟩
                  case measure => simp [intOf]; omega
            · have hk' : k = s.size := by omega
              have q2 : true = true ↔ Canon s.data.toList := by
                simp only [true_iff]
                refine ⟨by rw [HL.out]; exact h0', by rw [HL.out]; exact h1', fun c hc => ?_, HOK.out⟩
                rw [← HT.out] at hc
                exact hd c (by rw [List.take_of_length_le (by rw [← Lib.size_eq]; omega)]; exact hc)
              have HQ := Lib.hid (right_ret _ _ q2)
              clear q2 hd hlt hk
              subst hk'
              go_wp2
              go_ret
              exact ⟨HQ.out, rfl⟩

theorem refRight_nil (w : World) : Calls Tryd.prog 61 #[.string ⟨#[]⟩] w fun e w' => e = .returned (.bool false) ∧ w = w' := by
  go_enter Tryd.func61, Tryd.ntmps61
  go_wp2
  go_ret
  exact ⟨rfl, rfl⟩
theorem refRight_any (s : ByteArray) (w : World) (hs : s.size ≤ 9000) : Calls Tryd.prog 61 #[.string s] w fun e w' => e = .returned (.bool (decide (Canon s.data.toList))) ∧ w = w' := by
  cases hd : s.data.toList with
  | nil =>
    obtain rfl : s = ⟨#[]⟩ := by rw [← Lib.mk_data s, hd]
    exact refRight_nil w
  | cons a m =>
    have h0 : 0 < s.size := by rw [Lib.size_eq, hd]; simp
    have ha : s[0] = a := by
      have : s[0] = s.data.toList[0]'(by rw [hd]; simp) := rfl
      rw [this]; simp only [hd]; rfl
    rw [← hd]
    by_cases h : a = 45
    · have hl : low s.data.toList = true := by rw [hd, h]; simp [low]
      refine refRight_low s (s.extract 1 s.size) ?_ rfl h0 (by rw [ha, h]; rfl) w hs
      rw [strip_low _ hl, Lib.extract_data, List.take_of_length_le (by rw [List.length_drop, ← Lib.size_eq]; exact Nat.le_refl _)]
      simp
    · have hl : low s.data.toList = false := by rw [hd]; simp [low, h]
      refine refRight_high s (strip_high _ hl).symm h0 ?_ w hs
      rw [ha, beq_eq_false_iff_ne]
      intro e
      apply h
      apply UInt8.toNat_inj.1
      have h45 : (45 : UInt8).toNat = 45 := rfl
      omega
end Go.Proofs.YtahdiknkcgnieaaDoor
