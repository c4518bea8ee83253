/- The contract of big.Right: of any text. -/
import Derived.Test.YtcalbcllmmoldaaBT
namespace Go.Proofs.Ytcalbcllmmoldaa
open Go.RowKit Go.BigM
set_option linter.unusedVariables false

theorem trimPre_t (s t : ByteArray) (ht : t.data.toList = strip s.data.toList) (w : World) (hs : s.size ≤ 5000) :
    Calls Try.prog 66 #[.string s, .string ⟨#[45]⟩] w fun e w' => e = .returned (.string t) ∧ w = w' := by
  have h : (⟨(strip s.data.toList).toArray⟩ : ByteArray) = t := by rw [← ht, Lib.mk_data]
  rw [← h]; exact trimPre_any s w hs

theorem right_ret (l : List UInt8) (b : Bool) (h : b = true ↔ Canon l) : Ending.returned (.bool b) = .returned (.bool (decide (Canon l))) := by
  congr 2; rw [Bool.eq_iff_iff]; simpa using h

set_option maxRecDepth 100000 in
theorem right_any (s : ByteArray) (w : World) (hs : s.size ≤ 5000) :
    Calls Try.prog 51 #[.string s] w fun e w' => e = .returned (.bool (decide (Canon s.data.toList))) ∧ w = w' := by
  obtain ⟨t, ht⟩ : ∃ t : ByteArray, t.data.toList = strip s.data.toList := ⟨⟨(strip s.data.toList).toArray⟩, rfl⟩
  have hts : t.size ≤ 5000 := by have := strip_le s.data.toList; rw [Lib.size_eq, ht]; rw [Lib.size_eq] at hs; omega
  have hlen : (strip s.data.toList).length = t.size := by rw [Lib.size_eq, ht]
  by_cases h0 : t.size = 0
  · have hn : false = true ↔ Canon s.data.toList := by simp [Canon, hlen, h0]
    rw [← right_ret _ _ hn]
    have HT := Lib.hid ht
    clear ht hlen hn
    go_enter Try.func51, Try.ntmps51
    go_wp2_with (go_at_call 66; refine (trimPre_t s t HT.out _ hs).mono ?_; rintro e w' ⟨rfl, rfl⟩)
    go_ret
    exact ⟨rfl, rfl⟩
  · have h0' : 1 ≤ t.size := by omega
    by_cases h1 : 200 < t.size
    · have hn : false = true ↔ Canon s.data.toList := by simp [Canon, hlen]; intros; omega
      rw [← right_ret _ _ hn]
      have HT := Lib.hid ht
      have e1 : ((t.size : Int) == 0) = false := beq_eq_false_iff_ne.2 (by omega)
      have e2 : decide (200 < (t.size : Int)) = true := by simp; omega
      clear ht hlen hn h0
      go_enter Try.func51, Try.ntmps51
      go_wp2_with (go_at_call 66; refine (trimPre_t s t HT.out _ hs).mono ?_; rintro e w' ⟨rfl, rfl⟩)
      go_ret
      exact ⟨rfl, rfl⟩
    · have h1' : t.size ≤ 200 := by omega
      have HT := Lib.hid ht
      have HL := Lib.hid hlen
      have e1 : ((t.size : Int) == 0) = false := beq_eq_false_iff_ne.2 (by omega)
      have e2 : decide (200 < (t.size : Int)) = false := by simp; omega
      clear ht hlen h0 h1
      go_enter Try.func51, Try.ntmps51
      go_wp2_with (go_at_call 66; refine (trimPre_t s t HT.out _ hs).mono ?_; rintro e w' ⟨rfl, rfl⟩)
      go_loop [17] (fun i => ∃ k : Nat, k ≤ t.size ∧ i = .int .i64 k ∧ Hid (∀ c ∈ t.data.toList.take k, isD c)) (fun i => t.size - (intOf i).toNat)
      case atStart => exact ⟨0, Nat.zero_le _, rfl, by intro c hc; simp at hc⟩
      case round =>
        obtain ⟨k, hk, rfl, hd⟩ := hrel
        by_cases hlt : k < t.size
        · have hmem : t[k] ∈ t.data.toList := by simp [ByteArray.getElem_eq_getElem_data]
          by_cases ha : t[k].toNat < 48
          · have hn : false = true ↔ Canon s.data.toList := by
              simp only [Bool.false_eq_true, false_iff]; rintro ⟨_, _, h, _⟩
              have := h _ (by rw [← HT.out]; exact hmem)
              unfold isD at this; omega
            have HR := Lib.hid (right_ret _ _ hn)
            clear hmem hn
            go_wp2
            go_ret
            exact ⟨HR.out, rfl⟩
          · by_cases hb : 57 < t[k].toNat
            · have hn : false = true ↔ Canon s.data.toList := by
                simp only [Bool.false_eq_true, false_iff]; rintro ⟨_, _, h, _⟩
                have := h _ (by rw [← HT.out]; exact hmem)
                unfold isD at this; omega
              have HR := Lib.hid (right_ret _ _ hn)
              have ha' : 48 ≤ t[k].toNat := by omega
              clear hmem hn ha
              go_wp2
              go_ret
              exact ⟨HR.out, rfl⟩
            · have ha' : 48 ≤ t[k].toNat := by omega
              have hb' : t[k].toNat ≤ 57 := by omega
              have hd' : Hid (∀ c ∈ t.data.toList.take (k + 1), isD c) := by
                intro c hc
                rw [take_snoc t k hlt] at hc
                simp only [List.mem_append, List.mem_singleton] at hc
                rcases hc with hc | rfl
                · exact hd c hc
                · exact ⟨ha', hb'⟩
              clear hmem ha hb hd
              go_wp2
              go_round
              case rel => exact ⟨k + 1, by omega, by go_num, hd'⟩
              case measure => simp [intOf]; omega
        · have hk' : k = t.size := by omega
          have hall : ∀ c ∈ strip s.data.toList, isD c := by
            intro c hc; rw [← HT.out] at hc
            exact hd c (by rw [List.take_of_length_le (by rw [← Lib.size_eq]; omega)]; exact hc)
          have hhd : (strip s.data.toList).head? = some t[0] := by
            rw [← HT.out, List.head?_eq_getElem?, List.getElem?_eq_getElem (by rw [← Lib.size_eq]; omega)]; rfl
          by_cases hz : t[0].toNat = 48
          · have hz' : t[0] = 48 := UInt8.toNat_inj.1 (by rw [hz]; rfl)
            have q1 : ((t[0].toNat : Int) != 48) = false := by simp [hz]
            have q2 : (s.toList == [48]) = decide (Canon s.data.toList) := by
              rw [Lib.toList_data, Bool.eq_iff_iff, beq_iff_eq, decide_eq_true_iff]
              constructor
              · intro h; rw [h]; decide
              · rintro ⟨_, _, _, h | h⟩
                · exact absurd (hhd.trans (by rw [hz'])) h
                · exact h
            have HQ := Lib.hid q2
            clear hhd hall hz hz' q2 hd hlt hk
            subst hk'
            go_wp2
            go_ret
            exact ⟨by rw [← HQ.out]; rfl, rfl⟩
          · have q1 : ((t[0].toNat : Int) != 48) = true := by simp; omega
            have q2 : true = true ↔ Canon s.data.toList := by
              simp only [true_iff]
              refine ⟨by rw [HL.out]; exact h0', by rw [HL.out]; exact h1', hall, Or.inl ?_⟩
              rw [hhd]; intro h; injection h with h; exact hz (by rw [h]; rfl)
            have HQ := Lib.hid (right_ret _ _ q2)
            clear hhd hall hz q2 hd hlt hk
            subst hk'
            go_wp2
            go_ret
            exact ⟨HQ.out, rfl⟩
end Go.Proofs.Ytcalbcllmmoldaa
