/- The walk of ReadEnds. -/
import Derived.Test.YtkjcbaikebdmmaaDoorRE
namespace Go.Proofs.YtkjcbaikebdmmaaDoor
open Go.RowKit Go.BigM
set_option linter.unusedVariables false
set_option linter.unusedSimpArgs false
set_option maxHeartbeats 4000000 in
set_option maxRecDepth 100000 in
theorem ends_walk (l : List Rw) (ao : Option Addr) (ac : Nat) (a : Int) (w : World) (hR : RsAt w ao l) (ha : I64 a) : Calls Tryd.prog 12 #[.slice ao l.length ac, .int .i64 a] w (RetBool true w) := by
  have BB := Lib.hid (Below.refl w.heap.size w)
  have HR := Lib.hid hR
  have HA := Lib.hid ha
  clear ha hR
  go_enter Tryd.func12, Tryd.ntmps12
  go_wp2_with (go_at_call 13; refine (known_any _).mono ?_; rintro e w1 ⟨rfl, hb⟩; replace BB := Lib.hid (BB.out.trans (hb.mono BB.out.size)); clear hb)
  refine (few_any l ao ac _ (HR.out.below BB.out)).mono ?_
  rintro e w2 ⟨r, rfl, hr, rfl⟩
  cases r with
  | false =>
    go_wp2_with fail
    go_ret
    exact ⟨rfl, BB.out⟩
  | true =>
    obtain ⟨hc, hdp⟩ := hr rfl
    have hll := length_cnts l
    have FA := Lib.hid (all_any l (by omega) ao ac w1 (HR.out.below BB.out))
    go_wp2_with fail
    refine FA.out.mono ?_
    rintro e w4 ⟨v4, rfl, hown, hb4⟩
    have hat := hown.at
    obtain ⟨o4, c4, rfl⟩ := hat.form
    have hsz := makes_size l
    have htx := makes_txte l
    have FT := Lib.hid (text_any (Rw.makes l) (by omega) (by omega) _ o4 c4 w4 hat)
    replace BB := Lib.hid (BB.out.trans (hb4.mono BB.out.size))
    obtain ⟨Y, hY⟩ : ∃ Y : ByteArray, Y = ⟨(Dt.txte (Rw.makes l)).toArray⟩ := ⟨_, rfl⟩
    have hYl : Y.size = (Dt.txte (Rw.makes l)).length := by rw [hY, Lib.size_eq]
    have hYs : Y.size ≤ 2460 := by omega
    rw [← hY] at FT
    have HY := Lib.hid hY
    have HDP := Lib.hid (show Dt.deps (Rw.makes l) ≤ 21 from Nat.le_trans (makes_dep l) hdp)
    clear hY hat hown hb4 hsz htx FA hdp
    go_wp2_with fail
    refine FT.out.mono ?_
    rintro e w5 ⟨rfl, hb5⟩
    replace BB := Lib.hid (BB.out.trans (hb5.mono BB.out.size))
    clear hb5 FT
    obtain ⟨Z, hZ⟩ : ∃ Z : ByteArray, ⟨#[40]⟩ ++ Y ++ ⟨#[41]⟩ = Z := ⟨_, rfl⟩
    have hZl : Z.data.toList = 40 :: (Dt.txte (Rw.makes l) ++ [41]) := by
      rw [← hZ]
      simp [ByteArray.data_append, HY.out]
    have hZs : Z.size = (Dt.txte (Rw.makes l)).length + 2 := by rw [Lib.size_eq, hZl]; simp
    obtain ⟨m, hm⟩ : ∃ m, m = (Dt.txte (Rw.makes l)).length + 1 := ⟨_, rfl⟩
    have hm1 : 1 ≤ m := by omega
    have hm2 : m ≤ 2461 := by omega
    have hzm : Z.size = m + 1 := by omega
    have hzi : ((Z.size : Int) - 1) = (m : Int) := by omega
    have FW := Lib.hid (fun w => (within_any a (m : Int) w HA.out.1 HA.out.2 (by omega) (by omega)))
    obtain ⟨q, hq⟩ : ∃ q : Nat, a % (m : Int) = q := ⟨(a % (m : Int)).toNat, by have := Int.emod_nonneg a (show (m : Int) ≠ 0 by omega); omega⟩
    have hqm : q < m := by have := Int.emod_lt_of_pos a (show (0 : Int) < (m : Int) by omega); omega
    rw [hq] at FW
    obtain ⟨k, hk⟩ : ∃ k, k = 1 + q := ⟨_, rfl⟩
    have hkq : ((1 : Int) + (q : Int)) = (k : Int) := by omega
    have hk1 : 1 ≤ k := by omega
    have hk2 : k ≤ m := by omega
    have hkz : k ≤ Z.size := by omega
    have hkc : (k : Int) - 1 = ((k - 1 : Nat) : Int) := by omega
    have HZL := Lib.hid hZl
    have HM := Lib.hid hm
    clear hq hk hZl hm hZs hYl HY
    go_wp2_with fail
    refine (FW.out _).mono ?_
    rintro e w6 ⟨rfl, rfl⟩
    obtain ⟨U, hU⟩ : ∃ U, Z.extract 0 k = U := ⟨_, rfl⟩
    have hUl : U.data.toList = (40 :: (Dt.txte (Rw.makes l) ++ [41])).take k := by
      rw [← hU, Lib.extract_data, HZL.out]; simp
    have hUs : U.size ≤ 8000 := by
      have h1 : U.data.toList.length ≤ k := by rw [hUl, List.length_take]; omega
      rw [Lib.size_eq]; omega
    have hm' := HM.out
    rcases rd_cut (Rw.makes l) (makes_cut l) (by have := HDP.out; omega) k hk1 (by omega) U.data.toList hUl with ⟨n, hn⟩ | ⟨⟨n, hn⟩, h35⟩
    · have FR := Lib.hid (read_any U w5 hUs n _ hn)
      clear hn hUl hUs hm'
      go_wp2_with fail
      refine FR.out.mono ?_
      rintro e w7 ⟨hb7, rfl⟩
      replace BB := Lib.hid (BB.out.trans (hb7.mono BB.out.size))
      clear hb7
      go_wp2_with fail
      go_ret
      exact ⟨rfl, BB.out⟩
    · have FR := Lib.hid (read_any U w5 hUs n _ hn)
      have h35' : Z.data.toList[k - 1]? = some 35 := by
        rw [hUl, List.getElem?_take, if_pos (by omega)] at h35
        rw [HZL.out]; exact h35
      obtain ⟨i, hi⟩ : ∃ i, i = k - 1 := ⟨_, rfl⟩
      rw [← hi] at h35' hkc FR
      have hiz : i < Z.size := by omega
      have hbi : Z[i] = 35 := by
        have := byte_at Z i hiz
        rw [h35'] at this
        injection this with this
        exact this.symm
      have hik : i + 1 = k := by omega
      clear hn hUl hUs hm' h35 h35' hi
      go_wp2_with fail
      refine FR.out.mono ?_
      rintro e w7 ⟨hb7, rfl⟩
      replace BB := Lib.hid (BB.out.trans (hb7.mono BB.out.size))
      clear hb7
      go_wp2_with fail
      go_ret
      exact ⟨rfl, BB.out⟩
end Go.Proofs.YtkjcbaikebdmmaaDoor
