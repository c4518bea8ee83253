/- The contract of takeOften: how often one row of limbs goes into a part of another one, and what it leaves of that. -/
import Derived.Test.YtebadokchhnmfaaDoorJ1
import Derived.Test.YtebadokchhnmfaaDoorW2
namespace Go.Proofs.YtebadokchhnmfaaDoor
open Go.RowKit Go.BigM
set_option linter.unusedVariables false
set_option linter.unusedSimpArgs false

/-- A row whose part from off on, n + 1 limbs, is another. -/
def mid (L : List Nat) (off n : Nat) (R : List Nat) : List Nat := L.take off ++ R ++ L.drop (off + (n + 1))
theorem mid_length {L R : List Nat} {off n : Nat} (hn : off + (n + 1) ≤ L.length) (hR : R.length = n + 1) : (mid L off n R).length = L.length := by
  unfold mid; simp; omega
theorem mid_small {L R : List Nat} {off n : Nat} (sL : Small L) (sR : Small R) : Small (mid L off n R) := ((sL.take _).append sR).append (sL.drop _)
theorem mid_mid {L R S : List Nat} {off n : Nat} (hn : off + (n + 1) ≤ L.length) (hR : R.length = n + 1) : mid (mid L off n R) off n S = mid L off n S := by
  unfold mid
  have e1 := mid_take L R off (off + (n + 1)) (by omega)
  have e2 := mid_drop L R off (off + (n + 1)) (by omega)
  rw [hR] at e2
  rw [e1, e2]
theorem mid_at {L R : List Nat} {off n : Nat} (hn : off + (n + 1) ≤ L.length) (hR : R.length = n + 1) : ((mid L off n R).drop off).take (n + 1) = R := by
  have := mid_part L R off (off + (n + 1)) (by omega)
  rw [hR] at this; exact this
theorem mid_self {L : List Nat} {off n : Nat} : mid L off n ((L.drop off).take (n + 1)) = L := by
  unfold mid
  rw [List.append_assoc, ← List.drop_drop, List.take_append_drop, List.take_append_drop]
theorem mid_lg {L R : List Nat} {off n : Nat} (hn : off + (n + 1) ≤ L.length) (hR : R.length = n + 1) (j : Nat) (hj : j < n + 1) : lg (mid L off n R) (off + j) = lg R j := by
  rw [← lg_of_drop, ← lg_of_take _ (n + 1) j hj, mid_at hn hR]

theorem part_core (R Q A T c : Nat) (h : R + Q = A + T * c) (b : R < T) (hle : Q ≤ A) : R + Q = A := by
  by_cases hc0 : c = 0
  · subst hc0; omega
  · have : T * 1 ≤ T * c := Nat.mul_le_mul_left _ (by omega)
    omega
/-- What takeTimes leaves of a part, where that is enough. -/
theorem TakeInv.part {w w' : World} {g off n q : Nat} {L V : List Nat} {cv : Value} (h : TakeInv w g off (n + 1) L V q cv (.int .i64 ((n + 1 : Nat) : Int)) w') (hn : off + (n + 1) ≤ L.length) (hV : V.length ≤ n + 1)
    (sL : Small L) (hle : q * lval V ≤ lval ((L.drop off).take (n + 1))) :
    ∃ R, w' = w.setRow g (U (mid L off n R)) ∧ R.length = n + 1 ∧ Small R ∧ lval R + q * lval V = lval ((L.drop off).take (n + 1)) := by
  obtain ⟨i, c, R, hi, e1, e2, hR, sR, hc, hval, hw⟩ := h
  obtain rfl : i = n + 1 := by injection e1 with _ e1; omega
  rw [List.take_of_length_le hV] at hval
  have b0 := lval_lt R sR
  rw [hR] at b0
  exact ⟨R, hw, hR, sR, part_core _ _ _ _ _ hval b0 hle⟩

theorem setRow_drewN (w : World) (a g : Nat) (cs : Array Value) : (w.drewN a).setRow g cs = (w.setRow g cs).drewN a := rfl
/-- How often V goes into the part, and the row behind it. -/
def RetO (w : World) (g off n : Nat) (L V : List Nat) (D : Nat) (e : Ending) (w' : World) : Prop :=
  ∃ R m, e = .returned (.int .u32 ((D / lval V : Nat) : Int)) ∧ R.length = n + 1 ∧ Small R ∧ lval R = D % lval V ∧ w' = (w.setRow g (U (mid L off n R))).drewN m
/-- Behind some rounds: so often, and what is left. -/
def OInv (w : World) (g off n : Nat) (L V : List Nat) (D : Nat) (ov : Value) (wr : World) : Prop :=
  ∃ o R m, ov = .int .u32 ((o : Nat) : Int) ∧ o * lval V + lval R = D ∧ R.length = n + 1 ∧ Small R ∧ wr = (w.setRow g (U (mid L off n R))).drewN m

set_option maxHeartbeats 2000000 in
set_option maxRecDepth 100000 in
theorem takeOften_any (g off n h c2 : Nat) (L V : List Nat) (t : TypeId) (w : World) (h1 : 1 ≤ n) (hn : off + (n + 1) ≤ 46) (hn42 : n ≤ 42) (hL : L.length = 46) (sL : Small L) (sV : Small V) (hV : V.length = n) (h0 : 0 < lg V (n - 1))
    (hg : Row w g L t) (hgh : h ≠ g) (D : Nat) (hD : D = lval ((L.drop off).take (n + 1))) (hlt : D < B * lval V)
    (hv : ∀ j, j < n → w.cell? ⟨h, j, none⟩ = some (.int .u32 (lg V j : Nat))) :
    Calls Tryd.prog 53 #[.slice (some ⟨g, off, none⟩) (n + 1) (n + 1), .slice (some ⟨h, 0, none⟩) n c2] w (RetO w g off n L V D) := by
  have hVp : 0 < lval V := by
    rcases Nat.eq_zero_or_pos (lval V) with e | e
    · rw [e] at hlt; simp at hlt
    · exact e
  have HV := Lib.hid hv
  have HG := Lib.hid hg
  have KL := Lib.hid hL
  have KV := Lib.hid hV
  have HD := Lib.hid hD
  have HT := Lib.hid hlt
  have HP := Lib.hid hVp
  clear hv hg hL hV hD hlt hVp
  go_enter Tryd.func53, Tryd.ntmps53
  go_wp2_with fail
  go_loopw [6] (fun ov wr => OInv w g off n L V D ov wr) (fun ov _ => D - (intOf ov).toNat)
  case atStart => exact ⟨0, (L.drop off).take (n + 1), 0, rfl, by rw [HD.out]; omega, by rw [List.length_take, List.length_drop, KL.out]; omega, (sL.drop _).take _, by rw [mid_self]; exact HG.out.self.symm⟩
  case round =>
    obtain ⟨o, R, m, rfl, hv, hR, sR, hw⟩ := hrel
    have hmid : (mid L off n R).length = 46 := by rw [mid_length (by rw [KL.out]; exact hn) hR, KL.out]
    have hrow : Row wr g (mid L off n R) t := by rw [hw]; exact (HG.out.set _).drewN m
    have hV2 : ∀ j, j < n → wr.cell? ⟨h, j, none⟩ = some (.int .u32 (lg V j : Nat)) := by
      intro j hj
      rw [hw]
      show (w.setRow g (U (mid L off n R))).cell? _ = _
      rw [cell_setRow_other _ _ _ _ (by exact hgh)]; exact HV.out j hj
    have hcells : ∀ j, j < n + 1 → wr.cell? ⟨g, off + j, none⟩ = some (.int .u32 (lg R j : Nat)) := by
      intro j hj
      rw [hrow.cell (off + j) (by rw [hmid]; omega), mid_lg (by rw [KL.out]; exact hn) hR j hj]
    have top := hcells n (by omega)
    have tb := lg_lt sR n
    have W1 := Lib.hid hw
    have W2 := Lib.hid hv
    have W3 := Lib.hid hR
    have W4 := Lib.hid hmid
    have W5 := Lib.hid hrow
    have W6 := Lib.hid hV2
    have W7 := Lib.hid hcells
    clear hw hv hR hmid hrow hV2 hcells
    by_cases hle : lval V ≤ lval R
    · have hk : ∀ m', Calls Tryd.prog 62 #[.slice (some ⟨g, off, none⟩) (n + 1) (n + 1), .slice (some ⟨h, 0, none⟩) n c2] (wr.drewN m') (RetK R V (wr.drewN m')) := fun m' =>
        atLeast_any n g off (n + 1) h c2 R V h1 (by omega) W3.out KV.out sR sV h0 (Nat.lt_of_le_of_lt (by have := W2.out; omega) HT.out) (wr.drewN m') (fun j hj => W7.out j hj) (fun j hj => W6.out j hj)
      have HK := Lib.hid hk
      have HLE := Lib.hid hle
      clear hk hle
      by_cases t0 : lg R n = 0
      · have hlow := low_part R n W3.out t0
        rw [t0] at top
        have hless := less_any g off (n + 1) h 0 c2 n (R.take n) V (by omega) (by rw [List.length_take, W3.out]; omega) KV.out (sR.take _) sV wr
          (fun j hj => by rw [lg_of_take _ _ _ hj]; exact W7.out j (by omega)) (fun j hj => by rw [Nat.zero_add]; exact W6.out j hj)
        have hdec : decide (lval (R.take n) < lval V) = false := decide_eq_false (by rw [hlow]; have := HLE.out; omega)
        rw [hdec] at hless
        have HL := Lib.hid hless
        clear t0 hlow hless hdec tb
        go_wp2_with fail
        refine HL.out.mono ?_
        rintro e w' ⟨rfl, m1, rfl⟩
        go_wp2_with fail
        refine (HK.out m1).mono ?_
        rintro e w' ⟨k, rfl, k1, k2, m2, rfl⟩
        have hk3 : 0 ≤ (k : Int) := by omega
        have hk4 : (k : Int) < 4294967296 := by omega
        have KK := Lib.hid k1
        clear k1
        go_wp2_with fail
        obtain ⟨K, hK⟩ : ∃ K : Nat, K = max 1 k := ⟨_, rfl⟩
        have hKI : max (1 : Int) (k : Int) = (K : Int) := by rw [hK]; omega
        have hK1 : 1 ≤ K := by omega
        have hK3 : K * lval V ≤ lval R := by rw [hK]; exact once k _ _ KK.out HLE.out
        rw [hKI]
        have hK4 : o + K < 1000000000 := often_lt o K _ _ _ _ W2.out HT.out hK3
        have K3 := Lib.hid hK3
        clear hK hKI hK3 KK hk3 hk4
        refine (takeTimes_any g off (n + 1) (n + 1) h 0 n c2 K (mid L off n R) V t _ (by rw [W4.out]; omega) (by rw [W4.out]; omega) (mid_small sL sR) sV (W5.out.drewN _) hgh KV.out (by omega) (by omega) (fun j hj => by rw [Nat.zero_add]; exact W6.out j hj)).mono ?_
        rintro e w' ⟨rfl, cv, hT⟩
        obtain ⟨S, hw', hS, sS, vS⟩ := hT.part (by rw [W4.out]; omega) (by rw [KV.out]; omega) (mid_small sL sR) (by rw [mid_at (by rw [KL.out]; exact hn) W3.out]; exact K3.out)
        rw [mid_at (by rw [KL.out]; exact hn) W3.out] at vS
        rw [mid_mid (by rw [KL.out]; exact hn) W3.out, W1.out, World.drewN_drewN, setRow_drewN, setRow_setRow] at hw'
        have hN := Lib.hid (show OInv w g off n L V D (.int .u32 ((o : Int) + (K : Int))) w' from ⟨o + K, S, _, by go_num, often_next _ _ _ _ _ _ W2.out vS, hS, sS, hw'⟩)
        have hmeas : D - (o + K) < D - o := by
          have h2 := W2.out
          have h3 := often_next _ _ _ _ _ _ h2 vS
          have h4 : (o + K) * 1 ≤ (o + K) * lval V := Nat.mul_le_mul_left _ HP.out
          omega
        clear hT hw' vS hS sS
        go_wp2
        go_roundw
        case rel => exact hN.out
        case measure => simp [intOf]; omega
      · have t1 : (0 : Int) < ((lg R n : Nat) : Int) := by omega
        have hk0 := HK.out 0
        clear t0
        go_wp2_with fail
        refine (hk0).mono ?_
        rintro e w' ⟨k, rfl, k1, k2, m2, rfl⟩
        have hk3 : 0 ≤ (k : Int) := by omega
        have hk4 : (k : Int) < 4294967296 := by omega
        have KK := Lib.hid k1
        clear k1
        go_wp2_with fail
        obtain ⟨K, hK⟩ : ∃ K : Nat, K = max 1 k := ⟨_, rfl⟩
        have hKI : max (1 : Int) (k : Int) = (K : Int) := by rw [hK]; omega
        have hK1 : 1 ≤ K := by omega
        have hK3 : K * lval V ≤ lval R := by rw [hK]; exact once k _ _ KK.out HLE.out
        rw [hKI]
        have hK4 : o + K < 1000000000 := often_lt o K _ _ _ _ W2.out HT.out hK3
        have K3 := Lib.hid hK3
        clear hK hKI hK3 KK hk3 hk4
        refine (takeTimes_any g off (n + 1) (n + 1) h 0 n c2 K (mid L off n R) V t _ (by rw [W4.out]; omega) (by rw [W4.out]; omega) (mid_small sL sR) sV (W5.out.drewN _) hgh KV.out (by omega) (by omega) (fun j hj => by rw [Nat.zero_add]; exact W6.out j hj)).mono ?_
        rintro e w' ⟨rfl, cv, hT⟩
        obtain ⟨S, hw', hS, sS, vS⟩ := hT.part (by rw [W4.out]; omega) (by rw [KV.out]; omega) (mid_small sL sR) (by rw [mid_at (by rw [KL.out]; exact hn) W3.out]; exact K3.out)
        rw [mid_at (by rw [KL.out]; exact hn) W3.out] at vS
        rw [mid_mid (by rw [KL.out]; exact hn) W3.out, W1.out, World.drewN_drewN, setRow_drewN, setRow_setRow] at hw'
        have hN := Lib.hid (show OInv w g off n L V D (.int .u32 ((o : Int) + (K : Int))) w' from ⟨o + K, S, _, by go_num, often_next _ _ _ _ _ _ W2.out vS, hS, sS, hw'⟩)
        have hmeas : D - (o + K) < D - o := by
          have h2 := W2.out
          have h3 := often_next _ _ _ _ _ _ h2 vS
          have h4 : (o + K) * 1 ≤ (o + K) * lval V := Nat.mul_le_mul_left _ HP.out
          omega
        clear hT hw' vS hS sS
        go_wp2
        go_roundw
        case rel => exact hN.out
        case measure => simp [intOf]; omega
    · have t0 : lg R n = 0 := by
        by_cases t0 : lg R n = 0
        · exact t0
        · exact absurd (high_part R V n W3.out KV.out sV t0) hle
      have hlow := low_part R n W3.out t0
      rw [t0] at top
      have hless := less_any g off (n + 1) h 0 c2 n (R.take n) V (by omega) (by rw [List.length_take, W3.out]; omega) KV.out (sR.take _) sV wr
        (fun j hj => by rw [lg_of_take _ _ _ hj]; exact W7.out j (by omega)) (fun j hj => by rw [Nat.zero_add]; exact W6.out j hj)
      have hdec : decide (lval (R.take n) < lval V) = true := decide_eq_true (by rw [hlow]; omega)
      rw [hdec] at hless
      have HL := Lib.hid hless
      have HE := Lib.hid (often_end o _ _ _ W2.out (Nat.lt_of_not_le hle))
      clear t0 hlow hless hdec hle tb
      go_wp2_with fail
      refine HL.out.mono ?_
      rintro e w' ⟨rfl, m1, rfl⟩
      go_wp2
      go_ret
      exact ⟨R, m + m1, by rw [← HE.out.1]; rfl, W3.out, sR, HE.out.2, by rw [W1.out, World.drewN_drewN]⟩
end Go.Proofs.YtebadokchhnmfaaDoor
