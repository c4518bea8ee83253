/- The contract of takeTimes. -/
import Derived.Test.YtebadokchhnmfaaDoorW1
namespace Go.Proofs.YtebadokchhnmfaaDoor
open Go.RowKit Go.BigM
set_option linter.unusedVariables false

/-- Behind k rounds of takeTimes: what is written, what is borrowed. -/
def TakeInv (w : World) (g off n : Nat) (L Rw : List Nat) (q : Nat) (cv iv : Value) (wr : World) : Prop :=
  ∃ (i c : Nat) (R : List Nat), i ≤ n ∧ iv = .int .i64 i ∧ cv = .int .u64 c ∧ R.length = i ∧ Small R ∧ c ≤ 4294967296 ∧
    lval R + q * lval (Rw.take i) = lval ((L.drop off).take i) + B ^ i * c ∧ wr = w.setRow g (U (L.take off ++ R ++ L.drop (off + i)))

theorem TakeInv.next {w : World} {g off n i : Nat} {L Rw : List Nat} {q c : Nat} {R : List Nat} {t : TypeId} {wr : World} (hg : Row w g L t) (hL : off + n ≤ L.length) (hi : i < n) (hRl : R.length = i) (sRR : Small R)
    (hc : c ≤ 4294967296) (hv : lval R + q * lval (Rw.take i) = lval ((L.drop off).take i) + B ^ i * c) (hw : wr = w.setRow g (U (L.take off ++ R ++ L.drop (off + i))))
    (a p d b : Nat) (ha : a = lg L (off + i)) (ha' : a < 1000000000) (hp : p = lg Rw i * q) (hp' : p ≤ 999999999 * 4294967295)
    (hd : d + (c + p) % B = a + B * b) (hb : b ≤ 1) (hd' : d < 1000000000) :
    TakeInv w g off n L Rw q (.int .u64 (((c + p) / B + b : Nat) : Int)) (.int .i64 ((i : Int) + 1)) (wr.setCell ⟨g, off + i, none⟩ (.int .u32 (d : Int))) := by
  refine ⟨i + 1, (c + p) / B + b, R ++ [d], by omega, by go_num, by congr 1, by simp [hRl], sRR.append (Small.cons hd' Small.nil), by unfold B at *; omega, ?_, ?_⟩
  · rw [lval_snoc, hRl, lval_take_lg, lval_take_lg, lg_of_drop, ← ha]
    have := take_step (lval R) (lval ((L.drop off).take i)) q (lval (Rw.take i)) c a (lg Rw i) i d b hv
    rw [← hp] at this
    exact this hd
  · rw [hw, hg.setSet, set_mid _ _ _ _ _ (by rw [List.length_take, hRl]; omega) (by intro h; have := congrArg List.length h; simp at this; omega), tail_drop]
    rfl

theorem setCell_twice {w : World} {g : Nat} {l : List Nat} {t : TypeId} (h : Row w g l t) (j : Nat) (v u : Value) : (w.setCell ⟨g, j, none⟩ v).setCell ⟨g, j, none⟩ u = w.setCell ⟨g, j, none⟩ u := by
  rw [setCell_eq_setRow w g j _ t _ v h, setCell_eq_setRow w g j _ t _ u h, setCell_eq_setRow _ g j _ t _ u (setRow_heap w g _ _ t _ h), setRow_setRow]
  simp
theorem TakeInv.cast {w : World} {g off n : Nat} {L Rw : List Nat} {q : Nat} {cv cv' iv : Value} {wr wr' : World} (h : TakeInv w g off n L Rw q cv iv wr) (e1 : cv' = cv) (e2 : wr' = wr) : TakeInv w g off n L Rw q cv' iv wr' := by subst e1 e2; exact h
theorem int_congr {k : IntKind} {a b : Int} (h : a = b) : Value.int k a = Value.int k b := by rw [h]
theorem set_congr {w : World} {a : Addr} {k : IntKind} {x y : Int} (h : x = y) : w.setCell a (.int k x) = w.setCell a (.int k y) := by rw [h]

theorem takeTimes_any (g off n c1 h o2 m c2 q : Nat) (L Rw : List Nat) (t : TypeId) (w : World) (hn : off + n ≤ L.length) (hL : L.length ≤ 46) (sL : Small L) (sR : Small Rw)
    (hg : Row w g L t) (hgh : h ≠ g) (hm : Rw.length = m) (hmn : m ≤ n) (hq : q ≤ 4294967295)
    (hr : ∀ j, j < m → w.cell? ⟨h, o2 + j, none⟩ = some (.int .u32 (lg Rw j : Nat))) :
    Calls Tryd.prog 57 #[.slice (some ⟨g, off, none⟩) n c1, .slice (some ⟨h, o2, none⟩) m c2, .int .u32 q] w fun e w' => e = .returned (.tuple #[]) ∧
      ∃ cv, TakeInv w g off n L Rw q cv (.int .i64 n) w' := by
  have HR := Lib.hid hr
  have HM := Lib.hid hm
  have HG := Lib.hid hg
  clear hr hm hg
  go_enter Tryd.func57, Tryd.ntmps57
  go_wp2
  go_loopw [6, 11] (fun cv iv wr => TakeInv w g off n L Rw q cv iv wr) (fun _ iv _ => n - (intOf iv).toNat)
  case atStart => exact ⟨0, 0, [], Nat.zero_le _, rfl, rfl, rfl, Small.nil, by omega, by simp [lval], by rw [List.append_nil, Nat.add_zero, List.take_append_drop]; exact HG.out.self.symm⟩
  case round =>
    obtain ⟨i, c, R, hi, rfl, rfl, hRl, sRR, hc, hv, hw⟩ := hrel
    have H1 := Lib.hid hv
    have H2 := Lib.hid hw
    have H3 := Lib.hid sRR
    have H4 := Lib.hid hRl
    clear hv hw sRR hRl
    by_cases hlt : i < n
    · have hrow : Row wr g (L.take off ++ R ++ L.drop (off + i)) t := by rw [H2.out]; exact HG.out.set _
      have hlen : (L.take off ++ R ++ L.drop (off + i)).length = L.length := by
        simp only [List.length_append, List.length_take, List.length_drop, H4.out]; omega
      have hcA := hrow.cell (off + i) (by rw [hlen]; omega)
      have hfA := hrow.free (off + i)
      rw [lg_mid _ _ _ _ (by rw [List.length_take, H4.out]; omega), lg_drop] at hcA
      have ha := lg_lt sL (off + i)
      obtain ⟨a, hae⟩ : ∃ a, a = lg L (off + i) := ⟨_, rfl⟩
      rw [← hae] at hcA ha
      have HA := Lib.hid hae
      have HW := Lib.hid hrow
      have HN := Lib.hid hlen
      clear hae hrow hlen
      by_cases him : i < m
      · have hcR : wr.cell? ⟨h, o2 + i, none⟩ = some (.int .u32 (lg Rw i : Nat)) := by
          rw [H2.out, cell_setRow_other _ _ _ _ (by exact hgh)]; exact HR.out i him
        have hr := lg_lt sR i
        obtain ⟨r, hre⟩ : ∃ r, r = lg Rw i := ⟨_, rfl⟩
        rw [← hre] at hcR hr
        obtain ⟨p, hp⟩ : ∃ p, p = r * q := ⟨_, rfl⟩
        have hp1 : p ≤ 999999999 * 4294967295 := by rw [hp]; exact Nat.mul_le_mul (by omega) hq
        have hp2 : ((r : Nat) : Int) * ((q : Nat) : Int) = ((p : Nat) : Int) := by rw [hp]; exact (Int.natCast_mul r q).symm
        have HP := Lib.hid hp
        have HE := Lib.hid hre
        clear hp hre
        by_cases ht : a < (c + p) % B
        · have q1 : decide ((a : Int) < ((c : Int) + p) % 1000000000) = true := by simp; unfold B at ht; omega
          have hb : (c + p) % 1000000000 ≤ 999999999 := by omega
          have HT := Lib.hid (TakeInv.next HG.out hn hlt H4.out H3.out hc H1.out H2.out a p (a + B - (c + p) % B) 1 HA.out ha (by rw [HP.out, HE.out]) hp1 (by unfold B at *; omega) (by omega) (by unfold B at *; omega))
          unfold B at ht
          go_wp2
          go_roundw
          case rel => exact HT.out.cast (int_congr (by unfold B; omega)) ((setCell_twice HW.out _ _ _).trans (set_congr (by unfold B; omega)))
          case measure => simp [intOf]; omega
        · have q1 : decide ((a : Int) < ((c : Int) + p) % 1000000000) = false := by simp; unfold B at ht; omega
          have hb : (c + p) % 1000000000 ≤ a := by unfold B at ht; omega
          have HT := Lib.hid (TakeInv.next HG.out hn hlt H4.out H3.out hc H1.out H2.out a p (a - (c + p) % B) 0 HA.out ha (by rw [HP.out, HE.out]) hp1 (by unfold B at *; omega) (by omega) (by unfold B at *; omega))
          clear ht
          go_wp2
          go_roundw
          case rel => exact HT.out.cast (int_congr (by unfold B; omega)) (set_congr (by unfold B; omega))
          case measure => simp [intOf]; omega
      · have hz : 0 = lg Rw i * q := by
          have : lg Rw i = 0 := by unfold lg; rw [List.getD_eq_getElem?_getD, List.getElem?_eq_none (by rw [HM.out]; omega)]; rfl
          rw [this]; omega
        have HZ := Lib.hid hz
        clear hz
        by_cases ht : a < c % B
        · have q1 : decide ((a : Int) < (c : Int) % 1000000000) = true := by simp; unfold B at ht; omega
          have hb : c % 1000000000 ≤ 999999999 := by omega
          have HT := Lib.hid (TakeInv.next HG.out hn hlt H4.out H3.out hc H1.out H2.out a 0 (a + B - (c + 0) % B) 1 HA.out ha HZ.out (by omega) (by unfold B at *; omega) (by omega) (by unfold B at *; omega))
          unfold B at ht
          go_wp2
          go_roundw
          case rel => exact HT.out.cast (int_congr (by unfold B; omega)) ((setCell_twice HW.out _ _ _).trans (set_congr (by unfold B; omega)))
          case measure => simp [intOf]; omega
        · have q1 : decide ((a : Int) < (c : Int) % 1000000000) = false := by simp; unfold B at ht; omega
          have hb : c % 1000000000 ≤ a := by unfold B at ht; omega
          have HT := Lib.hid (TakeInv.next HG.out hn hlt H4.out H3.out hc H1.out H2.out a 0 (a - (c + 0) % B) 0 HA.out ha HZ.out (by omega) (by unfold B at *; omega) (by omega) (by unfold B at *; omega))
          clear ht
          go_wp2
          go_roundw
          case rel => exact HT.out.cast (int_congr (by unfold B; omega)) (set_congr (by unfold B; omega))
          case measure => simp [intOf]; omega
    · obtain rfl : i = n := by omega
      have HF := Lib.hid (show TakeInv w g off i L Rw q (.int .u64 c) (.int .i64 i) wr from ⟨i, c, R, hi, rfl, rfl, H4.out, H3.out, hc, H1.out, H2.out⟩)
      clear hlt
      go_wp2
      refine bodyPost_end (results_none rfl _ _ _) rfl ?_
      exact ⟨rfl, _, HF.out⟩

/-- Of a whole difference: what the row holds behind it. -/
theorem TakeInv.diff {w w' : World} {g k : Nat} {L M : List Nat} {cv : Value} (h : TakeInv w g 0 k L (M.take k) 1 cv (.int .i64 (k : Int)) w') (hL : L.length = 46) (hk : k ≤ 46)
    (sL : Small L) (hu : usedOf L ≤ k) (hle : lval M ≤ lval L) (sM : Small M) :
    ∃ S, w' = w.setRow g (U S) ∧ S.length = 46 ∧ Small S ∧ lval S + lval M = lval L := by
  obtain ⟨i, c, R, hi, e1, e2, hR, sR, hc, hval, hw⟩ := h
  obtain rfl : i = k := by injection e1 with _ e1; omega
  have hv : usedOf M ≤ i := Nat.le_trans (used_mono M L sL hle) hu
  rw [List.drop_zero, List.take_take, Nat.min_self, lval_take_used L _ hu, lval_take_used M _ hv, Nat.one_mul] at hval
  have b0 := lval_lt R sR
  rw [hR] at b0
  have hc0 : c = 0 := by
    by_cases hc0 : c = 0
    · exact hc0
    · have : B ^ i * 1 ≤ B ^ i * c := Nat.mul_le_mul_left _ (by omega)
      omega
  subst hc0
  refine ⟨_, hw, ?_, ?_, ?_⟩
  · simp [hR, hL]; omega
  · simp only [List.take_zero, List.nil_append, Nat.zero_add]; exact sR.append (sL.drop _)
  · simp only [List.take_zero, List.nil_append, Nat.zero_add]
    rw [lval_append, lval_drop_used L _ hu]; omega
end Go.Proofs.YtebadokchhnmfaaDoor
