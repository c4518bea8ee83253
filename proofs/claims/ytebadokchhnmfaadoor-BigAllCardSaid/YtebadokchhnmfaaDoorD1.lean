/- The contract of read. -/
import Derived.Test.YtebadokchhnmfaaDoorN0
import Derived.Test.YtebadokchhnmfaaDoorR1
namespace Go.Proofs.YtebadokchhnmfaaDoor
open Go.RowKit Go.BigM
set_option linter.unusedVariables false

/-- Behind so many limbs that are read. -/
def ReadInv (W : World) (g : Nat) (b : Bool) (t : ByteArray) (dv iv : Value) (wr : World) : Prop :=
  ∃ (m i : Nat) (d : ByteArray) (R : List Nat), d.size = m ∧ dv = .string d ∧ iv = .int .i64 i ∧ d.data.toList = t.data.toList.take m ∧ R.length = i ∧ Small R ∧
    lval R = dval (t.data.toList.drop m) ∧ (m = 0 ∨ t.size = m + 9 * i) ∧ i ≤ 23 ∧ wr = W.setRow g (Nm b (R ++ Z46.drop i))

theorem ReadInv.next {W : World} {g : Nat} {b : Bool} {t : ByteArray} {wr : World} {m i : Nat} {d d' e : ByteArray} {R : List Nat} (c : Nat) (hg : NRow W g b Z46) (hts : t.size ≤ 200) (hdig : ∀ c ∈ t.data.toList, isD c)
    (hd : d.size = m) (hdt : d.data.toList = t.data.toList.take m) (hR : R.length = i) (sR : Small R) (hv : lval R = dval (t.data.toList.drop m)) (hm : t.size = m + 9 * i) (hm0 : 0 < m)
    (hw : wr = W.setRow g (Nm b (R ++ Z46.drop i))) (hc : c = m - 9) (he : d.extract c m = e) (hd' : d.extract 0 c = d') :
    ReadInv W g b t (.string d') (.int .i64 ((i : Int) + 1)) (wr.setCell ⟨g, 1 + i, none⟩ (.int .u32 (dval e.data.toList))) := by
  have hml : m ≤ t.data.toList.length := by rw [← Lib.size_eq]; omega
  have e1 : e.data.toList = (t.data.toList.take m).drop c := by
    rw [← he, Lib.extract_data, hdt, List.take_of_length_le]; rw [List.length_drop, List.length_take]; omega
  have e2 : d'.data.toList = t.data.toList.take c := by
    rw [← hd', Lib.extract_data, hdt, List.drop_zero, Nat.sub_zero, List.take_take, Nat.min_eq_left (by omega)]
  have hes : e.data.toList.length = m - c := by rw [e1, List.length_drop, List.length_take]; omega
  have hlt := dval_lt e.data.toList (fun x hx => hdig x (by rw [e1] at hx; exact List.mem_of_mem_take (List.mem_of_mem_drop hx)))
  have hB : dval e.data.toList < B := Nat.lt_of_lt_of_le hlt (by rw [hes]; exact Nat.le_trans (Nat.pow_le_pow_right (by decide) (show m - c ≤ 9 by omega)) (show 10 ^ 9 ≤ B by decide))
  refine ⟨c, i + 1, d', R ++ [dval e.data.toList], ?_, rfl, by go_num, e2, by simp [hR], sR.append (Small.cons hB Small.nil), ?_, by omega, by omega, ?_⟩
  · rw [Lib.size_eq, e2, List.length_take]; omega
  · rw [lval_snoc, hv, hR, dval_split _ c m (by omega) hml, e1, B_pow, ← Lib.size_eq, hm, Nat.add_sub_cancel_left]
    rw [Nat.mul_comm]; omega
  · rw [hw, hg.setSet]
    congr 2
    have := set_mid [] R (Z46.drop i) i (dval e.data.toList) (by simp [hR]) (by intro h; have := congrArg List.length h; simp [Z46_len] at this; omega)
    simp only [List.nil_append, List.tail_drop] at this
    exact this

set_option maxHeartbeats 1000000 in
set_option maxRecDepth 100000 in
theorem read_any (s t : ByteArray) (ht : t.data.toList = strip s.data.toList) (hs : s.size ≤ 5000) (hts : t.size ≤ 200) (hdig : ∀ c ∈ t.data.toList, isD c) (b : Bool) (hb : decide (t.size < s.size) = b) (w : World) :
    Calls Tryd.prog 43 #[.string s] w fun e w' => ∃ L, e = .returned (.agg (Nm b L)) ∧ L.length = 46 ∧ Small L ∧ lval L = dval t.data.toList ∧ Below w.heap.size w w' := by
  have HT := Lib.hid ht
  have HD := Lib.hid hdig
  clear ht hdig
  go_enter Tryd.func43, Tryd.ntmps43
  go_wp2_with fail
  rw [Nm_zeros]
  refine (trimPre_t s t HT.out _ hs).mono ?_
  rintro e w' ⟨rfl, rfl⟩
  go_wp2_with (first | (refine wpList_build_to rfl 49 _ rfl [(0, .bool b)] (by simp [Act.eval]) (Nm b Z46) (built_sign b) ?_) | (refine wpList_store_row rfl 49 _ _ rfl (w.heap.size + 1) (Nm b Z46) rfl rfl 49 _ (alloc_get _ _ _ (by simp)) (by rw [Nm_size]; exact info49) (by rw [Nm_size]; rfl) (Nm_one _ _) ?_))
  rw [Nm_zeros]
  have r1 : NRow (((w.alloc (.cells (Nm false Z46) 49)).alloc (.cells (Nm false Z46) 49)).setRow (w.heap.size + 1) (Nm b Z46)) w.heap.size false Z46 := ((NRow.new w false Z46 _ rfl).alloc _).other _ (by omega)
  have r2 : NRow (((w.alloc (.cells (Nm false Z46) 49)).alloc (.cells (Nm false Z46) 49)).setRow (w.heap.size + 1) (Nm b Z46)) (w.heap.size + 1) b Z46 := (NRow.new _ false Z46 _ (by simp)).set _ _
  have hB := below_setRow (((Below.refl w.heap.size w).alloc (Nat.le_refl _) (.cells (Nm false Z46) 49)).alloc (by simp) (.cells (Nm false Z46) 49)) (w.heap.size + 1) (Nm b Z46) (by omega)
  generalize ((w.alloc (.cells (Nm false Z46) 49)).alloc (.cells (Nm false Z46) 49)).setRow (w.heap.size + 1) (Nm b Z46) = W at r1 r2 hB ⊢
  have R1 := Lib.hid r1
  have R2 := Lib.hid r2
  have HB := Lib.hid hB
  clear r1 r2 hB hb
  go_loopw [3, 5] (fun dv iv wr => ReadInv W (w.heap.size + 1) b t dv iv wr) (fun dv _ _ => Lib.strSize dv)
  case atStart => exact ⟨t.size, 0, t, [], rfl, rfl, rfl, by rw [List.take_of_length_le]; rw [← Lib.size_eq]; exact Nat.le_refl _, rfl, Small.nil, by rw [List.drop_of_length_le (by rw [← Lib.size_eq]; exact Nat.le_refl _)]; rfl, by omega, by omega, R2.out.self.symm⟩
  case round =>
    obtain ⟨m, i, d, R, hd, rfl, rfl, hdt, hR, sR, hv, hm, hi, hw⟩ := hrel
    have H1 := Lib.hid hdt
    have H2 := Lib.hid hR
    have H3 := Lib.hid sR
    have H4 := Lib.hid hv
    have H5 := Lib.hid hw
    clear hdt hR sR hv hw
    cases Nat.eq_zero_or_pos m with
    | inl h0 =>
      subst h0
      clear hm
      have A3 : Hid (NRow wr (w.heap.size + 1) b (R ++ Z46.drop i)) := by show NRow _ _ _ _; rw [H5.out]; exact R2.out.set _ _
      have A1 : Hid (NRow wr w.heap.size false Z46) := by show NRow _ _ _ _; rw [H5.out]; exact R1.out.other _ (by omega)
      have AB : Hid (Below w.heap.size w wr) := by show Below _ _ _; rw [H5.out]; exact below_setRow HB.out _ _ (by omega)
      have AL : Hid ((R ++ Z46.drop i).length = 46) := by show _ = _; simp [H2.out, Z46_len]; omega
      have AV : Hid (lval (R ++ Z46.drop i) = dval t.data.toList) := by
        show _ = _
        have hz := lval_drop_zero Z46 i (fun j _ => by unfold Z46; rw [List.getD_eq_getElem?_getD, List.getElem?_replicate]; split <;> rfl)
        rw [lval_append, hz, H4.out]; simp
      have AS : Hid (Small (R ++ Z46.drop i)) := Small.append H3.out (Z46_small.drop _)
      obtain ⟨S, hS⟩ : ∃ S, S = R ++ Z46.drop i := ⟨_, rfl⟩
      rw [← hS] at A3 AL AV AS
      clear hS
      go_wp2_with (first | (refine wpList_load_row rfl 49 _ rfl (w.heap.size + 1) rfl 49 (Nm b S) (0, 0) _ A3.out Tryd.underlying49 rfl (by rw [Nm_size, AL.out]; exact info49) ?_) | (refine wpList_store_row rfl 49 _ _ rfl w.heap.size (Nm b S) rfl rfl 49 (Nm false Z46) A1.out (by rw [Nm_size, AL.out]; exact info49) (by rw [Nm_size, Nm_size, AL.out]; rfl) (Nm_one b S) ?_))
      have A4 := Lib.hid (A1.out.set b S)
      have AC := Lib.hid (below_setRow AB.out w.heap.size (Nm b S) (Nat.le_refl _))
      generalize wr.setRow w.heap.size (Nm b S) = W'' at A4 AC ⊢
      go_wp2
      refine bodyPost_ret (results_cell_row rfl _ _ w.heap.size 49 (Nm b S) (0, 0) _ rfl A4.out Tryd.underlying49 rfl (by rw [Nm_size, AL.out]; exact info49)) rfl ?_
      exact ⟨S, rfl, AL.out, AS.out, AV.out, AC.out⟩
    | inr h0 =>
      have hm' : t.size = m + 9 * i := by omega
      have hlen : (R ++ Z46.drop i).length = 46 := by simp [H2.out, Z46_len]; omega
      have hrow : NRow wr (w.heap.size + 1) b (R ++ Z46.drop i) := by rw [H5.out]; exact R2.out.set _ _
      have hcell := hrow.cells 46 (by rw [hlen]; exact Nat.le_refl _) i (by omega)
      have hfree := hrow.free (1 + i)
      obtain ⟨v, hv⟩ : ∃ v, v = lg (R ++ Z46.drop i) i := ⟨_, rfl⟩
      rw [← hv] at hcell
      have HW := Lib.hid hrow
      clear hrow hlen hv hm
      by_cases h9 : 9 < m
      · obtain ⟨e, he⟩ : ∃ e, d.extract (m - 9) m = e := ⟨_, rfl⟩
        obtain ⟨d', hd'⟩ : ∃ d', d.extract 0 (m - 9) = d' := ⟨_, rfl⟩
        have HN := Lib.hid (ReadInv.next (m - 9) R2.out hts HD.out hd H1.out H2.out H3.out H4.out hm' h0 H5.out rfl he hd')
        have HE : Hid (e.size ≤ 9 ∧ ∀ c ∈ e.data.toList, isD c) := by
          have e1 : e.data.toList = (d.data.toList.drop (m - 9)).take (m - (m - 9)) := by rw [← he, Lib.extract_data]
          refine ⟨by rw [Lib.size_eq, e1, List.length_take]; omega, fun c hc => ?_⟩
          rw [e1, H1.out] at hc
          exact HD.out c (List.mem_of_mem_take (List.mem_of_mem_drop (List.mem_of_mem_take hc)))
        have HM : Hid (d'.size < m) := by
          show _ < _
          rw [← hd', Lib.size_eq, Lib.extract_data, List.length_take]; omega
        have hmb : m ≤ 200 := by omega
        clear hm'
        go_wp2_with (go_at_call 56; refine (limb_any e _ HE.out.1 HE.out.2).mono ?_; rintro e' w' ⟨rfl, rfl⟩)
        go_roundw
        case rel => have := HN.out; rw [← hd'] at this; exact this
        case measure => have := HM.out; rw [← hd'] at this; simp only [Lib.strSize_string, hd]; exact this
      · obtain ⟨e, he⟩ : ∃ e, d.extract 0 m = e := ⟨_, rfl⟩
        have hd' : d.extract 0 0 = ByteArray.empty := by simp
        have h09 : 0 = m - 9 := by omega
        have HN := Lib.hid (ReadInv.next 0 R2.out hts HD.out hd H1.out H2.out H3.out H4.out hm' h0 H5.out h09 he hd')
        have HE : Hid (e.size ≤ 9 ∧ ∀ c ∈ e.data.toList, isD c) := by
          have e1 : e.data.toList = (d.data.toList.drop 0).take (m - 0) := by rw [← he, Lib.extract_data]
          refine ⟨by rw [Lib.size_eq, e1, List.length_take]; omega, fun c hc => ?_⟩
          rw [e1, H1.out] at hc
          exact HD.out c (List.mem_of_mem_take (List.mem_of_mem_drop (List.mem_of_mem_take hc)))
        have hmb : m ≤ 200 := by omega
        have hmn : m ≤ 9 := by omega
        clear hm' h9 h09
        go_wp2_with (go_at_call 56; refine (limb_any e _ HE.out.1 HE.out.2).mono ?_; rintro e' w' ⟨rfl, rfl⟩)
        go_roundw
        case rel => exact HN.out
        case measure => simp only [Lib.strSize_string, hd]; exact h0
end Go.Proofs.YtebadokchhnmfaaDoor
