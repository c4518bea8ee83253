/- The contract of Quo. -/
import Derived.Test.YtebadokchhnmfaaDoorF3
import Derived.Test.YtebadokchhnmfaaDoorJ3
import Derived.Deep.Cut
namespace Go.Proofs.YtebadokchhnmfaaDoor
open Go.RowKit Go.BigM
set_option linter.unusedVariables false
set_option linter.unusedSimpArgs false

theorem built_none47 : Tryd.prog.built 47 [] = some (U Z46) := by kernel_rfl
theorem sgn_quo (b c : Bool) (v u : Nat) : sgn (b != c) (v / u) = (sgn b v).tdiv (sgn c u) := by
  have e : ((v / u : Nat) : Int) = (v : Int).tdiv u := rfl
  cases b <;> cases c <;> simp only [sgn, bne_self_eq_false, Bool.false_eq_true, if_false, if_true, Bool.true_bne, Bool.false_bne, Bool.not_false, Bool.not_true, Int.neg_tdiv, Int.tdiv_neg, Int.neg_neg, e]
theorem sgn_rem (b c : Bool) (v u : Nat) : sgn b (v % u) = (sgn b v).tmod (sgn c u) := by
  have e : ((v % u : Nat) : Int) = (v : Int).tmod u := rfl
  cases b <;> cases c <;> simp only [sgn, Bool.false_eq_true, if_false, if_true, Int.neg_tmod, Int.tmod_neg, e]
section
variable {P : Program} {ops : Array Oper} {Q : Exit → Act → World → Prop} {a : Act} {w : World} {rest : List Oper} {o : Oper}
theorem wpList_wanted (hw : Region.wanted o (yielded ops a.tmps) = true) (h : ∀ K : Act → World → Prop, (∀ a w, wpList P ops Q rest a w → K a w) → o.wp P a w K Q) : wpList P ops Q (o :: rest) a w :=
  wpList_step fun K hK => by rw [if_pos hw]; exact h K hK
theorem wpList_load_wanted (hw : Region.wanted o (yielded ops a.tmps) = true) (ty : TypeId) (x : Operand) (ho : o.op = .load ty x)
    (b p : Nat) (hx : a.eval x = .pointer (some ⟨b, p, none⟩)) (cs : List Value) (d : TypeDesc) (hc : w.rangeAt b p cs)
    (hu : P.underlying ty = some d) (hd : d.isRow = true) (hi : (P.info? ty).map (·.size) = some cs.length)
    (h : wpList P ops Q rest (a.put o.dst (.agg cs.toArray)) w) : wpList P ops Q (o :: rest) a w :=
  wpList_wanted hw fun _ hK => wp_load_mid ty x ho b p hx cs d hc hu hd hi (hK _ _ h)
theorem wpList_build_wanted (hw : Region.wanted o (yielded ops a.tmps) = true) (t : TypeId) (parts : Array (Nat × Operand)) (ho : o.op = .build t parts)
    (l : List (Nat × Value)) (hl : (parts.map fun (i, x) => (i, a.eval x)).toList = l) (cells : Array Value) (hf : P.built t l = some cells)
    (h : wpList P ops Q rest (a.put o.dst (.agg cells)) w) : wpList P ops Q (o :: rest) a w :=
  wpList_wanted hw fun _ hK => wp_build_to t parts ho l hl cells hf (hK _ _ h)
end
/-- It returns the texts of quotient and rest. -/
def RetQ (w : World) (x y : Int) (e : Ending) (w' : World) : Prop :=
  e = .returned (.tuple #[.string ⟨(txtI (x.tdiv y)).toArray⟩, .string ⟨(txtI (x.tmod y)).toArray⟩, .bool true]) ∧ Below w.heap.size w w'

set_option maxHeartbeats 4000000 in
set_option maxRecDepth 100000 in
theorem quo_any (s t : ByteArray) (hs : Canon s.data.toList) (ht : Canon t.data.toList) (hne : ival t.data.toList ≠ 0) (w : World) :
    Calls Tryd.prog 24 #[.string s, .string t] w (RetQ w (ival s.data.toList) (ival t.data.toList)) := by
  have hs' := canon_size s hs
  have ht' := canon_size t ht
  have hB := both_any s t hs ht
  obtain ⟨b, hb⟩ : ∃ b, b = low s.data.toList := ⟨_, rfl⟩
  obtain ⟨c, hc⟩ : ∃ c, c = low t.data.toList := ⟨_, rfl⟩
  obtain ⟨v, hv⟩ : ∃ v, v = dval (strip s.data.toList) := ⟨_, rfl⟩
  obtain ⟨u, hu⟩ : ∃ u, u = dval (strip t.data.toList) := ⟨_, rfl⟩
  have hx : ival s.data.toList = sgn b v := by unfold ival; rw [hb, hv]
  have hy : ival t.data.toList = sgn c u := by unfold ival; rw [hc, hu]
  have hvl : v < Lim := by rw [hv]; exact canon_lim _ hs
  have hul : u < Lim := by rw [hu]; exact canon_lim _ ht
  rw [← hb, ← hc, ← hv, ← hu] at hB
  rw [hx, hy]
  have hu0 : u ≠ 0 := by
    intro e; apply hne; rw [hy, e]; cases c <;> rfl
  have HNE := Lib.hid hu0
  clear hu0
  have HB := Lib.hid hB
  have HV := Lib.hid hvl
  have HUL := Lib.hid hul
  clear hB hb hc hv hu hx hy hvl hul hs ht hs' ht'
  go_enter Tryd.func24, Tryd.ntmps24
  go_wp2_with fail
  refine (HB.out w).mono ?_
  rintro e w1 ⟨L, M, rfl, hL, sL, vL, hM, sM, vM, b1⟩
  have K1 := Lib.hid hL
  have K2 := Lib.hid vL
  have K3 := Lib.hid hM
  have K4 := Lib.hid vM
  have B1 := Lib.hid b1
  clear hL vL hM vM b1
  simp only []
  iterate 18 go_step
  rw [Nm_zeros]
  obtain ⟨r1, r2, b2⟩ := two_nums w1 false Z46 false Z46
  have hz : w1.heap.size + 1 < ((w1.alloc (.cells (Nm false Z46) 49)).alloc (.cells (Nm false Z46) 49)).heap.size := by simp
  generalize (w1.alloc (.cells (Nm false Z46) 49)).alloc (.cells (Nm false Z46) 49) = W0 at r1 r2 b2 hz ⊢
  have hlt : w1.heap.size ≠ w1.heap.size + 1 := by omega
  have HE : ∀ w, (binOp .eql 47 (.agg (Uc M).toArray) (.agg (U Z46))).run Tryd.prog w = .ok (.bool false) w := fun w => by
    have := eql_limbs M Z46 K3.out Z46_len w
    refine this.trans ?_; congr 2; rw [beq_eq_false_iff_ne]; intro e; exact HNE.out (by rw [← K4.out, e, Z46_val])
  rw [← U_zeros] at HE
  go_wp2_with (first | (refine wpList_store_row rfl 49 _ _ rfl w1.heap.size (Nm b L) rfl rfl 49 _ r1 (by rw [Nm_size, K1.out]; exact info49) (by rw [Nm_size, Nm_size, K1.out]; rfl) (Nm_one b L) ?_) | (refine wpList_store_row rfl 49 _ _ rfl (w1.heap.size + 1) (Nm c M) rfl rfl 49 _ (r2.other _ (by omega)) (by rw [Nm_size, K3.out]; exact info49) (by rw [Nm_size, Nm_size, K3.out]; rfl) (Nm_one c M) ?_) | (refine wpList_load_wanted (by rfl) 47 _ rfl (w1.heap.size + 1) 1 rfl (Uc M) _ (((r2.other _ hlt.symm).set c M).range) Tryd.underlying47 rfl (by rw [Uc_len, K3.out]; exact info47) ?_) | (refine wpList_load_wanted (by rfl) 47 _ rfl w1.heap.size 1 rfl (Uc L) _ (((r1.set b L).other _ hlt).range) Tryd.underlying47 rfl (by rw [Uc_len, K1.out]; exact info47) ?_) | fail)
  clear HE
  have BW : Hid (Below w.heap.size w ((W0.setRow w1.heap.size (Nm b L)).setRow (w1.heap.size + 1) (Nm c M))) :=
    B1.out.trans ((below_setRow (below_setRow b2 _ _ (Nat.le_refl _)) _ _ (by omega)).mono B1.out.size)
  have k1 : NRow ((W0.setRow w1.heap.size (Nm b L)).setRow (w1.heap.size + 1) (Nm c M)) w1.heap.size b L := (r1.set b L).other _ hlt
  have k2 : NRow ((W0.setRow w1.heap.size (Nm b L)).setRow (w1.heap.size + 1) (Nm c M)) (w1.heap.size + 1) c M := (r2.other _ hlt.symm).set c M
  have hz' : w1.heap.size + 1 < ((W0.setRow w1.heap.size (Nm b L)).setRow (w1.heap.size + 1) (Nm c M)).heap.size := by simpa using hz
  generalize (W0.setRow w1.heap.size (Nm b L)).setRow (w1.heap.size + 1) (Nm c M) = W1 at BW k1 k2 hz' ⊢
  clear r1 r2 b2 hz hlt
  have k0 : 0 < lval M := by rw [K4.out]; exact Nat.pos_of_ne_zero HNE.out
  refine (divided_any L M K1.out K3.out sL sM (lim_used L (by rw [K2.out]; exact HV.out)) (lim_used M (by rw [K4.out]; exact HUL.out)) k0 _).mono ?_
  rintro e w2 ⟨Q, S, rfl, hQ, sQ, hS, sS, vQ, vS, hb2⟩
  clear k0
  have a1 : NRow w2 w1.heap.size b L := k1.below hb2 (by omega)
  have a2 : NRow w2 (w1.heap.size + 1) c M := k2.below hb2 hz'
  have BX : Hid (Below w.heap.size w w2) := BW.out.trans (hb2.mono BW.out.size)
  have hz2 : w1.heap.size + 1 < w2.heap.size := Nat.lt_of_lt_of_le hz' hb2.size
  rw [K2.out, K4.out] at vQ vS
  have HZ : Hid (sgn (!(b == c)) (lval Q) = (sgn b v).tdiv (sgn c u)) := by show sgn (b != c) (lval Q) = _; rw [vQ, sgn_quo]
  have HY : Hid (sgn b (lval S) = (sgn b v).tmod (sgn c u)) := by show _ = _; rw [vS, sgn_rem]
  have J1 := Lib.hid hQ
  have J2 := Lib.hid hS
  have A1 := Lib.hid a1
  have A2 := Lib.hid a2
  clear hQ hS vQ vS k1 k2 hz' hb2 a1 a2
  simp only []
  iterate 15 go_step
  rw [U_zeros]
  have p1 : Row ((w2.alloc (.cells (U Z46) 47)).alloc (.cells (U Z46) 47)) w2.heap.size Z46 47 := (Row.new _ _ _).alloc _
  have p2 : Row ((w2.alloc (.cells (U Z46) 47)).alloc (.cells (U Z46) 47)) (w2.heap.size + 1) Z46 47 := Row.new' _ _ _ _ (by simp)
  have n1 : NRow ((w2.alloc (.cells (U Z46) 47)).alloc (.cells (U Z46) 47)) w1.heap.size b L := (A1.out.alloc _).alloc _
  have n2 : NRow ((w2.alloc (.cells (U Z46) 47)).alloc (.cells (U Z46) 47)) (w1.heap.size + 1) c M := (A2.out.alloc _).alloc _
  have nb : Below w2.heap.size w2 ((w2.alloc (.cells (U Z46) 47)).alloc (.cells (U Z46) 47)) := ((Below.refl _ _).alloc (Nat.le_refl _) _).alloc (by simp) _
  have ns : w2.heap.size + 1 < ((w2.alloc (.cells (U Z46) 47)).alloc (.cells (U Z46) 47)).heap.size := by simp
  generalize (w2.alloc (.cells (U Z46) 47)).alloc (.cells (U Z46) 47) = W2 at p1 p2 n1 n2 nb ns ⊢
  have P1 := Lib.hid p1
  have P2 := Lib.hid p2
  have N1 := Lib.hid n1
  have N2 := Lib.hid n2
  have NB := Lib.hid nb
  clear p1 p2 n1 n2 nb A1 A2
  go_upto_region 5 with (first | (refine wpList_store_row rfl 47 _ _ rfl w2.heap.size (U Q) rfl rfl 47 (U Z46) P1.out (by rw [U_size, J1.out]; exact info47) (by rw [U_size, U_size, J1.out]; rfl) (U_one Q) ?_) | (refine wpList_store_row rfl 47 _ _ rfl (w2.heap.size + 1) (U S) rfl rfl 47 (U Z46) (P2.out.other _ (by omega)) (by rw [U_size, J2.out]; exact info47) (by rw [U_size, U_size, J2.out]; rfl) (U_one S) ?_))
  have p1 : Row ((W2.setRow w2.heap.size (U Q)).setRow (w2.heap.size + 1) (U S)) w2.heap.size Q 47 := (P1.out.set Q).other _ (by omega)
  have p2 : Row ((W2.setRow w2.heap.size (U Q)).setRow (w2.heap.size + 1) (U S)) (w2.heap.size + 1) S 47 := (P2.out.other _ (by omega)).set S
  have n1 : NRow ((W2.setRow w2.heap.size (U Q)).setRow (w2.heap.size + 1) (U S)) w1.heap.size b L := (N1.out.other _ (by omega)).other _ (by omega)
  have n2 : NRow ((W2.setRow w2.heap.size (U Q)).setRow (w2.heap.size + 1) (U S)) (w1.heap.size + 1) c M := (N2.out.other _ (by omega)).other _ (by omega)
  have nb : Below w.heap.size w ((W2.setRow w2.heap.size (U Q)).setRow (w2.heap.size + 1) (U S)) := BX.out.trans ((below_setRow (below_setRow NB.out _ _ (Nat.le_refl _)) _ _ (by omega)).mono BX.out.size)
  have ns2 : w2.heap.size + 1 < ((W2.setRow w2.heap.size (U Q)).setRow (w2.heap.size + 1) (U S)).heap.size := by simpa using ns
  generalize (W2.setRow w2.heap.size (U Q)).setRow (w2.heap.size + 1) (U S) = W3 at p1 p2 n1 n2 nb ns2 ⊢
  clear P1 P2 N1 N2 NB ns
  have P1 := Lib.hid p1
  have P2 := Lib.hid p2
  have N1 := Lib.hid n1
  have N2 := Lib.hid n2
  have NB := Lib.hid nb
  have s1 := n1.sign
  have s2 := n2.sign
  clear p1 p2 n1 n2 nb
  go_wp2_with (first | (refine wpList_load_row rfl 47 _ rfl w2.heap.size rfl 47 (U Q) (0, 0) _ P1.out Tryd.underlying47 rfl (by rw [U_size, J1.out]; exact info47) ?_) | (refine wpList_build_to rfl 49 _ rfl [(0, .bool (!(b == c))), (1, .agg (U Q))] (by simp [Act.eval, Act.put]) (Nm (!(b == c)) Q) (built_pair _ Q J1.out) ?_))
  refine (text_z (!(b == c)) Q J1.out sQ _ HZ.out _).mono ?_
  rintro e w4 hI
  obtain ⟨T, hT⟩ : ∃ T : ByteArray, T = ⟨(txtI ((sgn b v).tdiv (sgn c u))).toArray⟩ := ⟨_, rfl⟩
  obtain ⟨k, hk⟩ : ∃ k : Bool, k = decide (((sgn b v).tdiv (sgn c u)).natAbs < Lim) := ⟨_, rfl⟩
  have HT := Lib.hid hT
  have he := hI.as T k hT hk
  have hJ := hI.2
  have s3 : w4.cell? ⟨w1.heap.size, 0, none⟩ = some (.bool b) := (N1.out.below hJ (by omega)).sign
  have P3 : Hid (Row w4 (w2.heap.size + 1) S 47) := P2.out.below hJ (by omega)
  have NC : Hid (Below w.heap.size w w4) := NB.out.trans (hJ.mono NB.out.size)
  clear hT hk hI hJ s1 s2
  subst he
  go_wp2_with (first | (refine wpList_load_row rfl 47 _ rfl (w2.heap.size + 1) rfl 47 (U S) (0, 0) _ P3.out Tryd.underlying47 rfl (by rw [U_size, J2.out]; exact info47) ?_) | (refine wpList_build_to rfl 49 _ rfl [(0, .bool b), (1, .agg (U S))] (by simp [Act.eval, Act.put]) (Nm b S) (built_pair _ S J2.out) ?_))
  refine (text_z b S J2.out sS _ HY.out _).mono ?_
  rintro e w5 hI
  obtain ⟨T2, hT2⟩ : ∃ T : ByteArray, T = ⟨(txtI ((sgn b v).tmod (sgn c u))).toArray⟩ := ⟨_, rfl⟩
  obtain ⟨k2, hk2⟩ : ∃ k : Bool, k = decide (((sgn b v).tmod (sgn c u)).natAbs < Lim) := ⟨_, rfl⟩
  have HT2 := Lib.hid hT2
  have he := hI.as T2 k2 hT2 hk2
  have hJ := Lib.hid hI.2
  clear hT2 hk2 hI s3
  subst he
  go_wp2
  go_ret3
  exact ⟨by rw [HT.out, HT2.out]; rfl, NC.out.trans (hJ.out.mono NC.out.size)⟩
end Go.Proofs.YtebadokchhnmfaaDoor
