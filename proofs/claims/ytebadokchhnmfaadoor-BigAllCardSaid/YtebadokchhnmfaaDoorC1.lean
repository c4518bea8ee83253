/- The contract of compare. -/
import Derived.Test.YtebadokchhnmfaaDoorE1
import Derived.Test.YtebadokchhnmfaaDoorP3
namespace Go.Proofs.YtebadokchhnmfaaDoor
open Go.RowKit Go.BigM
set_option linter.unusedVariables false
set_option linter.unusedSimpArgs false

/-- The order of two numbers, by signs and sizes. -/
def cmpB (b : Bool) (v : Nat) (c : Bool) (u : Nat) : Int :=
  if b = true ∧ c = false then -1 else if b = false ∧ c = true then 1 else if v = u then 0 else if (decide (v < u) != b) = true then -1 else 1

def RetC (w : World) (r : Int) (e : Ending) (w' : World) : Prop := e = .returned (.int .i64 r) ∧ Below w.heap.size w w'

theorem two_nums (w : World) (b : Bool) (L : List Nat) (c : Bool) (M : List Nat) : 
    NRow ((w.alloc (.cells (Nm b L) 49)).alloc (.cells (Nm c M) 49)) w.heap.size b L ∧
    NRow ((w.alloc (.cells (Nm b L) 49)).alloc (.cells (Nm c M) 49)) (w.heap.size + 1) c M ∧
    Below w.heap.size w ((w.alloc (.cells (Nm b L) 49)).alloc (.cells (Nm c M) 49)) :=
  ⟨(NRow.new _ _ _ _ rfl).alloc _, NRow.new _ _ _ _ (by simp), ((Below.refl _ _).alloc (by simp) _).alloc (by simp) _⟩

set_option maxHeartbeats 1000000 in
set_option maxRecDepth 100000 in
theorem compare_tf (L M : List Nat) (w : World) : Calls Tryd.prog 41 #[.agg (Nm true L), .agg (Nm false M)] w (RetC w (-1)) := by
  have hN1 := Nm_sign true L
  have hN2 := Nm_sign false M
  obtain ⟨_, _, hb⟩ := two_nums w true L false M
  go_enter Tryd.func41, Tryd.ntmps41
  go_wp2
  go_ret
  exact ⟨rfl, hb⟩
set_option maxHeartbeats 1000000 in
set_option maxRecDepth 100000 in
theorem compare_ft (L M : List Nat) (w : World) : Calls Tryd.prog 41 #[.agg (Nm false L), .agg (Nm true M)] w (RetC w (1)) := by
  have hN1 := Nm_sign false L
  have hN2 := Nm_sign true M
  obtain ⟨_, _, hb⟩ := two_nums w false L true M
  go_enter Tryd.func41, Tryd.ntmps41
  go_wp2
  go_ret
  exact ⟨rfl, hb⟩
set_option maxHeartbeats 2000000 in
set_option maxRecDepth 100000 in
theorem compare_eq_true (L M : List Nat) (hL : L.length = 46) (hM : M.length = 46) (sL : Small L) (sM : Small M) (hx : L = M) (w : World) : Calls Tryd.prog 41 #[.agg (Nm true L), .agg (Nm true M)] w (RetC w (0)) := by
  have hN1 := Nm_sign true L
  have hN2 := Nm_sign true M
  have h2 := two_nums w true L true M
  have heq : ∀ w, (binOp .eql 47 (.agg (Uc L).toArray) (.agg (Uc M).toArray)).run Tryd.prog w = .ok (.bool true) w := fun w => by
    have := eql_limbs L M hL hM w
    refine this.trans ?_; congr 2; rw [hx]; simp
  have HX := Lib.hid hx
  have HL := Lib.hid hL
  have HM := Lib.hid hM
  clear hx hL hM
  go_enter Tryd.func41, Tryd.ntmps41
  obtain ⟨r1, r2, hb⟩ := h2
  have q1 := r1.range
  have q2 := r2.range
  have R1 := Lib.hid r1
  have R2 := Lib.hid r2
  have Q1 := Lib.hid q1
  have Q2 := Lib.hid q2
  have HB := Lib.hid hb
  clear r1 r2 hb q1 q2
  go_wp2_with (first | (refine wpList_load_mid rfl 47 _ rfl w.heap.size 1 rfl (Uc L) _ Q1.out Tryd.underlying47 rfl (by rw [Uc_len, HL.out]; exact info47) ?_) | (refine wpList_load_mid rfl 47 _ rfl (w.heap.size + 1) 1 rfl (Uc M) _ Q2.out Tryd.underlying47 rfl (by rw [Uc_len, HM.out]; exact info47) ?_))
  go_ret
  exact ⟨rfl, HB.out⟩
set_option maxHeartbeats 2000000 in
set_option maxRecDepth 100000 in
theorem compare_true_true (L M : List Nat) (hL : L.length = 46) (hM : M.length = 46) (sL : Small L) (sM : Small M) (hx : lval L < lval M) (w : World) : Calls Tryd.prog 41 #[.agg (Nm true L), .agg (Nm true M)] w (RetC w (1)) := by
  have hN1 := Nm_sign true L
  have hN2 := Nm_sign true M
  have h2 := two_nums w true L true M
  have heq : ∀ w, (binOp .eql 47 (.agg (Uc L).toArray) (.agg (Uc M).toArray)).run Tryd.prog w = .ok (.bool false) w := fun w => by
    have := eql_limbs L M hL hM w
    refine this.trans ?_; congr 2; rw [beq_eq_false_iff_ne]; intro e; rw [e] at hx; omega
  have HX := Lib.hid hx
  have HL := Lib.hid hL
  have HM := Lib.hid hM
  clear hx hL hM
  go_enter Tryd.func41, Tryd.ntmps41
  obtain ⟨r1, r2, hb⟩ := h2
  have q1 := r1.range
  have q2 := r2.range
  have R1 := Lib.hid r1
  have R2 := Lib.hid r2
  have Q1 := Lib.hid q1
  have Q2 := Lib.hid q2
  have HB := Lib.hid hb
  clear r1 r2 hb q1 q2
  go_wp2_with (first | (refine wpList_load_mid rfl 47 _ rfl w.heap.size 1 rfl (Uc L) _ Q1.out Tryd.underlying47 rfl (by rw [Uc_len, HL.out]; exact info47) ?_) | (refine wpList_load_mid rfl 47 _ rfl (w.heap.size + 1) 1 rfl (Uc M) _ Q2.out Tryd.underlying47 rfl (by rw [Uc_len, HM.out]; exact info47) ?_))
  have s1 := R1.out.sign
  generalize (w.alloc (.cells (Nm true L) 49)).alloc (.cells (Nm true M) 49) = W at R1 R2 Q1 Q2 HB s1 ⊢
  clear hN1 hN2
  have HD : Hid (decide (lval L < lval M) = true) := by show _ = _; have := HX.out; simp; omega
  go_quiet ((go_at_call 45; refine Calls.quiet_of (less_any w.heap.size 1 46 (w.heap.size + 1) 1 46 46 L M (by omega) HL.out HM.out sL sM _ ((R1.out.drewN _).cells 46 (by rw [HL.out]; omega)) ((R2.out.drewN _).cells 46 (by rw [HM.out]; omega)))))
  rw [HD.out]
  have HB' := Lib.hid (below_drewN HB.out nq)
  go_wp2
  go_ret
  exact ⟨rfl, HB'.out⟩
set_option maxHeartbeats 2000000 in
set_option maxRecDepth 100000 in
theorem compare_true_false (L M : List Nat) (hL : L.length = 46) (hM : M.length = 46) (sL : Small L) (sM : Small M) (hx : lval M < lval L) (w : World) : Calls Tryd.prog 41 #[.agg (Nm true L), .agg (Nm true M)] w (RetC w (-1)) := by
  have hN1 := Nm_sign true L
  have hN2 := Nm_sign true M
  have h2 := two_nums w true L true M
  have heq : ∀ w, (binOp .eql 47 (.agg (Uc L).toArray) (.agg (Uc M).toArray)).run Tryd.prog w = .ok (.bool false) w := fun w => by
    have := eql_limbs L M hL hM w
    refine this.trans ?_; congr 2; rw [beq_eq_false_iff_ne]; intro e; rw [e] at hx; omega
  have HX := Lib.hid hx
  have HL := Lib.hid hL
  have HM := Lib.hid hM
  clear hx hL hM
  go_enter Tryd.func41, Tryd.ntmps41
  obtain ⟨r1, r2, hb⟩ := h2
  have q1 := r1.range
  have q2 := r2.range
  have R1 := Lib.hid r1
  have R2 := Lib.hid r2
  have Q1 := Lib.hid q1
  have Q2 := Lib.hid q2
  have HB := Lib.hid hb
  clear r1 r2 hb q1 q2
  go_wp2_with (first | (refine wpList_load_mid rfl 47 _ rfl w.heap.size 1 rfl (Uc L) _ Q1.out Tryd.underlying47 rfl (by rw [Uc_len, HL.out]; exact info47) ?_) | (refine wpList_load_mid rfl 47 _ rfl (w.heap.size + 1) 1 rfl (Uc M) _ Q2.out Tryd.underlying47 rfl (by rw [Uc_len, HM.out]; exact info47) ?_))
  have s1 := R1.out.sign
  generalize (w.alloc (.cells (Nm true L) 49)).alloc (.cells (Nm true M) 49) = W at R1 R2 Q1 Q2 HB s1 ⊢
  clear hN1 hN2
  have HD : Hid (decide (lval L < lval M) = false) := by show _ = _; have := HX.out; simp; omega
  go_quiet ((go_at_call 45; refine Calls.quiet_of (less_any w.heap.size 1 46 (w.heap.size + 1) 1 46 46 L M (by omega) HL.out HM.out sL sM _ ((R1.out.drewN _).cells 46 (by rw [HL.out]; omega)) ((R2.out.drewN _).cells 46 (by rw [HM.out]; omega)))))
  rw [HD.out]
  have HB' := Lib.hid (below_drewN HB.out nq)
  go_wp2
  go_ret
  exact ⟨rfl, HB'.out⟩
set_option maxHeartbeats 2000000 in
set_option maxRecDepth 100000 in
theorem compare_eq_false (L M : List Nat) (hL : L.length = 46) (hM : M.length = 46) (sL : Small L) (sM : Small M) (hx : L = M) (w : World) : Calls Tryd.prog 41 #[.agg (Nm false L), .agg (Nm false M)] w (RetC w (0)) := by
  have hN1 := Nm_sign false L
  have hN2 := Nm_sign false M
  have h2 := two_nums w false L false M
  have heq : ∀ w, (binOp .eql 47 (.agg (Uc L).toArray) (.agg (Uc M).toArray)).run Tryd.prog w = .ok (.bool true) w := fun w => by
    have := eql_limbs L M hL hM w
    refine this.trans ?_; congr 2; rw [hx]; simp
  have HX := Lib.hid hx
  have HL := Lib.hid hL
  have HM := Lib.hid hM
  clear hx hL hM
  go_enter Tryd.func41, Tryd.ntmps41
  obtain ⟨r1, r2, hb⟩ := h2
  have q1 := r1.range
  have q2 := r2.range
  have R1 := Lib.hid r1
  have R2 := Lib.hid r2
  have Q1 := Lib.hid q1
  have Q2 := Lib.hid q2
  have HB := Lib.hid hb
  clear r1 r2 hb q1 q2
  go_wp2_with (first | (refine wpList_load_mid rfl 47 _ rfl w.heap.size 1 rfl (Uc L) _ Q1.out Tryd.underlying47 rfl (by rw [Uc_len, HL.out]; exact info47) ?_) | (refine wpList_load_mid rfl 47 _ rfl (w.heap.size + 1) 1 rfl (Uc M) _ Q2.out Tryd.underlying47 rfl (by rw [Uc_len, HM.out]; exact info47) ?_))
  go_ret
  exact ⟨rfl, HB.out⟩
set_option maxHeartbeats 2000000 in
set_option maxRecDepth 100000 in
theorem compare_false_true (L M : List Nat) (hL : L.length = 46) (hM : M.length = 46) (sL : Small L) (sM : Small M) (hx : lval L < lval M) (w : World) : Calls Tryd.prog 41 #[.agg (Nm false L), .agg (Nm false M)] w (RetC w (-1)) := by
  have hN1 := Nm_sign false L
  have hN2 := Nm_sign false M
  have h2 := two_nums w false L false M
  have heq : ∀ w, (binOp .eql 47 (.agg (Uc L).toArray) (.agg (Uc M).toArray)).run Tryd.prog w = .ok (.bool false) w := fun w => by
    have := eql_limbs L M hL hM w
    refine this.trans ?_; congr 2; rw [beq_eq_false_iff_ne]; intro e; rw [e] at hx; omega
  have HX := Lib.hid hx
  have HL := Lib.hid hL
  have HM := Lib.hid hM
  clear hx hL hM
  go_enter Tryd.func41, Tryd.ntmps41
  obtain ⟨r1, r2, hb⟩ := h2
  have q1 := r1.range
  have q2 := r2.range
  have R1 := Lib.hid r1
  have R2 := Lib.hid r2
  have Q1 := Lib.hid q1
  have Q2 := Lib.hid q2
  have HB := Lib.hid hb
  clear r1 r2 hb q1 q2
  go_wp2_with (first | (refine wpList_load_mid rfl 47 _ rfl w.heap.size 1 rfl (Uc L) _ Q1.out Tryd.underlying47 rfl (by rw [Uc_len, HL.out]; exact info47) ?_) | (refine wpList_load_mid rfl 47 _ rfl (w.heap.size + 1) 1 rfl (Uc M) _ Q2.out Tryd.underlying47 rfl (by rw [Uc_len, HM.out]; exact info47) ?_))
  have s1 := R1.out.sign
  generalize (w.alloc (.cells (Nm false L) 49)).alloc (.cells (Nm false M) 49) = W at R1 R2 Q1 Q2 HB s1 ⊢
  clear hN1 hN2
  have HD : Hid (decide (lval L < lval M) = true) := by show _ = _; have := HX.out; simp; omega
  go_quiet ((go_at_call 45; refine Calls.quiet_of (less_any w.heap.size 1 46 (w.heap.size + 1) 1 46 46 L M (by omega) HL.out HM.out sL sM _ ((R1.out.drewN _).cells 46 (by rw [HL.out]; omega)) ((R2.out.drewN _).cells 46 (by rw [HM.out]; omega)))))
  rw [HD.out]
  have HB' := Lib.hid (below_drewN HB.out nq)
  go_wp2
  go_ret
  exact ⟨rfl, HB'.out⟩
set_option maxHeartbeats 2000000 in
set_option maxRecDepth 100000 in
theorem compare_false_false (L M : List Nat) (hL : L.length = 46) (hM : M.length = 46) (sL : Small L) (sM : Small M) (hx : lval M < lval L) (w : World) : Calls Tryd.prog 41 #[.agg (Nm false L), .agg (Nm false M)] w (RetC w (1)) := by
  have hN1 := Nm_sign false L
  have hN2 := Nm_sign false M
  have h2 := two_nums w false L false M
  have heq : ∀ w, (binOp .eql 47 (.agg (Uc L).toArray) (.agg (Uc M).toArray)).run Tryd.prog w = .ok (.bool false) w := fun w => by
    have := eql_limbs L M hL hM w
    refine this.trans ?_; congr 2; rw [beq_eq_false_iff_ne]; intro e; rw [e] at hx; omega
  have HX := Lib.hid hx
  have HL := Lib.hid hL
  have HM := Lib.hid hM
  clear hx hL hM
  go_enter Tryd.func41, Tryd.ntmps41
  obtain ⟨r1, r2, hb⟩ := h2
  have q1 := r1.range
  have q2 := r2.range
  have R1 := Lib.hid r1
  have R2 := Lib.hid r2
  have Q1 := Lib.hid q1
  have Q2 := Lib.hid q2
  have HB := Lib.hid hb
  clear r1 r2 hb q1 q2
  go_wp2_with (first | (refine wpList_load_mid rfl 47 _ rfl w.heap.size 1 rfl (Uc L) _ Q1.out Tryd.underlying47 rfl (by rw [Uc_len, HL.out]; exact info47) ?_) | (refine wpList_load_mid rfl 47 _ rfl (w.heap.size + 1) 1 rfl (Uc M) _ Q2.out Tryd.underlying47 rfl (by rw [Uc_len, HM.out]; exact info47) ?_))
  have s1 := R1.out.sign
  generalize (w.alloc (.cells (Nm false L) 49)).alloc (.cells (Nm false M) 49) = W at R1 R2 Q1 Q2 HB s1 ⊢
  clear hN1 hN2
  have HD : Hid (decide (lval L < lval M) = false) := by show _ = _; have := HX.out; simp; omega
  go_quiet ((go_at_call 45; refine Calls.quiet_of (less_any w.heap.size 1 46 (w.heap.size + 1) 1 46 46 L M (by omega) HL.out HM.out sL sM _ ((R1.out.drewN _).cells 46 (by rw [HL.out]; omega)) ((R2.out.drewN _).cells 46 (by rw [HM.out]; omega)))))
  rw [HD.out]
  have HB' := Lib.hid (below_drewN HB.out nq)
  go_wp2
  go_ret
  exact ⟨rfl, HB'.out⟩
theorem compare_any (b c : Bool) (L M : List Nat) (hL : L.length = 46) (hM : M.length = 46) (sL : Small L) (sM : Small M) (w : World) :
    Calls Tryd.prog 41 #[.agg (Nm b L), .agg (Nm c M)] w (RetC w (cmpB b (lval L) c (lval M))) := by
  have hinj : lval L = lval M → L = M := lval_inj L M (hL.trans hM.symm) sL sM
  cases b <;> cases c
  · rcases Nat.lt_trichotomy (lval L) (lval M) with h | h | h
    · have : cmpB false (lval L) false (lval M) = -1 := by unfold cmpB; simp [h, Nat.ne_of_lt h]
      rw [this]; exact compare_false_true L M hL hM sL sM h w
    · have : cmpB false (lval L) false (lval M) = 0 := by unfold cmpB; simp [h]
      rw [this]; exact compare_eq_false L M hL hM sL sM (hinj h) w
    · have : cmpB false (lval L) false (lval M) = 1 := by unfold cmpB; simp [Nat.ne_of_gt h, Nat.not_lt.2 (Nat.le_of_lt h)]
      rw [this]; exact compare_false_false L M hL hM sL sM h w
  · exact compare_ft L M w
  · exact compare_tf L M w
  · rcases Nat.lt_trichotomy (lval L) (lval M) with h | h | h
    · have : cmpB true (lval L) true (lval M) = 1 := by unfold cmpB; simp [h, Nat.ne_of_lt h]
      rw [this]; exact compare_true_true L M hL hM sL sM h w
    · have : cmpB true (lval L) true (lval M) = 0 := by unfold cmpB; simp [h]
      rw [this]; exact compare_eq_true L M hL hM sL sM (hinj h) w
    · have : cmpB true (lval L) true (lval M) = -1 := by unfold cmpB; simp [Nat.ne_of_gt h, Nat.not_lt.2 (Nat.le_of_lt h)]
      rw [this]; exact compare_true_false L M hL hM sL sM h w
end Go.Proofs.YtebadokchhnmfaaDoor
