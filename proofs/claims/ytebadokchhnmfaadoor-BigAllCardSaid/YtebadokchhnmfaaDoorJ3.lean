/- The contract of divided: the quotient's limbs, and the rest's. -/
import Derived.Test.YtebadokchhnmfaaDoorJ2
import Derived.Test.YtebadokchhnmfaaDoorQ1
import Derived.Test.YtebadokchhnmfaaDoorC1
import Derived.Deep.Cut
namespace Go.Proofs.YtebadokchhnmfaaDoor
open Go.RowKit Go.BigM
set_option linter.unusedVariables false
set_option linter.unusedSimpArgs false

theorem Row.range {w : World} {g : Nat} {l : List Nat} {t : TypeId} (h : Row w g l t) : w.rangeAt g 0 (Uc l) := by
  intro j v hv
  have hj : j < l.length := by have := (List.getElem?_eq_some_iff.1 hv).1; rwa [Uc_len] at this
  rw [Nat.zero_add, h.cell j hj, ← hv]
  have := U_get l j hj
  rw [← this, U_eq, List.getElem?_toArray]

theorem results_two_rows {P : Program} {fn : Func} {p q : Tmp} {ty tz : TypeId} (h : fn.results = #[.cell p ty, .cell q tz]) (tmps : Array Value) (w : World) (g g2 : Nat) (t t2 : TypeId) (cs ds : Array Value) (fr fr2 : Nat × Nat) (d d2 : TypeDesc)
    (hp : tmps.getD p undef = .pointer (some ⟨g, 0, none⟩)) (hq : tmps.getD q undef = .pointer (some ⟨g2, 0, none⟩)) (hg : w.heap[g]? = some (.cells cs t fr)) (hg2 : w.heap[g2]? = some (.cells ds t2 fr2))
    (hu : P.underlying ty = some d) (hd : (match d with | .struct _ | .array _ _ => true | _ => false) = true) (hi : (P.info? ty).map (·.size) = some cs.size)
    (hu2 : P.underlying tz = some d2) (hd2 : (match d2 with | .struct _ | .array _ _ => true | _ => false) = true) (hi2 : (P.info? tz).map (·.size) = some ds.size) :
    (results fn tmps).run P w = .ok (.tuple #[.agg cs, .agg ds]) w := by
  have hp' : tmps[p]?.getD undef = .pointer (some ⟨g, 0, none⟩) := by simpa using hp
  have hq' : tmps[q]?.getD undef = .pointer (some ⟨g2, 0, none⟩) := by simpa using hq
  simp [results, h, hp', hq', asAddr, run_loadVar_row w g t ty cs fr d hg hu hd hi, run_loadVar_row w g2 t2 tz ds fr2 d2 hg2 hu2 hd2 hi2]

theorem four_rows (w : World) (L M : List Nat) :
    Row ((((w.alloc (.cells (U L) 47)).alloc (.cells (U M) 47)).alloc (.cells (U Z46) 47)).alloc (.cells (U Z46) 47)) w.heap.size L 47 ∧
    Row ((((w.alloc (.cells (U L) 47)).alloc (.cells (U M) 47)).alloc (.cells (U Z46) 47)).alloc (.cells (U Z46) 47)) (w.heap.size + 1) M 47 ∧
    Row ((((w.alloc (.cells (U L) 47)).alloc (.cells (U M) 47)).alloc (.cells (U Z46) 47)).alloc (.cells (U Z46) 47)) (w.heap.size + 1 + 1) Z46 47 ∧
    Row ((((w.alloc (.cells (U L) 47)).alloc (.cells (U M) 47)).alloc (.cells (U Z46) 47)).alloc (.cells (U Z46) 47)) (w.heap.size + 1 + 1 + 1) Z46 47 ∧
    Below w.heap.size w ((((w.alloc (.cells (U L) 47)).alloc (.cells (U M) 47)).alloc (.cells (U Z46) 47)).alloc (.cells (U Z46) 47)) := by
  obtain ⟨r1, r2, r3, hb⟩ := three_rows w L M
  exact ⟨r1.alloc _, r2.alloc _, r3.alloc _, Row.new' _ _ _ _ (by simp), hb.alloc (by simp; omega) _⟩

/-- A limb written over. -/
theorem lval_set (l : List Nat) : ∀ (i v : Nat), i < l.length → lval (l.set i v) + B ^ i * lg l i = lval l + B ^ i * v := by
  induction l with
  | nil => intro i v h; simp at h
  | cons a l ih =>
    intro i v h
    cases i with
    | zero => simp [lval, lg]; omega
    | succ i =>
      have := ih i v (by simpa using h)
      have e : lg (a :: l) (i + 1) = lg l i := by simp [lg]
      simp only [List.set_cons_succ, lval, e, Nat.pow_succ]
      have h1 : B ^ i * B * lg l i = B * (B ^ i * lg l i) := by rw [Nat.mul_comm (B ^ i) B, Nat.mul_assoc]
      have h2 : B ^ i * B * v = B * (B ^ i * v) := by rw [Nat.mul_comm (B ^ i) B, Nat.mul_assoc]
      rw [h1, h2]
      have h3 : B * (lval (l.set i v) + B ^ i * lg l i) = B * (lval l + B ^ i * v) := by rw [this]
      rw [Nat.mul_add, Nat.mul_add] at h3
      omega
theorem lg_set_ne (l : List Nat) (i j v : Nat) (h : j ≠ i) : lg (l.set i v) j = lg l j := by
  unfold lg
  rw [List.getD_eq_getElem?_getD, List.getD_eq_getElem?_getD, List.getElem?_set_ne (by omega)]
theorem small_set {l : List Nat} (h : Small l) (i v : Nat) (hv : v < B) : Small (l.set i v) := by
  intro x hx
  rcases List.mem_or_eq_of_mem_set hx with hx | rfl
  · exact h x hx
  · exact hv

/-- What is left of L when the quotient's limbs from k on are found. -/
def Left (L M : List Nat) (k : Nat) (Q S : List Nat) : Prop :=
  S.length = 46 ∧ Small S ∧ Q.length = 46 ∧ Small Q ∧ (∀ j, j < k → lg Q j = 0) ∧ lval Q * lval M + lval S = lval L ∧ lval S < B ^ k * lval M

theorem left_start (L M : List Nat) (hL : L.length = 46) (sL : Small L) (sM : Small M) (k : Nat) (h0 : 0 < usedOf M) (hk : usedOf L ≤ k + (usedOf M - 1)) : Left L M k Z46 L := by
  refine ⟨hL, sL, Z46_len, Z46_small, fun j _ => ?_, by rw [Z46_val]; omega, ?_⟩
  · unfold lg Z46; rw [List.getD_eq_getElem?_getD, List.getElem?_replicate]; split <;> rfl
  · have h1 : B ^ (usedOf M - 1) ≤ lval M := by
      rcases Nat.lt_or_ge (lval M) (B ^ (usedOf M - 1)) with h | h
      · have := used_of_lt M _ h; omega
      · exact h
    have h2 := lval_lt_used L _ hk sL
    rw [Nat.pow_add] at h2
    exact Nat.lt_of_lt_of_le h2 (Nat.mul_le_mul_left _ h1)

theorem step_core (s0 T D q M r X : Nat) (h : q * M + r = D) (e : X = s0 + T * D) : T * q * M + (s0 + T * r) = X := by
  subst h e
  rw [Nat.mul_add, Nat.mul_assoc]; omega
theorem step_lt (s0 T r M : Nat) (h0 : s0 < T) (hr : r < M) : s0 + T * r < T * M := by
  have : T * (r + 1) ≤ T * M := Nat.mul_le_mul_left _ hr
  rw [Nat.mul_succ] at this; omega
theorem part_lt (T b M S s0 D : Nat) (h : S < T * b * M) (e : S = s0 + T * D) : D < b * M := by
  have h1 : T * D < T * (b * M) := by rw [← Nat.mul_assoc]; omega
  exact Nat.lt_of_mul_lt_mul_left h1

/-- Of a row whose limbs end at i + n + 1: its part from i on. -/
theorem split_part (S : List Nat) (i n : Nat) (hS : S.length = 46) (hi : i + (n + 1) ≤ 46) (hu : usedOf S ≤ i + (n + 1)) : lval S = lval (S.take i) + B ^ i * lval ((S.drop i).take (n + 1)) := by
  have h1 := lval_split S i
  rw [Nat.min_eq_left (by omega)] at h1
  have h2 := lval_split (S.drop i) (n + 1)
  rw [List.drop_drop, lval_drop_used S _ hu, Nat.mul_zero, Nat.add_zero] at h2
  rw [h1, h2]
theorem Left.part {L M Q S : List Nat} {i n : Nat} (h : Left L M (i + 1) Q S) (hn : usedOf M ≤ n) (sM : Small M) (hi : i + (n + 1) ≤ 46) :
    lval S = lval (S.take i) + B ^ i * lval ((S.drop i).take (n + 1)) ∧ lval ((S.drop i).take (n + 1)) < B * lval M := by
  obtain ⟨hS, sS, hQ, sQ, hz, he, hlt⟩ := h
  have hM := lval_lt_used M n hn sM
  have hu : usedOf S ≤ i + (n + 1) := by
    refine used_of_lt S _ (Nat.lt_of_lt_of_le hlt ?_)
    have e : B ^ (i + (n + 1)) = B ^ (i + 1) * B ^ n := by rw [← Nat.pow_add]; congr 1; omega
    rw [e]; exact Nat.mul_le_mul_left _ (Nat.le_of_lt hM)
  have hs := split_part S i n hS hi hu
  rw [Nat.pow_succ] at hlt
  exact ⟨hs, part_lt _ _ _ _ _ _ hlt hs⟩
theorem Left.next {L M Q S R : List Nat} {i n : Nat} (h : Left L M (i + 1) Q S) (hn : usedOf M ≤ n) (sM : Small M) (hM0 : 0 < lval M) (hi : i + (n + 1) ≤ 46)
    (hR : R.length = n + 1) (sR : Small R) (vR : lval R = lval ((S.drop i).take (n + 1)) % lval M) :
    Left L M i (Q.set i (lval ((S.drop i).take (n + 1)) / lval M)) (mid S i n R) := by
  obtain ⟨hs, hD⟩ := h.part hn sM hi
  obtain ⟨hS, sS, hQ, sQ, hz, he, hlt⟩ := h
  have hq : lval ((S.drop i).take (n + 1)) / lval M < B := (Nat.div_lt_iff_lt_mul hM0).2 hD
  have s0 := lval_lt (S.take i) (sS.take i)
  rw [List.length_take, Nat.min_eq_left (by omega)] at s0
  have hQv := lval_set Q i (lval ((S.drop i).take (n + 1)) / lval M) (by omega)
  rw [hz i (by omega), Nat.mul_zero, Nat.add_zero] at hQv
  have hdm := Nat.div_add_mod' (lval ((S.drop i).take (n + 1))) (lval M)
  have hr := Nat.mod_lt (lval ((S.drop i).take (n + 1))) hM0
  have hz2 : lval (S.drop (i + (n + 1))) = 0 := by
    refine lval_drop_used S _ ?_
    refine used_of_lt S _ (Nat.lt_of_lt_of_le hlt ?_)
    have e : B ^ (i + (n + 1)) = B ^ (i + 1) * B ^ n := by rw [← Nat.pow_add]; congr 1; omega
    rw [e]; exact Nat.mul_le_mul_left _ (Nat.le_of_lt (lval_lt_used M n hn sM))
  have hmv : lval (mid S i n R) = lval (S.take i) + B ^ i * lval R := by
    unfold mid
    rw [lval_append, lval_append, hz2, List.length_take, Nat.min_eq_left (by omega)]; omega
  generalize lval ((S.drop i).take (n + 1)) = D at *
  refine ⟨by rw [mid_length (by omega) hR, hS], mid_small sS sR, by simp [hQ], small_set sQ _ _ hq, fun j hj => by rw [lg_set_ne _ _ _ _ (by omega)]; exact hz j (by omega), ?_, ?_⟩
  · have := step_core (lval (S.take i)) (B ^ i) D (D / lval M) (lval M) (D % lval M) (lval S) hdm hs
    rw [hQv, hmv, vR, Nat.add_mul]; omega
  · rw [hmv, vR]; exact step_lt _ _ _ _ s0 hr
theorem Left.done {L M Q S : List Nat} (h : Left L M 0 Q S) : lval Q = lval L / lval M ∧ lval S = lval L % lval M := by
  obtain ⟨hS, sS, hQ, sQ, hz, he, hlt⟩ := h
  rw [Nat.pow_zero, Nat.one_mul] at hlt
  exact often_end _ _ _ _ he hlt

/-- It returns the two rows of limbs: quotient and rest. -/
def RetD (w : World) (x y : Nat) (e : Ending) (w' : World) : Prop :=
  ∃ Q S, e = .returned (.tuple #[.agg (U Q), .agg (U S)]) ∧ Q.length = 46 ∧ Small Q ∧ S.length = 46 ∧ Small S ∧ lval Q = x / y ∧ lval S = x % y ∧ Below w.heap.size w w'
/-- At place z (the next one): what is found, what is left. -/
def DivInv (w : World) (L M : List Nat) (u n : Nat) (iv : Value) (wr : World) : Prop :=
  ∃ (z : Int) (Q S : List Nat), iv = .int .i64 z ∧ -50 ≤ z ∧ z + n ≤ 23 ∧ Left L M (z + 1).toNat Q S ∧
    Row wr (w.heap.size + 1) M 47 ∧ Row wr (w.heap.size + 1 + 1) Q 47 ∧ Row wr (w.heap.size + 1 + 1 + 1) S 47 ∧ Below w.heap.size w wr

set_option maxHeartbeats 4000000 in
set_option maxRecDepth 100000 in
theorem divided_any (L M : List Nat) (hL : L.length = 46) (hM : M.length = 46) (sL : Small L) (sM : Small M) (hu : usedOf L ≤ 23) (hv : usedOf M ≤ 23) (h0 : 0 < lval M) (w : World) :
    Calls Tryd.prog 37 #[.agg (U L), .agg (U M)] w (RetD w (lval L) (lval M)) := by
  go_enter Tryd.func37, Tryd.ntmps37
  go_upto_region 1 with (fail)
  rw [U_zeros]
  obtain ⟨r1, r2, r3, r4, hb⟩ := four_rows w L M
  generalize (((w.alloc (.cells (U L) 47)).alloc (.cells (U M) 47)).alloc (.cells (U Z46) 47)).alloc (.cells (U Z46) 47) = W at r1 r2 r3 r4 hb ⊢
  have HL := Lib.hid hL
  have HM := Lib.hid hM
  clear hL hM
  go_wp2_with (first | (refine wpList_load_row rfl 47 _ rfl w.heap.size rfl 47 (U L) (0, 0) _ r1 Tryd.underlying47 rfl (by rw [U_size, HL.out]; exact info47) ?_) | (refine wpList_store_row rfl 47 _ _ rfl (w.heap.size + 1 + 1 + 1) (U L) rfl rfl 47 (U Z46) r4 (by rw [U_size, HL.out]; exact info47) (by rw [U_size, U_size, HL.out]; rfl) (U_one L) ?_) | fail)
  have q1 : Row (W.setRow (w.heap.size + 1 + 1 + 1) (U L)) w.heap.size L 47 := r1.other _ (by omega)
  have q2 : Row (W.setRow (w.heap.size + 1 + 1 + 1) (U L)) (w.heap.size + 1) M 47 := r2.other _ (by omega)
  have q3 : Row (W.setRow (w.heap.size + 1 + 1 + 1) (U L)) (w.heap.size + 1 + 1) Z46 47 := r3.other _ (by omega)
  have q4 : Row (W.setRow (w.heap.size + 1 + 1 + 1) (U L)) (w.heap.size + 1 + 1 + 1) L 47 := r4.set L
  have qb : Below w.heap.size w (W.setRow (w.heap.size + 1 + 1 + 1) (U L)) := below_setRow hb _ _ (by omega)
  generalize W.setRow (w.heap.size + 1 + 1 + 1) (U L) = V at q1 q2 q3 q4 qb ⊢
  have Q1 := Lib.hid q1
  have Q2 := Lib.hid q2
  have Q3 := Lib.hid q3
  have Q4 := Lib.hid q4
  have QB := Lib.hid qb
  clear q1 q2 q3 q4 qb r1 r2 r3 r4 hb
  obtain ⟨u, eu⟩ : ∃ u, u = usedOf L := ⟨_, rfl⟩
  obtain ⟨n, en⟩ : ∃ n, n = usedOf M := ⟨_, rfl⟩
  have hn0 : 1 ≤ n := by
    rcases Nat.eq_zero_or_pos n with e | e
    · rw [e] at en; have := (usedOf_zero_iff M).1 en.symm; omega
    · exact e
  have htop : 0 < lg (M.take n) (n - 1) := by
    rw [lg_of_take _ _ _ (by omega), en]
    exact Nat.pos_of_ne_zero (usedOf_top M (by omega))
  have hMv : lval (M.take n) = lval M := by rw [en]; exact lval_used M
  have hMl : (M.take n).length = n := by rw [List.length_take, HM.out]; omega
  rw [← eu] at hu
  rw [← en] at hv
  have EU := Lib.hid eu
  have EN := Lib.hid en
  have HT := Lib.hid htop
  have HMV := Lib.hid hMv
  have HML := Lib.hid hMl
  have H0 := Lib.hid h0
  clear eu en htop hMv hMl h0
  refine (used_any _ 0 M HM.out V (Q2.out.cells 46 (by rw [HM.out]; omega))).mono ?_
  rintro e w' ⟨rfl, rfl⟩
  rw [← EN.out]
  go_wp2_with fail
  refine (window_z _ 0 n _ rfl (by omega) V).mono ?_
  rintro e w' ⟨rfl, rfl⟩
  go_wp2_with fail
  refine (used_any _ 0 L HL.out V (Q1.out.cells 46 (by rw [HL.out]; omega))).mono ?_
  rintro e w' ⟨rfl, rfl⟩
  rw [← EU.out]
  have eun : IntKind.i64.wrap ((u : Int) - n) = (u : Int) - n := IntWalk.i64_in _ (by omega)
  go_wp2_with fail
  clear eun
  go_loopw [7] (fun iv wr => DivInv w L M u n iv wr) (fun iv _ => (intOf iv + 1).toNat)
  case atStart => exact ⟨(u : Int) - n, Z46, L, rfl, by omega, by omega, left_start L M HL.out sL sM _ (by rw [← EN.out]; omega) (by rw [← EU.out, ← EN.out]; omega), Q2.out, Q3.out, Q4.out, QB.out⟩
  case round =>
    obtain ⟨z, Q, S, rfl, hz1, hz2, hleft, r2, r3, r4, rb⟩ := hrel
    have KL := Lib.hid hleft
    have K2 := Lib.hid r2
    have K3 := Lib.hid r3
    have K4 := Lib.hid r4
    have KB := Lib.hid rb
    have S46 := Lib.hid hleft.1
    have Q46 := Lib.hid hleft.2.2.1
    have sS := hleft.2.1
    have sQ := hleft.2.2.2.1
    clear hleft r2 r3 r4 rb
    by_cases hz : 0 ≤ z
    · obtain ⟨i, rfl⟩ := Int.eq_ofNat_of_zero_le hz
      have hi : (((i : Int) + 1).toNat) = i + 1 := by omega
      have KL' := Lib.hid (hi ▸ KL.out)
      have hp := KL'.out.part (n := n) (by rw [← EN.out]; omega) sM (by omega)
      have hlt : (0 : Int) ≤ (i : Int) := by omega
      have hP := Lib.hid hp
      clear hp hz hi KL
      go_wp2_with fail
      refine (window_i (w.heap.size + 1 + 1 + 1) i (n + 1) _ (by omega) (by omega) (by omega) _).mono ?_
      rintro e w' ⟨rfl, rfl⟩
      go_wp2_with fail
      refine (takeOften_any (w.heap.size + 1 + 1 + 1) i n (w.heap.size + 1) n S (M.take n) 47 wr hn0 (by omega) (by omega) S46.out sS (sM.take _) HML.out HT.out K4.out (by omega) _ rfl (by rw [HMV.out]; exact hP.out.2) (fun j hj => ?_)).mono ?_
      · have := K2.out.cells 46 (by rw [HM.out]; omega) j (by omega)
        rw [Nat.zero_add] at this
        rw [lg_of_take _ _ _ hj]; exact this
      rintro e w' ⟨R, m, rfl, hR, sR, vR, hw⟩
      rw [HMV.out] at vR ⊢
      have hnext := KL'.out.next (by rw [← EN.out]; omega) sM H0.out (by omega) hR sR vR
      have a2 : Row w' (w.heap.size + 1) M 47 := by rw [hw]; exact (K2.out.other _ (by omega)).drewN m
      have a3 : Row w' (w.heap.size + 1 + 1) Q 47 := by rw [hw]; exact (K3.out.other _ (by omega)).drewN m
      have a4 : Row w' (w.heap.size + 1 + 1 + 1) (mid S i n R) 47 := by rw [hw]; exact (K4.out.set _).drewN m
      have ab : Below w.heap.size w w' := by rw [hw]; exact below_drewN (below_setRow KB.out _ _ (by omega)) m
      have hf := a3.free i
      have hc := a3.cell i (by rw [Q46.out]; omega)
      obtain ⟨q, hq⟩ : ∃ q, q = lval ((S.drop i).take (n + 1)) / lval M := ⟨_, rfl⟩
      rw [← hq] at hnext ⊢
      have hset : w'.setCell ⟨w.heap.size + 1 + 1, i, none⟩ (.int .u32 q) = w'.setRow (w.heap.size + 1 + 1) (U (Q.set i q)) := a3.setCell i q
      have HS := Lib.hid hset
      have HN := Lib.hid (show DivInv w L M u n (.int .i64 ((i : Int) - 1)) (w'.setRow (w.heap.size + 1 + 1) (U (Q.set i q))) from
        ⟨(i : Int) - 1, Q.set i q, mid S i n R, rfl, by omega, by omega, by rw [show ((i : Int) - 1 + 1).toNat = i by omega]; exact hnext, a2.other _ (by omega), a3.set _, a4.other _ (by omega), below_setRow ab _ _ (by omega)⟩)
      clear hnext a2 a3 a4 ab hq hset hw vR hR hP
      go_wp2_with fail
      rw [HS.out]
      exact ⟨HN.out, by simp [intOf]⟩
    · have hz0 : (z + 1).toNat = 0 := by omega
      have hd := (hz0 ▸ KL.out).done
      have HD := Lib.hid hd
      have hlt : z < 0 := by omega
      clear hd hz hz0 KL
      go_wp2_with fail
      have hi1 : (Tryd.prog.info? 47).map (·.size) = some (Uc Q).length := by rw [Uc_len, Q46.out]; exact info47
      have hi2 : (Tryd.prog.info? 47).map (·.size) = some (Uc S).length := by rw [Uc_len, S46.out]; exact info47
      have hu47 := Tryd.underlying47
      refine wp_region_noPanic ?_
      refine wp_region_held_drew (S := fun w' => Row w' (w.heap.size + 1 + 1) Q 47 ∧ Row w' (w.heap.size + 1 + 1 + 1) S 47 ∧ Below w.heap.size w w') (by kernel_rfl) (⟨K3.out, K4.out, Below.drew KB.out⟩) (fun hHeld => ?_)
      refine wpAnyH_take (i := 0) rfl (by kernel_rfl) (by kernel_rfl) (by kernel_rfl) (fun _ _ _ h => h) (yieldsIf_load_mid (by rfl) _ _ rfl _ _ rfl _ _ (fun w' hw' => hw'.1.range) hu47 rfl hi1) hHeld ?_
      simp only [Act.put, List.setIfInBounds_toArray, List.set_cons_zero, List.set_cons_succ]
      refine wpAnyH_take (i := 1) rfl (by kernel_rfl) (by kernel_rfl) (by kernel_rfl) (fun _ _ _ h => h) (yieldsIf_load_mid (by rfl) _ _ rfl _ _ rfl _ _ (fun w' hw' => hw'.2.1.range) hu47 rfl hi2) hHeld ?_
      simp only [Act.put, List.setIfInBounds_toArray, List.set_cons_zero, List.set_cons_succ]
      refine wpAnyH_ready (rs := [2]) (by kernel_rfl) (by simp) ?_
      refine AllReadyH.cons rfl (fun K hK => ?_) AllReadyH.nil
      rw [if_pos (by rfl)]
      refine wp_store_row 47 _ _ rfl (w.heap.size + 1 + 1) (U Q) rfl rfl 47 (U Q) hHeld.1 (by rw [U_size, Q46.out]; exact info47) rfl (U_one Q) ?_
      rw [Row.self hHeld.1]
      refine hK.out _ _ hHeld (fun hHeld => ?_)
      clear hK K
      simp only [List.getElem_toArray, List.getElem_cons_succ, List.getElem_cons_zero, Act.put, List.setIfInBounds_toArray, List.set_cons_zero, List.set_cons_succ]
      refine wpAnyH_ready (rs := [3]) (by kernel_rfl) (by simp) ?_
      refine AllReadyH.cons rfl (fun K hK => ?_) AllReadyH.nil
      rw [if_pos (by rfl)]
      refine wp_store_row 47 _ _ rfl (w.heap.size + 1 + 1 + 1) (U S) rfl rfl 47 (U S) hHeld.2.1 (by rw [U_size, S46.out]; exact info47) rfl (U_one S) ?_
      rw [Row.self hHeld.2.1]
      refine hK.out _ _ hHeld (fun hHeld => ?_)
      clear hK K
      simp only [List.getElem_toArray, List.getElem_cons_succ, List.getElem_cons_zero, Act.put, List.setIfInBounds_toArray, List.set_cons_zero, List.set_cons_succ]
      refine wpAnyH_done (by kernel_rfl) ?_ _
      refine NoPanic.normal ?_
      have G := Lib.hid hHeld
      clear hHeld hi1 hi2 hu47
      go_wp2
      refine bodyPost_ret (results_two_rows rfl _ _ (w.heap.size + 1 + 1) (w.heap.size + 1 + 1 + 1) 47 47 (U Q) (U S) (0, 0) (0, 0) _ _ rfl rfl G.out.1 G.out.2.1 Tryd.underlying47 rfl (by rw [U_size, Q46.out]; exact info47) Tryd.underlying47 rfl (by rw [U_size, S46.out]; exact info47)) rfl ?_
      exact ⟨Q, S, rfl, Q46.out, sQ, S46.out, sS, HD.out.1, HD.out.2, G.out.2.2⟩
end Go.Proofs.YtebadokchhnmfaaDoor
