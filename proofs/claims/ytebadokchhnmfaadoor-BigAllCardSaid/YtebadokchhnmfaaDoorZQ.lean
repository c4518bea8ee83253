/- The document's digits: rows of digits, the lowest first; trim. -/
import Derived.Test.YtebadokchhnmfaaDoorA
import Derived.Laws.AppendOwn
import Derived.Laws.MakeOwn
import Derived.Laws.BytesArg
import Derived.Test.YtebadokchhnmfaaDoorV0
import Derived.Deep.RegionHeld3
import Derived.Deep.Cut
import Derived.Deep.Draws
import Derived.Laws.Externs
import Derived.Deep.AppendSrc
import Derived.Laws.Rows
import Derived.Test.YtebadokchhnmfaaDoorJ5
import Derived.Lib.Builder
import Derived.Test.YtebadokchhnmfaaDoorK1
import Derived.Test.YtebadokchhnmfaaDoorU2
namespace Go.Proofs.YtebadokchhnmfaaDoor
open Go.RowKit Go.BigM
set_option linter.unusedVariables false
set_option linter.unusedSimpArgs false
/-- The number of a row of digits, the lowest first. -/
def nval : List Nat → Nat
  | [] => 0
  | a :: l => a + 10 * nval l
/-- Digits. -/
def Tens (l : List Nat) : Prop := ∀ a ∈ l, a < 10
theorem Tens.tail {a : Nat} {l : List Nat} (h : Tens (a :: l)) : Tens l := fun x hx => h x (by simp [hx])
theorem Tens.take {l : List Nat} (h : Tens l) (n : Nat) : Tens (l.take n) := fun x hx => h x (List.mem_of_mem_take hx)
theorem nval_append : ∀ (l m : List Nat), nval (l ++ m) = nval l + 10 ^ l.length * nval m
  | [], m => by simp [nval]
  | a :: l, m => by
    simp only [List.cons_append, nval, nval_append l m, List.length_cons, Nat.pow_succ]
    rw [Nat.mul_add, Nat.mul_comm (10 ^ l.length) 10, Nat.mul_assoc]; omega
theorem nval_snoc (l : List Nat) (a : Nat) : nval (l ++ [a]) = nval l + 10 ^ l.length * a := by rw [nval_append]; simp [nval]
theorem nval_lt : ∀ (l : List Nat), Tens l → nval l < 10 ^ l.length
  | [], _ => by simp [nval]
  | a :: l, h => by
    have h1 := nval_lt l h.tail
    have h2 := h a (by simp)
    simp only [nval, List.length_cons, Nat.pow_succ]; omega
theorem nval_zeros : ∀ (n : Nat), nval (List.replicate n 0) = 0
  | 0 => rfl
  | n + 1 => by rw [List.replicate_succ]; simp [nval, nval_zeros n]
theorem usedOf_cons (a : Nat) (l : List Nat) : usedOf (a :: l) = if usedOf l = 0 then (if a = 0 then 0 else 1) else usedOf l + 1 := rfl
theorem nval_zero : ∀ (l : List Nat), usedOf l = 0 → nval l = 0
  | [], _ => rfl
  | a :: l, h => by
    rw [usedOf_cons] at h
    split at h
    · rename_i h1
      split at h
      · rename_i h2
        simp [nval, h2, nval_zero l h1]
      · omega
    · omega
theorem nval_used : ∀ (l : List Nat), nval (l.take (usedOf l)) = nval l
  | [] => rfl
  | a :: l => by
    have ih := nval_used l
    rw [usedOf_cons]
    split
    · rename_i h
      have h0 := nval_zero l h
      split
      · rename_i h2; simp [nval, h2, h0]
      · simp [nval, h0]
    · simp only [List.take_succ_cons, nval, ih]
/-- A slice that reads as these digits. -/
def IsL (w : World) (v : Value) (L : List Nat) : Prop :=
  ∃ ao cap, v = .slice ao L.length cap ∧ L.length ≤ cap ∧ cap ≤ maxLen ∧ (L = [] ∨ ∃ g, ao = some ⟨g, 0, none⟩ ∧ ∀ i (h : i < L.length), w.cell? ⟨g, i, none⟩ = some (.int .i64 (L[i] : Nat)))
theorem IsL.below {w w' : World} {v : Value} {L : List Nat} (h : IsL w v L) (hb : Below w.heap.size w w') : IsL w' v L := by
  obtain ⟨ao, cap, rfl, h1, h2, h3⟩ := h
  refine ⟨ao, cap, rfl, h1, h2, ?_⟩
  rcases h3 with h | ⟨g, rfl, h⟩
  · exact .inl h
  · exact .inr ⟨g, rfl, fun i hi => by rw [hb.cell (World.block_lt_of_cell? w _ (h i hi))]; exact h i hi⟩
theorem IsL.take {w : World} {g n cap : Nat} {L : List Nat} (h : IsL w (.slice (some ⟨g, 0, none⟩) n cap) L) (k : Nat) (hk : k ≤ L.length) : IsL w (.slice (some ⟨g, 0, none⟩) k cap) (L.take k) := by
  obtain ⟨ao, cap', e, h1, h2, h3⟩ := h
  injection e with e1 e2 e3
  subst e1 e2 e3
  have hl : (L.take k).length = k := by rw [List.length_take]; omega
  refine ⟨_, _, by rw [hl], by omega, h2, ?_⟩
  rcases h3 with rfl | ⟨g', e, h⟩
  · exact .inl (by simp)
  · injection e with e
    injection e with e _ _
    subst e
    exact .inr ⟨_, rfl, fun i hi => by rw [h i (by omega), List.getElem_take]⟩
def TmInv (L : List Nat) (ao : Option Addr) (cap : Nat) (w : World) (v : Value) (wr : World) : Prop := ∃ k, usedOf L ≤ k ∧ k ≤ L.length ∧ v = .slice ao k cap ∧ wr = w
set_option maxHeartbeats 1000000 in
set_option maxRecDepth 100000 in
theorem trim_any (L : List Nat) (v : Value) (w : World) (h : IsL w v L) (hn : L.length ≤ 100000) : Calls Tryd.prog 38 #[v] w fun e w' => (∃ u, e = .returned u ∧ IsL w u (L.take (usedOf L))) ∧ w = w' := by
  have H := Lib.hid h
  obtain ⟨ao, cap, rfl, h1, h2, h3⟩ := h
  have hcm : cap ≤ 9223372036854775807 := by unfold maxLen at h2; omega
  clear h2
  go_enter Tryd.func38, Tryd.ntmps38
  go_wp2_with fail
  go_loopw [0] (fun v wr => TmInv L ao cap w v wr) (fun v _ => match v with | .slice _ n _ => n | _ => 0)
  case atStart => exact ⟨L.length, usedOf_le L, Nat.le_refl _, rfl, rfl⟩
  case round =>
    obtain ⟨k, hk1, hk2, rfl, rfl⟩ := hrel
    have HR : Hid ((∃ u, Ending.returned (.slice ao k cap) = .returned u ∧ IsL wr u (L.take k)) ) := by
      show _
      refine ⟨_, rfl, ?_⟩
      rcases h3 with rfl | ⟨g, rfl, h3⟩
      · obtain rfl : k = 0 := by simpa using hk2
        exact H.out
      · exact H.out.take k hk2
    cases k with
    | zero =>
      have hu : usedOf L = 0 := by omega
      have HU := Lib.hid hu
      clear hu hk1
      go_wp2_with fail
      go_ret
      rw [HU.out]
      exact ⟨HR.out, rfl⟩
    | succ m =>
      rcases h3 with rfl | ⟨g, rfl, h3⟩
      · simp at hk2
      have hc := h3 m (by omega)
      have e1 : (((m + 1 : Nat) : Int) - 1) = (m : Int) := by omega
      have hmc : m + 1 ≤ cap := by omega
      have hgl : L.getD m 0 = L[m] := by rw [List.getD_eq_getElem?_getD, List.getElem?_eq_getElem (by omega)]; rfl
      obtain ⟨n, hmn⟩ : ∃ n, n = m + 1 := ⟨_, rfl⟩
      rw [← hmn] at e1 HR hmc
      simp only [← hmn]
      have hn0 : decide ((0 : Int) < (n : Int)) = true := decide_eq_true (by omega)
      have hmn2 : m < n := by omega
      have hmc2 : m ≤ cap := by omega
      have hnl : n ≤ 100000 := by omega
      by_cases h0 : L[m] = 0
      · rw [h0] at hc
        have hu : usedOf L ≤ m := by
          rcases Nat.lt_or_ge m (usedOf L) with h | h
          · have := usedOf_top L (by omega)
            rw [show usedOf L - 1 = m by omega, hgl] at this
            exact absurd h0 this
          · exact h
        have HU := Lib.hid hu
        clear HR h3 hgl hmn hk1 hu
        go_wp2_with fail
        go_roundw
        case rel => exact ⟨m, HU.out, by omega, rfl, rfl⟩
        case measure => omega
      · have hu : usedOf L = n := by
          rcases Nat.lt_or_ge m (usedOf L) with h | h
          · omega
          · have := usedOf_zero L m h
            rw [hgl] at this
            exact absurd this h0
        obtain ⟨x, hx⟩ : ∃ x, x = L[m] := ⟨_, rfl⟩
        rw [← hx] at hc h0
        have hx0 : ((x : Int) == 0) = false := by rw [beq_eq_false_iff_ne]; omega
        have HU := Lib.hid hu
        clear h3 hgl hmn hk1 hx hu
        go_wp2_with fail
        go_ret
        rw [HU.out]
        exact ⟨HR.out, rfl⟩
end Go.Proofs.YtebadokchhnmfaaDoor
/- The document's digits of a text. -/
namespace Go.Proofs.YtebadokchhnmfaaDoor
open Go.RowKit Go.BigM
set_option linter.unusedVariables false
set_option linter.unusedSimpArgs false
/-- Rows of numbers, of bytes, that a call owns. -/
def OwnI (B : Nat) (w : World) (v : Value) (L : List Nat) : Prop := w.ownsRow B 3 1 v L.length (L.map fun (a : Nat) => Value.int .i64 (a : Int))
def OwnB (B : Nat) (w : World) (v : Value) (D : List UInt8) : Prop := w.ownsRow B 5 1 v D.length (D.map fun (c : UInt8) => Value.int .u8 (c.toNat : Int))
theorem OwnI.nil (B : Nat) (w : World) : OwnI B w (.slice none 0 0) [] := ⟨rfl, .inl ⟨rfl, rfl⟩⟩
theorem OwnB.nil (B : Nat) (w : World) : OwnB B w (.slice none 0 0) [] := ⟨rfl, .inl ⟨rfl, rfl⟩⟩
theorem OwnI.isL {B : Nat} {w : World} {v : Value} {L : List Nat} (h : OwnI B w v L) : IsL w v L := by
  obtain ⟨h0, h⟩ := h
  rcases h with ⟨rfl, hz⟩ | ⟨g, cap, cur, rfl, hb, hh, h1, h2, h3, h4⟩
  · have : L = [] := List.length_eq_zero_iff.1 hz
    subst this
    exact ⟨none, 0, rfl, Nat.le_refl _, Nat.zero_le _, .inl rfl⟩
  · refine ⟨_, cap, rfl, h1, h2, .inr ⟨g, rfl, fun i hi => ?_⟩⟩
    rw [cell_of_row w g i _ _ _ hh]
    have h5 : (cur.toList.take (L.length * 1))[i]? = (L.map fun (a : Nat) => Value.int .i64 (a : Int))[i]? := by rw [h4]
    rw [List.getElem?_take, if_pos (by omega), List.getElem?_map, List.getElem?_eq_getElem hi] at h5
    simpa using h5
theorem info_of {t : TypeId} {z : Value} {s b : Nat} (h : (Tryd.prog.info? t).map (fun i => (i.zero, i.size, i.bytes)) = some (some z, s, b)) : ∃ i, Tryd.prog.info? t = some i ∧ i.zero = some z ∧ i.size = s ∧ i.bytes = b := by
  cases hi : Tryd.prog.info? t with
  | none => rw [hi] at h; simp at h
  | some i => rw [hi] at h; simp at h; exact ⟨i, rfl, h.1, h.2.1, h.2.2⟩
theorem infoI3 : (Tryd.prog.info? 3).map (fun i => (i.zero, i.size, i.bytes)) = some (some (.int .i64 0), 1, 8) := by kernel_rfl
theorem infoB5 : (Tryd.prog.info? 5).map (fun i => (i.zero, i.size, i.bytes)) = some (some (.int .u8 0), 1, 1) := by kernel_rfl
theorem wp_appI1 {o : Oper} {a : Act} {w : World} {K : Act → World → Prop} {Q : Exit → Act → World → Prop} (s x : Operand)
    (ho : o.op = .call { callee := .builtin .append, args := #[s, x], argTypes := #[22, 22] }) (B : Nat) (v : Value) (L : List Nat) (hs : a.eval s = v) (hown : OwnI B w v L)
    (g0 : Nat) (hx : a.eval x = .slice (some ⟨g0, 0, none⟩) 1 1) (d : Nat) (hc : w.cell? ⟨g0, 0, none⟩ = some (.int .i64 (d : Int))) (hb : L.length ≤ 100000) (hB : B ≤ w.heap.size)
    (h : ∀ v' w', OwnI B w' v' (L ++ [d]) → w.grownBy w' v.ownBlock → K (a.put o.dst v') w') : o.wp Tryd.prog a w K Q := by
  obtain ⟨i, hi, hz, hsz, hby⟩ := info_of infoI3
  refine wp_append_own w s x 22 ho B 3 i (.int .i64 0) 1 8 Tryd.underlying22 hi hz hsz hby rfl (by decide) v L.length _ hs hown ⟨g0, 0, none⟩ 1 1 [.int .i64 (d : Int)] hx rfl (fun j u hu => ?_) (fun u hu => ?_) (by unfold maxLen; omega) (by omega) hB ?_
  · have hj : j = 0 := by
      rcases j with _ | j
      · rfl
      · simp at hu
    subst hj
    simp at hu
    subst hu
    exact hc
  · simp at hu; subst hu; rfl
  · intro v' w' h2 h3 _
    refine h v' w' ?_ h3
    unfold OwnI
    rw [List.map_append, List.length_append]; exact h2
theorem wp_appB1 {o : Oper} {a : Act} {w : World} {K : Act → World → Prop} {Q : Exit → Act → World → Prop} (s x : Operand)
    (ho : o.op = .call { callee := .builtin .append, args := #[s, x], argTypes := #[25, 25] }) (B : Nat) (v : Value) (D : List UInt8) (hs : a.eval s = v) (hown : OwnB B w v D)
    (g0 : Nat) (hx : a.eval x = .slice (some ⟨g0, 0, none⟩) 1 1) (c : UInt8) (hc : w.cell? ⟨g0, 0, none⟩ = some (.int .u8 (c.toNat : Int))) (hb : D.length ≤ 100000) (hB : B ≤ w.heap.size)
    (h : ∀ v' w', OwnB B w' v' (D ++ [c]) → w.grownBy w' v.ownBlock → K (a.put o.dst v') w') : o.wp Tryd.prog a w K Q := by
  obtain ⟨i, hi, hz, hsz, hby⟩ := info_of infoB5
  refine wp_append_own w s x 25 ho B 5 i (.int .u8 0) 1 1 Tryd.underlying25 hi hz hsz hby rfl (by decide) v D.length _ hs hown ⟨g0, 0, none⟩ 1 1 [.int .u8 (c.toNat : Int)] hx rfl (fun j u hu => ?_) (fun u hu => ?_) (by unfold maxLen; omega) (by omega) hB ?_
  · have hj : j = 0 := by
      rcases j with _ | j
      · rfl
      · simp at hu
    subst hj
    simp at hu
    subst hu
    exact hc
  · simp at hu; subst hu; rfl
  · intro v' w' h2 h3 _
    refine h v' w' ?_ h3
    unfold OwnB
    rw [List.map_append, List.length_append]; exact h2
section
variable {P : Program} {ops : Array Oper} {Q : Exit → Act → World → Prop} {a : Act} {w : World} {rest : List Oper} {o : Oper}
theorem wpList_wantedR (hw : Region.wanted o (yielded ops a.tmps) = true) (h : ∀ K : Act → World → Prop, (∀ a w, wpList P ops Q rest a w → K a w) → o.wp P a w K Q) : wpList P ops Q (o :: rest) a w :=
  wpList_step fun K hK => by rw [if_pos hw]; exact h K hK
end
/-- The digits of a text, the lowest first; without noughts on top. -/
def rdg (l : List UInt8) : List Nat := l.reverse.map fun c => c.toNat - 48
def dgs (l : List UInt8) : List Nat := (rdg (strip l)).take (usedOf (rdg (strip l)))
theorem nval_rdg (l : List UInt8) : nval (rdg l) = dval l := by
  have key : ∀ (m : List UInt8), nval (m.map fun c => c.toNat - 48) = dval m.reverse := by
    intro m
    induction m with
    | nil => rfl
    | cons c m ih => rw [List.reverse_cons, dval_snoc]; simp only [List.map_cons, nval, ih]; omega
  unfold rdg
  rw [key, List.reverse_reverse]
theorem nval_dgs (l : List UInt8) : nval (dgs l) = dval (strip l) := by unfold dgs; rw [nval_used, nval_rdg]
theorem tens_rdg {l : List UInt8} (h : ∀ c ∈ l, isD c) : Tens (rdg l) := by
  intro a ha
  unfold rdg at ha
  obtain ⟨c, hc, rfl⟩ := List.mem_map.1 ha
  have := h c (List.mem_reverse.1 hc)
  unfold isD at this
  omega
theorem dgs_len (l : List UInt8) : (dgs l).length ≤ (strip l).length := by
  unfold dgs rdg; rw [List.length_take]; simp; omega
/-- The loop of digits. -/
def DgInv (t : List UInt8) (w : World) (v iv : Value) (wr : World) : Prop :=
  ∃ k, k ≤ t.length ∧ iv = .int .i64 (k : Int) ∧ OwnI w.heap.size wr v (rdg (t.drop k)) ∧ Below w.heap.size w wr
def RetDg (l : List UInt8) (w : World) (e : Ending) (w' : World) : Prop := ∃ u, e = .returned (.tuple #[u, .bool (low l)]) ∧ IsL w' u (dgs l) ∧ Below w.heap.size w w'
theorem dg_step {t : List UInt8} {w wr w2 : World} {v v' : Value} {m : Nat} {c : UInt8} (hm : m < t.length) (hc : t[m]? = some c) (hb : Below w.heap.size w wr)
    (hown : OwnI w.heap.size wr v (rdg (t.drop (m + 1)))) (d : Nat) (hd : d = c.toNat - 48)
    (h2 : OwnI w.heap.size w2 v' (rdg (t.drop (m + 1)) ++ [d])) (hg : (wr.alloc (.cells #[.int .i64 (d : Int)] 3)).grownBy w2 v.ownBlock) : DgInv t w v' (.int .i64 (m : Int)) w2 := by
  have hs := hb.size
  refine ⟨m, by omega, rfl, ?_, ?_⟩
  · have e : t.drop m = c :: t.drop (m + 1) := by
      rw [List.drop_eq_getElem_cons hm]
      rw [List.getElem?_eq_getElem hm] at hc
      injection hc with hc
      rw [hc]
    have e2 : rdg (t.drop m) = rdg (t.drop (m + 1)) ++ [d] := by rw [e, hd]; simp [rdg]
    rw [e2]; exact h2
  · exact (hb.alloc hs _).grown hg (by simp; omega) (fun k hk => (hown.lt k hk).1)
theorem canon_strip {l : List UInt8} (h : Canon l) : ∀ c ∈ strip l, isD c := h.2.2.1
set_option maxHeartbeats 4000000 in
set_option maxRecDepth 100000 in
theorem rdigits_any (s : ByteArray) (hs : Canon s.data.toList) (w : World) : Calls Tryd.prog 33 #[.string s] w (RetDg s.data.toList w) := by
  obtain ⟨T, hT⟩ : ∃ T : ByteArray, T = if low s.data.toList then s.extract 1 s.size else s := ⟨_, rfl⟩
  have hTl : T.data.toList = strip s.data.toList := by
    rw [hT]
    split
    · rename_i h
      rw [strip_low _ h, Lib.extract_data, List.take_of_length_le, List.drop_one]
      rw [List.length_drop, ← Lib.size_eq]; omega
    · rename_i h
      rw [strip_high _ (by simpa using h)]
  have hsz : s.size ≤ 201 := by
    have h1 := hs.2.1
    have h2 : s.data.toList.length ≤ (strip s.data.toList).length + 1 := by unfold strip; split <;> simp <;> omega
    rw [Lib.size_eq]; omega
  have hTn : 1 ≤ T.size ∧ T.size ≤ 200 := by rw [Lib.size_eq, hTl]; exact ⟨hs.1, hs.2.1⟩
  have h1 : 0 < s.size := by rw [Lib.size_eq]; have := strip_le s.data.toList; have := hs.1; omega
  have hD : ∀ c ∈ T.data.toList, isD c := by rw [hTl]; exact hs.2.2.1
  have h0 : ((s[0].toNat : Int) == 45) = low s.data.toList := by
    have e : s.data.toList[0]? = some s[0] := by
      rw [List.getElem?_eq_getElem (by rw [← Lib.size_eq]; exact h1)]; simp; rfl
    unfold low
    rw [List.head?_eq_getElem?, e]
    rw [Bool.eq_iff_iff, beq_iff_eq, beq_iff_eq]
    constructor
    · intro h
      have : s[0] = 45 := UInt8.toNat_inj.1 (by have : (45 : UInt8).toNat = 45 := rfl; omega)
      rw [this]
    · intro h
      injection h with h
      rw [h]; rfl
  have HTL := Lib.hid hTl
  have HD := Lib.hid hD
  obtain ⟨b, hb⟩ : ∃ b, b = low s.data.toList := ⟨_, rfl⟩
  rw [← hb] at h0 hT
  have HBL := Lib.hid hb
  clear hTl hD hb hs
  go_enter Tryd.func33, Tryd.ntmps33
  cases b with
  | true =>
    simp only [if_true] at hT
    have hT2 := hT.symm
    clear hT
    go_wp2_with fail
    go_loopw [5, 6] (fun v iv wr => DgInv T.data.toList w v iv wr) (fun _ iv _ => (intOf iv).toNat)
    case atStart => exact ⟨T.data.toList.length, Nat.le_refl _, by rw [← Lib.size_eq], by rw [List.drop_length]; exact OwnI.nil _ _, Below.refl _ _⟩
    case round =>
      obtain ⟨k, hk, rfl, hown, hb⟩ := hrel
      rw [← Lib.size_eq] at hk
      have HO := Lib.hid hown
      have HB := Lib.hid hb
      clear hown hb
      cases k with
      | zero =>
        have hl0 := HO.out
        rw [List.drop_zero] at hl0
        have hlen : (rdg T.data.toList).length ≤ 100000 := by unfold rdg; rw [List.length_map, List.length_reverse, ← Lib.size_eq]; omega
        have FT := Lib.hid (trim_any (rdg T.data.toList) _ wr hl0.isL hlen)
        clear hl0 hlen
        go_wp2_with fail
        refine FT.out.mono ?_
        rintro e w2 ⟨⟨u, rfl, hu⟩, rfl⟩
        have HU := Lib.hid hu
        have hne : dgs s.data.toList = (rdg T.data.toList).take (usedOf (rdg T.data.toList)) := by unfold dgs; rw [← HTL.out]
        have HNE := Lib.hid hne
        clear hu hne
        go_wp2_with fail
        go_ret2
        refine ⟨u, by rw [← HBL.out]; rfl, ?_, HB.out⟩
        rw [HNE.out]; exact HU.out
      | succ m =>
        have hm : m < T.size := by omega
        obtain ⟨c, hc⟩ : ∃ c, T[m] = c := ⟨_, rfl⟩
        have hct : T.data.toList[m]? = some c := by
          rw [List.getElem?_eq_getElem (by rw [← Lib.size_eq]; exact hm)]
          rw [← hc]; simp; rfl
        have hcd : isD c := HD.out c (List.mem_of_getElem? hct)
        unfold isD at hcd
        obtain ⟨d, hd⟩ : ∃ d, d = c.toNat - 48 := ⟨_, rfl⟩
        have hdi : ((c.toNat : Int) - 48) = (d : Int) := by omega
        have hd10 : d < 10 := by omega
        have e1 : (((m + 1 : Nat) : Int) - 1) = (m : Int) := by omega
        obtain ⟨n, hmn⟩ : ∃ n, n = m + 1 := ⟨_, rfl⟩
        rw [← hmn] at e1 HO
        simp only [← hmn]
        have hn0 : decide ((0 : Int) < (n : Int)) = true := decide_eq_true (by omega)
        have hn300 : n ≤ 300 := by omega
        have HA := Lib.hid (show OwnI w.heap.size (wr.alloc (.cells #[.int .i64 (d : Int)] 3)) u5 (rdg (T.data.toList.drop n)) from World.ownsRow.alloc HO.out _)
        have hlen : (rdg (T.data.toList.drop n)).length ≤ 100000 := by unfold rdg; rw [List.length_map, List.length_reverse, List.length_drop, ← Lib.size_eq]; omega
        have HST := Lib.hid (fun v' w2 h2 hg => dg_step (w2 := w2) (v' := v') (by rw [← Lib.size_eq]; exact hm) hct HB.out (by rw [← hmn]; exact HO.out) d hd (by rw [← hmn]; exact h2) hg)
        have hcl : (wr.alloc (.cells #[.int .i64 (d : Int)] 3)).cell? ⟨wr.heap.size, 0, none⟩ = some (.int .i64 (d : Int)) := by rw [cell_of_row _ _ _ _ _ _ (heap_alloc_new wr (.cells #[.int .i64 (d : Int)] 3))]; rfl
        have hsz2 : w.heap.size ≤ (wr.alloc (.cells #[.int .i64 (d : Int)] 3)).heap.size := by have := HB.out.size; simp; omega
        clear hct hd hmn
        go_wp2_with (refine wpList_wantedR (by rfl) fun K hK => ?_; refine wp_appI1 (Operand.tmp 19) (Operand.tmp 26) rfl w.heap.size u5 _ rfl HA.out wr.heap.size rfl d hcl hlen hsz2 ?_; intro v' w9 hown9 hg9; have HM := Lib.hid (HST.out v' w9 hown9 hg9); clear hown9 hg9 HST HA; refine hK _ _ ?_; clear hK K)
        go_roundw
        case rel => exact HM.out
        case measure => simp [intOf]; omega
  | false =>
    simp only [Bool.false_eq_true, if_false] at hT
    have hT2 := hT.symm
    clear hT
    subst hT2
    go_wp2_with fail
    go_loopw [5, 6] (fun v iv wr => DgInv s.data.toList w v iv wr) (fun _ iv _ => (intOf iv).toNat)
    case atStart => exact ⟨s.data.toList.length, Nat.le_refl _, by rw [← Lib.size_eq], by rw [List.drop_length]; exact OwnI.nil _ _, Below.refl _ _⟩
    case round =>
      obtain ⟨k, hk, rfl, hown, hb⟩ := hrel
      rw [← Lib.size_eq] at hk
      have HO := Lib.hid hown
      have HB := Lib.hid hb
      clear hown hb
      cases k with
      | zero =>
        have hl0 := HO.out
        rw [List.drop_zero] at hl0
        have hlen : (rdg s.data.toList).length ≤ 100000 := by unfold rdg; rw [List.length_map, List.length_reverse, ← Lib.size_eq]; omega
        have FT := Lib.hid (trim_any (rdg s.data.toList) _ wr hl0.isL hlen)
        clear hl0 hlen
        go_wp2_with fail
        refine FT.out.mono ?_
        rintro e w2 ⟨⟨u, rfl, hu⟩, rfl⟩
        have HU := Lib.hid hu
        have hne : dgs s.data.toList = (rdg s.data.toList).take (usedOf (rdg s.data.toList)) := by unfold dgs; rw [← HTL.out]
        have HNE := Lib.hid hne
        clear hu hne
        go_wp2_with fail
        go_ret2
        refine ⟨u, by rw [← HBL.out]; rfl, ?_, HB.out⟩
        rw [HNE.out]; exact HU.out
      | succ m =>
        have hm : m < s.size := by omega
        obtain ⟨c, hc⟩ : ∃ c, s[m] = c := ⟨_, rfl⟩
        have hct : s.data.toList[m]? = some c := by
          rw [List.getElem?_eq_getElem (by rw [← Lib.size_eq]; exact hm)]
          rw [← hc]; simp; rfl
        have hcd : isD c := HD.out c (List.mem_of_getElem? hct)
        unfold isD at hcd
        obtain ⟨d, hd⟩ : ∃ d, d = c.toNat - 48 := ⟨_, rfl⟩
        have hdi : ((c.toNat : Int) - 48) = (d : Int) := by omega
        have hd10 : d < 10 := by omega
        have e1 : (((m + 1 : Nat) : Int) - 1) = (m : Int) := by omega
        obtain ⟨n, hmn⟩ : ∃ n, n = m + 1 := ⟨_, rfl⟩
        rw [← hmn] at e1 HO
        simp only [← hmn]
        have hn0 : decide ((0 : Int) < (n : Int)) = true := decide_eq_true (by omega)
        have hn300 : n ≤ 300 := by omega
        have HA := Lib.hid (show OwnI w.heap.size (wr.alloc (.cells #[.int .i64 (d : Int)] 3)) u5 (rdg (s.data.toList.drop n)) from World.ownsRow.alloc HO.out _)
        have hlen : (rdg (s.data.toList.drop n)).length ≤ 100000 := by unfold rdg; rw [List.length_map, List.length_reverse, List.length_drop, ← Lib.size_eq]; omega
        have HST := Lib.hid (fun v' w2 h2 hg => dg_step (w2 := w2) (v' := v') (by rw [← Lib.size_eq]; exact hm) hct HB.out (by rw [← hmn]; exact HO.out) d hd (by rw [← hmn]; exact h2) hg)
        have hcl : (wr.alloc (.cells #[.int .i64 (d : Int)] 3)).cell? ⟨wr.heap.size, 0, none⟩ = some (.int .i64 (d : Int)) := by rw [cell_of_row _ _ _ _ _ _ (heap_alloc_new wr (.cells #[.int .i64 (d : Int)] 3))]; rfl
        have hsz2 : w.heap.size ≤ (wr.alloc (.cells #[.int .i64 (d : Int)] 3)).heap.size := by have := HB.out.size; simp; omega
        clear hct hd hmn
        go_wp2_with (refine wpList_wantedR (by rfl) fun K hK => ?_; refine wp_appI1 (Operand.tmp 19) (Operand.tmp 26) rfl w.heap.size u5 _ rfl HA.out wr.heap.size rfl d hcl hlen hsz2 ?_; intro v' w9 hown9 hg9; have HM := Lib.hid (HST.out v' w9 hown9 hg9); clear hown9 hg9 HST HA; refine hK _ _ ?_; clear hK K)
        go_roundw
        case rel => exact HM.out
        case measure => simp [intOf]; omega
end Go.Proofs.YtebadokchhnmfaaDoor
/- The document's text of digits. -/
namespace Go.Proofs.YtebadokchhnmfaaDoor
open Go.RowKit Go.BigM
set_option linter.unusedVariables false
set_option linter.unusedSimpArgs false
def chr (a : Nat) : UInt8 := UInt8.ofNat (48 + a)
/-- No nought on top. -/
def Top (L : List Nat) : Prop := L = [] ∨ L.getD (L.length - 1) 0 ≠ 0
theorem top_used (L : List Nat) : Top (L.take (usedOf L)) := by
  by_cases h : usedOf L = 0
  · rw [h]; exact .inl rfl
  · right
    have h1 := usedOf_top L h
    have h2 := usedOf_le L
    rw [List.length_take, Nat.min_eq_left h2, List.getD_eq_getElem?_getD, List.getElem?_take, if_pos (by omega), ← List.getD_eq_getElem?_getD]
    exact h1
theorem digs_nval : ∀ (L : List Nat), Tens L → Top L → (L.reverse.map chr) = digs (nval L)
  | [], _, _ => by simp [nval, digs_zero]
  | a :: l, h, ht => by
    have ha := h a (by simp)
    have htl : Top l := by
      cases l with
      | nil => exact .inl rfl
      | cons b m =>
        rcases ht with ht | ht
        · cases ht
        · right
          simpa using ht
    have ih := digs_nval l h.tail htl
    have hc : isD (chr a) := by unfold isD chr; rw [dig_nat a ha]; omega
    have hv : 10 * nval l + ((chr a).toNat - 48) = nval (a :: l) := by unfold chr; rw [dig_nat a ha]; simp only [nval]; omega
    have h0 : 10 * nval l + ((chr a).toNat - 48) ≠ 0 := by
      rw [hv]
      cases l with
      | nil =>
        rcases ht with ht | ht
        · cases ht
        · simp at ht; simp [nval]; exact ht
      | cons b m =>
        have h1 : digs (nval (b :: m)) ≠ [] := by rw [← ih]; simp
        have h2 : nval (b :: m) ≠ 0 := fun e => h1 (by rw [e, digs_zero])
        simp only [nval] at h2 ⊢; omega
    have := digs_snoc (nval l) (chr a) hc h0
    rw [hv] at this
    rw [this, ← ih]
    simp
theorem str_nums2 (D : List UInt8) : strOfNums (D.map fun c => (c.toNat : Int)) = ⟨D.toArray⟩ := by
  unfold strOfNums
  rw [List.map_map]
  have : ((fun n : Int => UInt8.ofNat n.toNat) ∘ fun c : UInt8 => (c.toNat : Int)) = id := by
    funext c; simp
  rw [this, List.map_id]
theorem OwnB.form {B : Nat} {w : World} {v : Value} {D : List UInt8} (h : OwnB B w v D) (h0 : D ≠ []) : ∃ g cap, v = .slice (some ⟨g, 0, none⟩) D.length cap ∧ ∀ i (hi : i < D.length), w.cell? ⟨g, i, none⟩ = some (.int .u8 (D[i].toNat : Int)) := by
  obtain ⟨h1, h⟩ := h
  rcases h with ⟨rfl, hz⟩ | ⟨g, cap, cur, rfl, hb, hh, h2, h3, h4, h5⟩
  · exact absurd (List.length_eq_zero_iff.1 hz) h0
  · refine ⟨g, cap, rfl, fun i hi => ?_⟩
    rw [cell_of_row w g i _ _ _ hh]
    have h6 : (cur.toList.take (D.length * 1))[i]? = (D.map fun (c : UInt8) => Value.int .u8 (c.toNat : Int))[i]? := by rw [h5]
    rw [List.getElem?_take, if_pos (by omega), List.getElem?_map, List.getElem?_eq_getElem hi] at h6
    simpa using h6
theorem conv_own {w : World} {g cap n : Nat} {D : List UInt8} (hn : D.length = n) (h : ∀ i (hi : i < D.length), w.cell? ⟨g, i, none⟩ = some (.int .u8 (D[i].toNat : Int))) :
    (convert 25 9 (.slice (some ⟨g, 0, none⟩) n cap)).run Tryd.prog w = .ok (.string ⟨D.toArray⟩) w := by
  have := run_convert_bytes_arg (P := Tryd.prog) w 25 5 Tryd.underlying25 Tryd.underlying5 g 0 n cap (D.map fun c => (c.toNat : Int)) (by simpa using hn) (fun i hi => by
    have hi' : i < D.length := by omega
    rw [Nat.zero_add, h i hi', List.getD_eq_getElem?_getD, List.getElem?_map, List.getElem?_eq_getElem hi']; rfl) 9 Tryd.underlying9
  rw [str_nums2] at this
  exact this
/-- The loop of text. -/
def TxInv (sg : List UInt8) (L : List Nat) (w : World) (v iv : Value) (wr : World) : Prop :=
  ∃ k, k ≤ L.length ∧ iv = .int .i64 (k : Int) ∧ OwnB w.heap.size wr v (sg ++ (L.drop k).reverse.map chr) ∧ Below w.heap.size w wr
theorem tx_step {sg : List UInt8} {L : List Nat} {w wr w2 : World} {v v' : Value} {m a : Nat} (hm : m < L.length) (hc : L[m]? = some a) (hb : Below w.heap.size w wr) (o : Obj)
    (hown : OwnB w.heap.size wr v (sg ++ (L.drop (m + 1)).reverse.map chr)) (h2 : OwnB w.heap.size w2 v' ((sg ++ (L.drop (m + 1)).reverse.map chr) ++ [chr a])) (hg : (wr.alloc o).grownBy w2 v.ownBlock) : TxInv sg L w v' (.int .i64 (m : Int)) w2 := by
  have hs := hb.size
  refine ⟨m, by omega, rfl, ?_, ?_⟩
  · have e : L.drop m = a :: L.drop (m + 1) := by
      rw [List.drop_eq_getElem_cons hm]
      rw [List.getElem?_eq_getElem hm] at hc
      injection hc with hc
      rw [hc]
    rw [e]
    simpa using h2
  · exact (hb.alloc hs o).grown hg (by simp; omega) (fun k hk => (hown.lt k hk).1)
def RetXt (b : Bool) (n : Nat) (w : World) (e : Ending) (w' : World) : Prop := e = .returned (.tuple #[.string ⟨(txt b n).toArray⟩, .bool (decide (n < Lim))]) ∧ Below w.heap.size w w'
set_option maxHeartbeats 4000000 in
set_option maxRecDepth 100000 in
theorem rtext_any (L : List Nat) (hL : Tens L) (v : Value) (b : Bool) (w : World) (h : IsL w v L) (hn : L.length ≤ 100000) : Calls Tryd.prog 34 #[v, .bool b] w (RetXt b (nval L) w) := by
  have FT := Lib.hid (trim_any L v w h hn)
  obtain ⟨M, hM⟩ : ∃ M, M = L.take (usedOf L) := ⟨_, rfl⟩
  have hv : nval M = nval L := by rw [hM, nval_used]
  have hMt : Tens M := by rw [hM]; exact hL.take _
  have hMp : Top M := by rw [hM]; exact top_used L
  have hdg := digs_nval M hMt hMp
  have hlen : (digs (nval L)).length = M.length := by rw [← hv, ← hdg]; simp
  have hlim := Lim_len (nval L)
  have hMl : M.length ≤ 100000 := by rw [hM, List.length_take]; omega
  rw [hv] at hdg
  rw [← hM] at FT
  obtain ⟨N, hN⟩ : ∃ N, N = nval L := ⟨_, rfl⟩
  rw [← hN] at hdg hlen hlim
  rw [← hN]
  have hz : N = 0 ↔ M.length = 0 := by
    constructor
    · intro e; rw [← hlen, e, digs_zero]; rfl
    · intro e
      rcases Nat.eq_zero_or_pos N with h | h
      · exact h
      · have := digs_ne N (by omega)
        rw [← List.length_pos_iff] at this; omega
  have HDG := Lib.hid hdg
  have HMT := Lib.hid hMt
  clear h hM hv hMt hMp hdg hL hn hN
  go_enter Tryd.func34, Tryd.ntmps34
  go_wp2_with fail
  refine FT.out.mono ?_
  rintro e w2 ⟨⟨u, rfl, hu⟩, rfl⟩
  have HU := Lib.hid hu
  obtain ⟨ao, cap, rfl, hc1, hc2, hc3⟩ := hu
  have hcm : cap ≤ 9223372036854775807 := by unfold maxLen at hc2; omega
  clear FT hc2
  obtain ⟨n, hnM⟩ : ∃ n, n = M.length := ⟨_, rfl⟩
  rw [← hnM] at hlen hz hMl hc1 HU
  simp only [← hnM]
  by_cases h0 : n = 0
  · have hN0 : N = 0 := hz.2 h0
    subst h0
    have hres : Hid ((⟨(txt b N).toArray⟩ : ByteArray) = ⟨#[48]⟩ ∧ decide (N < Lim) = true) := by
      refine ⟨by rw [hN0]; simp [txt], decide_eq_true (by rw [hN0]; exact Nat.pow_pos (by decide))⟩
    clear hlen hlim hc3 hnM hN0 hz
    go_wp2_with fail
    go_ret2
    exact ⟨by rw [hres.out.1, hres.out.2]; rfl, Below.refl _ _⟩
  · by_cases h200 : 200 < n
    · have hres : Hid ((⟨(txt b N).toArray⟩ : ByteArray) = ⟨#[]⟩ ∧ decide (N < Lim) = false) := by
        have h1 : ¬ N < Lim := fun h => by have := hlim.2 h; omega
        refine ⟨?_, decide_eq_false h1⟩
        unfold txt
        rw [if_neg (by intro e; exact h0 (hz.1 e)), if_neg h1]
      have q1 : decide ((200 : Int) < (n : Int)) = true := decide_eq_true (by omega)
      have q0 : ((n : Int) == 0) = false := by rw [beq_eq_false_iff_ne]; omega
      clear hlen hlim hc3 hnM hz
      go_wp2_with fail
      go_ret2
      exact ⟨by rw [hres.out.1, hres.out.2]; rfl, Below.refl _ _⟩
    · have q1 : decide ((200 : Int) < (n : Int)) = false := decide_eq_false (by omega)
      have q0 : ((n : Int) == 0) = false := by rw [beq_eq_false_iff_ne]; omega
      have hN1 : N ≠ 0 := fun e => h0 (hz.1 e)
      have hlt : N < Lim := hlim.1 (by omega)
      have hres : Hid (txt b N = (if b then [45] else []) ++ M.reverse.map chr ∧ decide (N < Lim) = true) := by
        refine ⟨?_, decide_eq_true hlt⟩
        unfold txt
        rw [if_neg hN1, if_pos hlt, HDG.out]
        cases b <;> rfl
      rcases hc3 with hM0 | ⟨g, rfl, hcells⟩
      · rw [hM0] at hnM; simp at hnM; exact absurd hnM h0
      have HC := Lib.hid hcells
      have hn200 : n ≤ 200 := by omega
      have HNM := Lib.hid hnM
      clear hlen hlim hcells hnM hz HDG hN1 hlt h200
      cases b with
      | true =>
        have hcl : (w.alloc (.cells #[.int .u8 45] 5)).cell? ⟨w.heap.size, 0, none⟩ = some (.int .u8 (((45 : UInt8)).toNat : Int)) := by rw [cell_of_row _ _ _ _ _ _ (heap_alloc_new w (.cells #[.int .u8 45] 5))]; rfl
        have hsz0 : w.heap.size ≤ (w.alloc (.cells #[.int .u8 45] 5)).heap.size := by simp
        go_wp2_with (refine wpList_wantedR (by rfl) fun K hK => ?_; refine wp_appB1 (Operand.tmp 17) (Operand.tmp 18) rfl w.heap.size (.slice none 0 0) [] rfl (OwnB.nil _ _) w.heap.size rfl 45 hcl (by simp) hsz0 ?_; intro v' w9 hown9 hg9; have HM := Lib.hid hown9; have HG := Lib.hid (((Below.refl w.heap.size w).alloc (Nat.le_refl _) _).grown hg9 hsz0 (fun k hk => by cases hk)); clear hown9 hg9; refine hK _ _ ?_; clear hK K)
        go_loopw [6, 7] (fun v iv wr => TxInv [45] M w v iv wr) (fun _ iv _ => (intOf iv).toNat)
        case atStart => exact ⟨n, by rw [← HNM.out]; exact Nat.le_refl _, rfl, by rw [HNM.out, List.drop_length]; exact HM.out, HG.out⟩
        case round =>
          obtain ⟨k, hk, rfl, hown, hb⟩ := hrel
          rw [← HNM.out] at hk
          have HO := Lib.hid hown
          have HB := Lib.hid hb
          clear hown hb
          cases k with
          | zero =>
            have hl0 := HO.out
            rw [List.drop_zero] at hl0
            obtain ⟨D, hD⟩ : ∃ D, D = [45] ++ M.reverse.map chr := ⟨_, rfl⟩
            rw [← hD] at hl0
            have hDl : D.length ≤ 201 := by
              have h1 := HNM.out
              rw [hD]; simp; omega
            have hD0 : D ≠ [] := by
              intro e
              rw [hD] at e
              have h1 := HNM.out
              have h2 := congrArg List.length e
              rw [List.length_append, List.length_map, List.length_reverse, List.length_nil] at h2
              omega
            obtain ⟨g3, c3, rfl, hcs⟩ := hl0.form hD0
            obtain ⟨dl, hdl⟩ : ∃ dl, D.length = dl := ⟨_, rfl⟩
            have hcv := conv_own (cap := c3) hdl hcs
            have HR2 : Hid (txt true N = D ∧ decide (N < Lim) = true) := ⟨by rw [hD]; exact hres.out.1, hres.out.2⟩
            rw [hdl]
            clear hl0 hD0 hcs hDl hdl hD
            go_wp2_with fail
            go_ret2
            exact ⟨by rw [HR2.out.1, HR2.out.2]; rfl, HB.out⟩
          | succ m =>
            have hm : m < n := by omega
            have hmM : m < M.length := by rw [← HNM.out]; exact hm
            obtain ⟨a, ha⟩ : ∃ a, M[m] = a := ⟨_, rfl⟩
            have hct : M[m]? = some a := by rw [List.getElem?_eq_getElem hmM, ha]
            have ha10 : a < 10 := by rw [← ha]; exact HMT.out _ (List.getElem_mem _)
            have hgl : g < w.heap.size := World.block_lt_of_cell? w _ (HC.out m hmM)
            have hcell : wr.cell? ⟨g, m, none⟩ = some (.int .i64 (a : Int)) := by rw [HB.out.cell (p := ⟨g, m, none⟩) hgl, HC.out m hmM, ha]
            have hch : (48 : Int) + (a : Int) = ((chr a).toNat : Int) := by unfold chr; rw [dig_nat a ha10]; omega
            have e1 : (((m + 1 : Nat) : Int) - 1) = (m : Int) := by omega
            obtain ⟨p, hp⟩ : ∃ p, p = m + 1 := ⟨_, rfl⟩
            rw [← hp] at e1 HO
            simp only [← hp]
            have hp0 : decide ((0 : Int) < (p : Int)) = true := decide_eq_true (by omega)
            have hp300 : p ≤ 300 := by omega
            have hmc : m < n := hm
            have hA : OwnB w.heap.size (wr.alloc (.cells #[.int .u8 ((48 : Int) + (a : Int))] 5)) u6 ([45] ++ (M.drop p).reverse.map chr) := World.ownsRow.alloc HO.out _
            have HA := Lib.hid hA
            have hlen : ([45] ++ (M.drop p).reverse.map chr).length ≤ 100000 := by
              have h1 := HNM.out
              simp; omega
            have hcl2 : (wr.alloc (.cells #[.int .u8 ((48 : Int) + (a : Int))] 5)).cell? ⟨wr.heap.size, 0, none⟩ = some (.int .u8 ((chr a).toNat : Int)) := by
              rw [cell_of_row _ _ _ _ _ _ (heap_alloc_new wr (.cells #[.int .u8 ((48 : Int) + (a : Int))] 5)), ← hch]; rfl
            have HST := Lib.hid (fun v' w2 h2 hg => tx_step (w2 := w2) (v' := v') hmM hct HB.out (.cells #[.int .u8 ((48 : Int) + (a : Int))] 5) (by rw [← hp]; exact HO.out) (by rw [← hp]; exact h2) hg)
            have hsz2 : w.heap.size ≤ (wr.alloc (.cells #[.int .u8 ((48 : Int) + (a : Int))] 5)).heap.size := by have := HB.out.size; simp; omega
            clear hct hp hA hch ha
            go_wp2_with (refine wpList_wantedR (by rfl) fun K hK => ?_; refine wp_appB1 (Operand.tmp 26) (Operand.tmp 34) rfl w.heap.size u6 _ rfl HA.out wr.heap.size rfl (chr a) hcl2 hlen hsz2 ?_; intro v' w9 hown9 hg9; have HM := Lib.hid (HST.out v' w9 hown9 hg9); clear hown9 hg9 HST HA; refine hK _ _ ?_; clear hK K)
            go_roundw
            case rel => exact HM.out
            case measure => simp [intOf]; omega
      | false =>
        go_wp2_with fail
        go_loopw [6, 7] (fun v iv wr => TxInv ([] : List UInt8) M w v iv wr) (fun _ iv _ => (intOf iv).toNat)
        case atStart => exact ⟨n, by rw [← HNM.out]; exact Nat.le_refl _, rfl, by rw [HNM.out, List.drop_length]; exact OwnB.nil _ _, Below.refl _ _⟩
        case round =>
          obtain ⟨k, hk, rfl, hown, hb⟩ := hrel
          rw [← HNM.out] at hk
          have HO := Lib.hid hown
          have HB := Lib.hid hb
          clear hown hb
          cases k with
          | zero =>
            have hl0 := HO.out
            rw [List.drop_zero] at hl0
            obtain ⟨D, hD⟩ : ∃ D, D = ([] : List UInt8) ++ M.reverse.map chr := ⟨_, rfl⟩
            rw [← hD] at hl0
            have hDl : D.length ≤ 201 := by
              have h1 := HNM.out
              rw [hD]; simp; omega
            have hD0 : D ≠ [] := by
              intro e
              rw [hD] at e
              have h1 := HNM.out
              have h2 := congrArg List.length e
              rw [List.length_append, List.length_map, List.length_reverse, List.length_nil] at h2
              omega
            obtain ⟨g3, c3, rfl, hcs⟩ := hl0.form hD0
            obtain ⟨dl, hdl⟩ : ∃ dl, D.length = dl := ⟨_, rfl⟩
            have hcv := conv_own (cap := c3) hdl hcs
            have HR2 : Hid (txt false N = D ∧ decide (N < Lim) = true) := ⟨by rw [hD]; exact hres.out.1, hres.out.2⟩
            rw [hdl]
            clear hl0 hD0 hcs hDl hdl hD
            go_wp2_with fail
            go_ret2
            exact ⟨by rw [HR2.out.1, HR2.out.2]; rfl, HB.out⟩
          | succ m =>
            have hm : m < n := by omega
            have hmM : m < M.length := by rw [← HNM.out]; exact hm
            obtain ⟨a, ha⟩ : ∃ a, M[m] = a := ⟨_, rfl⟩
            have hct : M[m]? = some a := by rw [List.getElem?_eq_getElem hmM, ha]
            have ha10 : a < 10 := by rw [← ha]; exact HMT.out _ (List.getElem_mem _)
            have hgl : g < w.heap.size := World.block_lt_of_cell? w _ (HC.out m hmM)
            have hcell : wr.cell? ⟨g, m, none⟩ = some (.int .i64 (a : Int)) := by rw [HB.out.cell (p := ⟨g, m, none⟩) hgl, HC.out m hmM, ha]
            have hch : (48 : Int) + (a : Int) = ((chr a).toNat : Int) := by unfold chr; rw [dig_nat a ha10]; omega
            have e1 : (((m + 1 : Nat) : Int) - 1) = (m : Int) := by omega
            obtain ⟨p, hp⟩ : ∃ p, p = m + 1 := ⟨_, rfl⟩
            rw [← hp] at e1 HO
            simp only [← hp]
            have hp0 : decide ((0 : Int) < (p : Int)) = true := decide_eq_true (by omega)
            have hp300 : p ≤ 300 := by omega
            have hmc : m < n := hm
            have hA : OwnB w.heap.size (wr.alloc (.cells #[.int .u8 ((48 : Int) + (a : Int))] 5)) u6 (([] : List UInt8) ++ (M.drop p).reverse.map chr) := World.ownsRow.alloc HO.out _
            have HA := Lib.hid hA
            have hlen : (([] : List UInt8) ++ (M.drop p).reverse.map chr).length ≤ 100000 := by
              have h1 := HNM.out
              simp; omega
            have hcl2 : (wr.alloc (.cells #[.int .u8 ((48 : Int) + (a : Int))] 5)).cell? ⟨wr.heap.size, 0, none⟩ = some (.int .u8 ((chr a).toNat : Int)) := by
              rw [cell_of_row _ _ _ _ _ _ (heap_alloc_new wr (.cells #[.int .u8 ((48 : Int) + (a : Int))] 5)), ← hch]; rfl
            have HST := Lib.hid (fun v' w2 h2 hg => tx_step (w2 := w2) (v' := v') hmM hct HB.out (.cells #[.int .u8 ((48 : Int) + (a : Int))] 5) (by rw [← hp]; exact HO.out) (by rw [← hp]; exact h2) hg)
            have hsz2 : w.heap.size ≤ (wr.alloc (.cells #[.int .u8 ((48 : Int) + (a : Int))] 5)).heap.size := by have := HB.out.size; simp; omega
            clear hct hp hA hch ha
            go_wp2_with (refine wpList_wantedR (by rfl) fun K hK => ?_; refine wp_appB1 (Operand.tmp 26) (Operand.tmp 34) rfl w.heap.size u6 _ rfl HA.out wr.heap.size rfl (chr a) hcl2 hlen hsz2 ?_; intro v' w9 hown9 hg9; have HM := Lib.hid (HST.out v' w9 hown9 hg9); clear hown9 hg9 HST HA; refine hK _ _ ?_; clear hK K)
            go_roundw
            case rel => exact HM.out
            case measure => simp [intOf]; omega
end Go.Proofs.YtebadokchhnmfaaDoor
/- The document's product: mathematics. -/
namespace Go.Proofs.YtebadokchhnmfaaDoor
open Go.RowKit Go.BigM
set_option linter.unusedVariables false
set_option linter.unusedSimpArgs false
theorem nval_set : ∀ (l : List Nat) (j v : Nat), j < l.length → nval (l.set j v) + 10 ^ j * l.getD j 0 = nval l + 10 ^ j * v
  | [], j, v, h => by simp at h
  | a :: l, 0, v, h => by simp [nval]; omega
  | a :: l, j + 1, v, h => by
    have ih := nval_set l j v (by simpa using h)
    simp only [List.set_cons_succ, nval, List.getD_cons_succ, Nat.pow_succ]
    have e1 : 10 ^ j * 10 * l.getD j 0 = 10 * (10 ^ j * l.getD j 0) := by rw [Nat.mul_comm (10 ^ j) 10, Nat.mul_assoc]
    have e2 : 10 ^ j * 10 * v = 10 * (10 ^ j * v) := by rw [Nat.mul_comm (10 ^ j) 10, Nat.mul_assoc]
    rw [e1, e2]; omega
theorem Tens.set {l : List Nat} (h : Tens l) (j v : Nat) (hv : v < 10) : Tens (l.set j v) := by
  intro a ha
  rcases List.mem_or_eq_of_mem_set ha with h1 | h1
  · exact h a h1
  · omega
theorem Tens.getD {l : List Nat} (h : Tens l) (j : Nat) : l.getD j 0 ≤ 9 := by
  rw [List.getD_eq_getElem?_getD]
  cases hq : l[j]? with
  | none => simp
  | some a => have := h a (List.mem_of_getElem? hq); simp; omega
theorem nval_take_succ (l : List Nat) (i : Nat) (h : i < l.length) : nval (l.take (i + 1)) = nval (l.take i) + 10 ^ i * l[i] := by
  rw [List.take_succ_eq_append_getElem h, nval_snoc, List.length_take, Nat.min_eq_left (by omega)]
theorem getD_set_ne (l : List Nat) (j m v : Nat) (h : j ≠ m) : (l.set m v).getD j 0 = l.getD j 0 := by
  rw [List.getD_eq_getElem?_getD, List.getD_eq_getElem?_getD, List.getElem?_set_ne (fun e => h e.symm)]
/-- The outer loop of the product. -/
structure MOut (x y out : List Nat) (i : Nat) : Prop where
  tens : Tens out
  len : out.length = x.length + y.length + 1
  zero : ∀ j, i + y.length ≤ j → out.getD j 0 = 0
  val : nval out = nval (x.take i) * nval y
/-- The inner one. -/
structure MIn (x y out : List Nat) (i k c : Nat) : Prop where
  tens : Tens out
  len : out.length = x.length + y.length + 1
  carry : c ≤ 9
  kle : k ≤ y.length + 1
  last : k = y.length + 1 → c = 0
  zero : ∀ j, i + y.length + 1 ≤ j → out.getD j 0 = 0
  top : k ≤ y.length → out.getD (i + y.length) 0 = 0
  val : nval out + c * 10 ^ (i + k) = nval (x.take i) * nval y + x.getD i 0 * (10 ^ i * nval (y.take k))
theorem MOut.start (x y : List Nat) : MOut x y (List.replicate (x.length + y.length + 1) 0) 0 := by
  refine ⟨fun a ha => by have := List.eq_of_mem_replicate ha; omega, by simp, fun j _ => ?_, by simp [nval, nval_zeros]⟩
  rw [List.getD_eq_getElem?_getD, List.getElem?_replicate]
  split <;> rfl
theorem MOut.inner {x y out : List Nat} {i : Nat} (h : MOut x y out i) : MIn x y out i 0 0 := by
  refine ⟨h.tens, h.len, by omega, by omega, fun _ => rfl, fun j hj => h.zero j (by omega), fun _ => h.zero _ (Nat.le_refl _), ?_⟩
  simp [h.val, nval]
theorem MIn.done {x y out : List Nat} {i k c : Nat} (h : MIn x y out i k c) (hk : y.length ≤ k) (hc : c = 0) (hi : i < x.length) : MOut x y out (i + 1) := by
  refine ⟨h.tens, h.len, fun j hj => h.zero j (by omega), ?_⟩
  have hv := h.val
  rw [hc, Nat.zero_mul, Nat.add_zero, List.take_of_length_le hk] at hv
  rw [hv, nval_take_succ x i hi, Nat.add_mul]
  congr 1
  rw [List.getD_eq_getElem?_getD, List.getElem?_eq_getElem hi]
  simp only [Option.getD_some]
  rw [Nat.mul_comm (10 ^ i) x[i], Nat.mul_assoc]
theorem mul_arith (V c P n a T X Y Z : Nat) (h : V + c * P = T) (hn : n = a + c + X) (hX : X * P = Y) (W : Nat) (hW : W + P * a = V + P * (n % 10)) : W + n / 10 * (P * 10) = T + Y := by
  have h1 : n = 10 * (n / 10) + n % 10 := by omega
  have h2 : P * n = P * a + P * c + P * X := by rw [hn, Nat.mul_add, Nat.mul_add]
  have h3 : P * n = P * 10 * (n / 10) + P * (n % 10) := by rw [Nat.mul_assoc, ← Nat.mul_add, ← h1]
  have h4 : n / 10 * (P * 10) = P * 10 * (n / 10) := Nat.mul_comm _ _
  have h5 : c * P = P * c := Nat.mul_comm _ _
  have h6 : P * X = Y := by rw [Nat.mul_comm]; exact hX
  omega
theorem MIn.step {x y out : List Nat} {i k c n : Nat} (h : MIn x y out i k c) (hi : i < x.length) (hgo : k < y.length ∨ 0 < c)
    (hn : n = out.getD (i + k) 0 + c + (if k < y.length then x.getD i 0 * y.getD k 0 else 0)) (hx : Tens x) (hy : Tens y) : MIn x y (out.set (i + k) (n % 10)) i (k + 1) (n / 10) ∧ n ≤ 99 ∧ i + k < out.length := by
  have hk : k ≤ y.length := by
    rcases hgo with h1 | h1
    · omega
    · rcases Nat.lt_or_ge k (y.length + 1) with h2 | h2
      · omega
      · have := h.last (by have := h.kle; omega); omega
  have hlen := h.len
  have hik : i + k < out.length := by omega
  have hout := h.tens.getD (i + k)
  have hx9 := hx.getD i
  have hy9 := hy.getD k
  have hmul : x.getD i 0 * y.getD k 0 ≤ 81 := Nat.le_trans (Nat.mul_le_mul hx9 hy9) (by decide)
  have hc := h.carry
  have hn99 : n ≤ 99 := by rw [hn]; split <;> omega
  refine ⟨⟨h.tens.set _ _ (by omega), by simp [hlen], by omega, by omega, fun e => ?_, fun j hj => ?_, fun hk2 => ?_, ?_⟩, hn99, hik⟩
  · have hk3 : k = y.length := by omega
    rw [if_neg (by omega), hk3, h.top (by omega)] at hn
    omega
  · rw [getD_set_ne _ _ _ _ (by omega)]; exact h.zero j hj
  · rw [getD_set_ne _ _ _ _ (by omega)]; exact h.top (by omega)
  · have hs := nval_set out (i + k) (n % 10) hik
    have hp : 10 ^ (i + (k + 1)) = 10 ^ (i + k) * 10 := by rw [← Nat.add_assoc, Nat.pow_succ]
    rw [hp]
    by_cases hky : k < y.length
    · rw [if_pos hky] at hn
      have hty : nval (y.take (k + 1)) = nval (y.take k) + 10 ^ k * y.getD k 0 := by
        rw [nval_take_succ y k hky, List.getD_eq_getElem?_getD, List.getElem?_eq_getElem hky]; rfl
      rw [hty, Nat.mul_add, Nat.mul_add, ← Nat.add_assoc]
      refine mul_arith (nval out) c (10 ^ (i + k)) n (out.getD (i + k) 0) _ (x.getD i 0 * y.getD k 0) _ 0 h.val hn ?_ _ hs
      rw [Nat.pow_add]
      simp only [Nat.mul_assoc, Nat.mul_comm, Nat.mul_left_comm]
    · rw [if_neg hky] at hn
      have e1 : y.take (k + 1) = y.take k := by rw [List.take_of_length_le (by omega), List.take_of_length_le (by omega)]
      rw [e1]
      have := mul_arith (nval out) c (10 ^ (i + k)) n (out.getD (i + k) 0) _ 0 0 0 h.val hn (by simp) _ hs
      omega
end Go.Proofs.YtebadokchhnmfaaDoor
/- The document's product. -/
namespace Go.Proofs.YtebadokchhnmfaaDoor
open Go.RowKit Go.BigM
set_option linter.unusedVariables false
set_option linter.unusedSimpArgs false
/-- Numbers as cells. -/
def IV (l : List Nat) : Array Value := (l.map fun (a : Nat) => Value.int .i64 (a : Int)).toArray
theorem IV_size (l : List Nat) : (IV l).size = l.length := by simp [IV]
theorem IV_get (l : List Nat) (j : Nat) (h : j < l.length) : (IV l)[j]? = some (.int .i64 ((l.getD j 0 : Nat) : Int)) := by
  unfold IV
  rw [List.getElem?_toArray, List.getElem?_map, List.getElem?_eq_getElem h, List.getD_eq_getElem?_getD, List.getElem?_eq_getElem h]; rfl
theorem IV_set (l : List Nat) (j v : Nat) : (IV l).setIfInBounds j (.int .i64 (v : Int)) = IV (l.set j v) := by
  unfold IV
  rw [List.setIfInBounds_toArray, ← List.map_set]
theorem made_IV (n : Nat) : madeCells (Value.int .i64 0).cells n = IV (List.replicate n 0) := by
  apply Array.ext
  · rw [size_madeCells, IV_size, List.length_replicate]
  · intro i h1 h2
    simp [madeCells, IV, Value.cells, Nat.mod_one]
theorem run_make_ints (n : Nat) (hn : n ≤ 1000) (w : World) :
    (Instr.makeSlice 22 (.int .i64 n) (.int .i64 n)).run Tryd.prog w = .ok (.slice (some ⟨w.heap.size, 0, none⟩) n n) (w.alloc (.cells (IV (List.replicate n 0)) 3)) := by
  obtain ⟨i, hi, hz, h1, h2⟩ := info_of infoI3
  have := run_make (P := Tryd.prog) w 22 3 i (.int .i64 0) Tryd.underlying22 hi hz .i64 .i64 n n (by omega) (Int.le_refl _) (by rw [h2]; omega) (by omega)
  rw [h1, Nat.mul_one, made_IV, Int.toNat_natCast] at this
  exact this
/-- A row of numbers in a block. -/
def NRw (w : World) (g : Nat) (l : List Nat) : Prop := w.heap[g]? = some (.cells (IV l) 3 (0, 0))
theorem NRw.cell {w : World} {g : Nat} {l : List Nat} (h : NRw w g l) (j : Nat) (hj : j < l.length) : w.cell? ⟨g, j, none⟩ = some (.int .i64 ((l.getD j 0 : Nat) : Int)) := by
  rw [cell_of_row w g j _ _ _ h]; exact IV_get l j hj
theorem NRw.put {w : World} {g : Nat} {l : List Nat} (h : NRw w g l) (j v : Nat) : NRw (w.setCell ⟨g, j, none⟩ (.int .i64 (v : Int))) g (l.set j v) := by
  have := heap_setCell_same w g j _ 3 (.int .i64 (v : Int)) h
  rw [IV_set] at this
  exact this
theorem NRw.isL {w : World} {g : Nat} {l : List Nat} (h : NRw w g l) (hl : l.length ≤ 1000) : IsL w (.slice (some ⟨g, 0, none⟩) l.length l.length) l := by
  refine ⟨_, _, rfl, Nat.le_refl _, by unfold maxLen; omega, .inr ⟨g, rfl, fun i hi => ?_⟩⟩
  rw [h.cell i hi, List.getD_eq_getElem?_getD, List.getElem?_eq_getElem hi]; rfl
def MoInv (x y : List Nat) (w : World) (g : Nat) (iv : Value) (wr : World) : Prop :=
  ∃ (i : Nat) (out : List Nat), i ≤ x.length ∧ iv = .int .i64 (i : Int) ∧ MOut x y out i ∧ NRw wr g out ∧ Below w.heap.size w wr
def MiInv (x y : List Nat) (w : World) (g i : Nat) (cv kv : Value) (wr : World) : Prop :=
  ∃ (k c : Nat) (out : List Nat), kv = .int .i64 (k : Int) ∧ cv = .int .i64 (c : Int) ∧ MIn x y out i k c ∧ NRw wr g out ∧ Below w.heap.size w wr
theorem MiInv.drew {x y : List Nat} {w : World} {g i : Nat} {cv kv : Value} {wr : World} (h : MiInv x y w g i cv kv wr) : MiInv x y w g i cv kv wr.drew := by
  obtain ⟨k, c, out, h1, h2, h3, h4, h5⟩ := h
  exact ⟨k, c, out, h1, h2, h3, h4, h5.drew⟩
theorem IsL.ptr {w : World} {v : Value} {L : List Nat} (h : IsL w v L) : ∃ ao cap, v = .slice ao L.length cap ∧ ∀ (j : Nat), j < L.length → ∃ g, ao = some ⟨g, 0, none⟩ ∧ w.cell? ⟨g, j, none⟩ = some (.int .i64 ((L.getD j 0 : Nat) : Int)) := by
  obtain ⟨ao, cap, rfl, h1, h2, h3⟩ := h
  refine ⟨ao, cap, rfl, fun j hj => ?_⟩
  rcases h3 with rfl | ⟨g, rfl, h⟩
  · simp at hj
  · exact ⟨g, rfl, by rw [h j hj, List.getD_eq_getElem?_getD, List.getElem?_eq_getElem hj]; rfl⟩
set_option maxHeartbeats 8000000 in
set_option maxRecDepth 100000 in
theorem refmul_any (s t : ByteArray) (hs : Canon s.data.toList) (ht : Canon t.data.toList) (w : World) :
    Calls Tryd.prog 23 #[.string s, .string t] w (RetXt (low s.data.toList != low t.data.toList) (dval (strip s.data.toList) * dval (strip t.data.toList)) w) := by
  have F1 := Lib.hid (rdigits_any s hs w)
  have F2 := Lib.hid (fun w => rdigits_any t ht w)
  obtain ⟨x, hx⟩ : ∃ x, x = dgs s.data.toList := ⟨_, rfl⟩
  obtain ⟨y, hy⟩ : ∃ y, y = dgs t.data.toList := ⟨_, rfl⟩
  have tx : Tens x := by rw [hx]; exact (tens_rdg hs.2.2.1).take _
  have ty : Tens y := by rw [hy]; exact (tens_rdg ht.2.2.1).take _
  have vx : nval x = dval (strip s.data.toList) := by rw [hx, nval_dgs]
  have vy : nval y = dval (strip t.data.toList) := by rw [hy, nval_dgs]
  have lx : x.length ≤ 200 := by rw [hx]; exact Nat.le_trans (dgs_len _) hs.2.1
  have ly : y.length ≤ 200 := by rw [hy]; exact Nat.le_trans (dgs_len _) ht.2.1
  rw [← vx, ← vy]
  obtain ⟨b1, hb1⟩ : ∃ b, low s.data.toList = b := ⟨_, rfl⟩
  obtain ⟨b2, hb2⟩ : ∃ b, low t.data.toList = b := ⟨_, rfl⟩
  rw [hb1, hb2]
  unfold RetDg at F1 F2
  rw [hb1, ← hx] at F1
  rw [hb2, ← hy] at F2
  have TX := Lib.hid tx
  have TY := Lib.hid ty
  clear vx vy hx hy hb1 hb2 hs ht tx ty
  go_enter Tryd.func23, Tryd.ntmps23
  go_wp2_with fail
  refine F1.out.mono ?_
  rintro e w1 ⟨u1, rfl, hu1, hbw1⟩
  obtain ⟨ax, cx, rfl, -⟩ := hu1.ptr
  have HB1 := Lib.hid hbw1
  have HX1 := Lib.hid hu1
  clear hbw1 hu1 F1
  go_wp2_with fail
  refine (F2.out _).mono ?_
  rintro e w2 ⟨u2, rfl, hu2, hbw2⟩
  obtain ⟨ay, cy, rfl, -⟩ := hu2.ptr
  have HB2 := Lib.hid (HB1.out.trans (hbw2.mono HB1.out.size))
  have HX2 := Lib.hid (HX1.out.below hbw2)
  have HY2 := Lib.hid hu2
  clear hbw2 hu2 F2 HX1 HB1
  obtain ⟨p, hp⟩ : ∃ p, p = x.length := ⟨_, rfl⟩
  obtain ⟨q, hq⟩ : ∃ q, q = y.length := ⟨_, rfl⟩
  obtain ⟨N, hN⟩ : ∃ N, N = p + q + 1 := ⟨_, rfl⟩
  rw [← hp] at lx HX2
  rw [← hq] at ly HY2
  simp only [← hp, ← hq]
  have hmk := run_make_ints N (by omega) w2
  have hNi : ((p : Int) + (q : Int) + 1) = (N : Int) := by omega
  have HP := Lib.hid hp
  have HQ := Lib.hid hq
  have HN := Lib.hid hN
  have h0 : MoInv x y w2 w2.heap.size (.int .i64 0) (w2.alloc (.cells (IV (List.replicate N 0)) 3)) :=
    ⟨0, _, Nat.zero_le _, rfl, by rw [hN, hp, hq]; exact MOut.start x y, heap_alloc_new w2 (.cells (IV (List.replicate N 0)) 3), (Below.refl _ _).alloc (Nat.le_refl _) _⟩
  have H0 := Lib.hid h0
  clear hp hq hN h0
  go_wp2_with fail
  clear hmk hNi
  obtain ⟨g0, hg0⟩ : ∃ g0, w2.heap.size = g0 := ⟨_, rfl⟩
  rw [hg0] at H0
  simp only [hg0]
  generalize w2.alloc (.cells (IV (List.replicate N 0)) 3) = W0 at H0 ⊢
  go_loopw [11] (fun iv wr => MoInv x y w2 g0 iv wr) (fun iv _ => p - (intOf iv).toNat)
  case atStart => exact H0.out
  case round =>
    clear H0
    obtain ⟨i, out, hi, rfl, hmo, hrow, hbel⟩ := hrel
    rw [← HP.out] at hi
    have HB := Lib.hid hbel
    have HMO := Lib.hid hmo
    have HRW := Lib.hid hrow
    clear hmo hrow hbel
    by_cases hip : i < p
    · have q1 : decide ((i : Int) < (p : Int)) = true := decide_eq_true (by omega)
      have hix : i < x.length := by rw [← HP.out]; exact hip
      have H1 : Hid (MiInv x y w2 g0 i (.int .i64 0) (.int .i64 0) wr) := ⟨0, 0, out, rfl, rfl, HMO.out.inner, HRW.out, HB.out⟩
      obtain ⟨ax', cx', ex, hxp⟩ := HX2.out.ptr
      injection ex with ex1 ex2 ex3
      clear ex2
      obtain ⟨gx, hax, hxi⟩ := hxp i hix
      subst ex1 ex3
      subst hax
      have hgx : gx < w2.heap.size := World.block_lt_of_cell? w2 _ hxi
      obtain ⟨xi, hxid⟩ : ∃ xi, x.getD i 0 = xi := ⟨_, rfl⟩
      have hxi9 : xi ≤ 9 := by rw [← hxid]; exact TX.out.getD i
      rw [hxid] at hxi
      have HXI0 := Lib.hid hxi
      have HXD := Lib.hid hxid
      clear HMO HRW hxp hxi hxid
      go_wp2_with fail
      go_loopw [12, 13] (fun cv kv wr => MiInv x y w2 g0 i cv kv wr) (fun _ kv _ => q + 2 - (intOf kv).toNat)
      case atStart => exact H1.out
      case round =>
        clear H1 HB
        obtain ⟨k, c, out2, rfl, rfl, hmi, hrow, hbel⟩ := hrel
        have HMI0 := Lib.hid hmi
        have HRW := Lib.hid hrow
        have HB := Lib.hid hbel
        have hlen := hmi.len
        have hkle := hmi.kle
        have hc9 := hmi.carry
        rw [← HP.out, ← HQ.out, ← HN.out] at hlen
        rw [← HQ.out] at hkle
        by_cases hgo : k < q ∨ 0 < c
        · obtain ⟨n, hn⟩ : ∃ n, n = out2.getD (i + k) 0 + c + (if k < y.length then x.getD i 0 * y.getD k 0 else 0) := ⟨_, rfl⟩
          obtain ⟨hst, hn99, hik⟩ := hmi.step hix (by rw [← HQ.out]; exact hgo) hn TX.out TY.out
          obtain ⟨ik, hikd⟩ : ∃ ik, ik = i + k := ⟨_, rfl⟩
          rw [← hikd] at hst hn hik
          have hcell := hrow.cell ik hik
          have hfz := frozen_of_row wr g0 ik _ 3 hrow
          obtain ⟨o1, ho1⟩ : ∃ o1, out2.getD ik 0 = o1 := ⟨_, rfl⟩
          rw [ho1] at hn hcell
          have hiki : (i : Int) + (k : Int) = (ik : Int) := by omega
          have hikN : ik < N := by rw [← hlen]; exact hik
          have ho9 : o1 ≤ 99 := by omega
          have hbW : Below w2.heap.size w2 (wr.setCell ⟨g0, ik, none⟩ (.int .i64 ((n % 10 : Nat) : Int))) := hbel.setCell (p := ⟨g0, ik, none⟩) (by show w2.heap.size ≤ g0; omega) _
          have hrow2 := hrow.put ik (n % 10)
          have HREL : Hid (MiInv x y w2 g0 i (.int .i64 ((n / 10 : Nat) : Int)) (.int .i64 ((k : Int) + 1)) (wr.setCell ⟨g0, ik, none⟩ (.int .i64 ((n % 10 : Nat) : Int)))) :=
            ⟨k + 1, n / 10, _, by go_num, rfl, hst, hrow2, hbW⟩
          have HMS : Hid (k ≤ q) := by
            show k ≤ q
            rcases Nat.lt_or_ge q k with h | h
            · have h2 := hmi.last (by rw [← HQ.out]; omega)
              omega
            · exact h
          obtain ⟨n0, hn0⟩ : ∃ n0, n0 = o1 + c := ⟨_, rfl⟩
          have hn0i : (o1 : Int) + (c : Int) = (n0 : Int) := by omega
          obtain ⟨r10, hr10⟩ : ∃ r10, n % 10 = r10 := ⟨_, rfl⟩
          obtain ⟨d10, hd10⟩ : ∃ d10, n / 10 = d10 := ⟨_, rfl⟩
          rw [hr10, hd10] at HREL
          have hd1 : (n : Int) % 10 = (r10 : Int) := by omega
          have hd2 : (n : Int) / 10 = (d10 : Int) := by omega
          clear hr10 hd10
          clear hst hrow2 hbW hmi hrow hbel ho1 hikd
          by_cases hkq : k < q
          · have hky : k < y.length := by rw [← HQ.out]; exact hkq
            have q2 : decide ((k : Int) < (q : Int)) = true := decide_eq_true (by omega)
            obtain ⟨ay', cy', ey, hyp⟩ := HY2.out.ptr
            injection ey with ey1 ey2 ey3
            clear ey2
            obtain ⟨gy, hay, hyk⟩ := hyp k hky
            subst ey1 ey3
            subst hay
            have hgy : gy < w2.heap.size := World.block_lt_of_cell? w2 _ hyk
            obtain ⟨yk, hykd⟩ : ∃ yk, y.getD k 0 = yk := ⟨_, rfl⟩
            have hyk9 : yk ≤ 9 := by rw [← hykd]; exact TY.out.getD k
            rw [hykd] at hyk hn
            rw [if_pos hky, HXD.out] at hn
            obtain ⟨m, hm⟩ : ∃ m, m = xi * yk := ⟨_, rfl⟩
            have hm81 : m ≤ 81 := by rw [hm]; exact Nat.le_trans (Nat.mul_le_mul hxi9 hyk9) (by decide)
            have HMI : Hid ((xi : Int) * (yk : Int) = (m : Int)) := by show _ = _; rw [hm]; exact (Int.natCast_mul xi yk).symm
            have hmi2 := HMI.out
            rw [← hm] at hn
            have HNI : Hid ((n0 : Int) + (m : Int) = (n : Int)) := by show _ = _; omega
            have HXIw := Lib.hid ((HB.out.cell (p := ⟨gx, i, none⟩) hgx).trans HXI0.out)
            have HYKw := Lib.hid ((HB.out.cell (p := ⟨gy, k, none⟩) hgy).trans hyk)
            have hsz := HB.out.size
            clear hyp hyk hykd hm hn hn0 hmi2
            go_upto_region 13 with fail
            refine wp_region_noPanic ?_
            refine wp_region_held_drew (S := Below wr.heap.size wr) (by kernel_rfl) ((Below.refl _ _).drew) (fun hHeld => ?_)
            refine wpAnyH_take (i := 0) (v := Value.int .i64 (n0 : Int)) rfl (by kernel_rfl) (by kernel_rfl) (by kernel_rfl) (fun _ _ _ h => h) (Or.inl ⟨rfl, fun w' hw' => ?_⟩) hHeld ?_
            · go_simp
            simp only [List.getElem_toArray, List.getElem_cons_succ, List.getElem_cons_zero, Act.put, List.setIfInBounds_toArray, List.set_cons_zero, List.set_cons_succ]
            refine wpAnyH_take (i := 1) (v := Value.slice (some ⟨gx, 0, none⟩) p cx) rfl (by kernel_rfl) (by kernel_rfl) (by kernel_rfl) (fun _ _ _ h => h) (Or.inl ⟨rfl, fun w' hw' => ?_⟩) hHeld ?_
            · go_simp
            simp only [List.getElem_toArray, List.getElem_cons_succ, List.getElem_cons_zero, Act.put, List.setIfInBounds_toArray, List.set_cons_zero, List.set_cons_succ]
            refine wpAnyH_take (i := 2) (v := Value.int .i64 i) rfl (by kernel_rfl) (by kernel_rfl) (by kernel_rfl) (fun _ _ _ h => h) (Or.inl ⟨rfl, fun w' hw' => ?_⟩) hHeld ?_
            · go_simp
            simp only [List.getElem_toArray, List.getElem_cons_succ, List.getElem_cons_zero, Act.put, List.setIfInBounds_toArray, List.set_cons_zero, List.set_cons_succ]
            refine wpAnyH_take (i := 3) (v := Value.pointer (some ⟨gx, i, none⟩)) rfl (by kernel_rfl) (by kernel_rfl) (by kernel_rfl) (fun _ _ _ h => h) (Or.inl ⟨rfl, fun w' hw' => ?_⟩) hHeld ?_
            · go_simp
            simp only [List.getElem_toArray, List.getElem_cons_succ, List.getElem_cons_zero, Act.put, List.setIfInBounds_toArray, List.set_cons_zero, List.set_cons_succ]
            refine wpAnyH_take (i := 4) (v := Value.int .i64 (xi : Int)) rfl (by kernel_rfl) (by kernel_rfl) (by kernel_rfl) (fun _ _ _ h => h) (Or.inl ⟨rfl, fun w' hw' => ?_⟩) hHeld ?_
            · have q9 := (hw'.cell (p := ⟨gx, i, none⟩) (by show gx < wr.heap.size; omega)).trans HXIw.out; go_simp
            simp only [List.getElem_toArray, List.getElem_cons_succ, List.getElem_cons_zero, Act.put, List.setIfInBounds_toArray, List.set_cons_zero, List.set_cons_succ]
            refine wpAnyH_take (i := 5) (v := Value.slice (some ⟨gy, 0, none⟩) q cy) rfl (by kernel_rfl) (by kernel_rfl) (by kernel_rfl) (fun _ _ _ h => h) (Or.inl ⟨rfl, fun w' hw' => ?_⟩) hHeld ?_
            · go_simp
            simp only [List.getElem_toArray, List.getElem_cons_succ, List.getElem_cons_zero, Act.put, List.setIfInBounds_toArray, List.set_cons_zero, List.set_cons_succ]
            refine wpAnyH_take (i := 6) (v := Value.int .i64 k) rfl (by kernel_rfl) (by kernel_rfl) (by kernel_rfl) (fun _ _ _ h => h) (Or.inl ⟨rfl, fun w' hw' => ?_⟩) hHeld ?_
            · go_simp
            simp only [List.getElem_toArray, List.getElem_cons_succ, List.getElem_cons_zero, Act.put, List.setIfInBounds_toArray, List.set_cons_zero, List.set_cons_succ]
            refine wpAnyH_take (i := 7) (v := Value.pointer (some ⟨gy, k, none⟩)) rfl (by kernel_rfl) (by kernel_rfl) (by kernel_rfl) (fun _ _ _ h => h) (Or.inl ⟨rfl, fun w' hw' => ?_⟩) hHeld ?_
            · go_simp
            simp only [List.getElem_toArray, List.getElem_cons_succ, List.getElem_cons_zero, Act.put, List.setIfInBounds_toArray, List.set_cons_zero, List.set_cons_succ]
            refine wpAnyH_take (i := 8) (v := Value.int .i64 (yk : Int)) rfl (by kernel_rfl) (by kernel_rfl) (by kernel_rfl) (fun _ _ _ h => h) (Or.inl ⟨rfl, fun w' hw' => ?_⟩) hHeld ?_
            · have q9 := (hw'.cell (p := ⟨gy, k, none⟩) (by show gy < wr.heap.size; omega)).trans HYKw.out; go_simp
            simp only [List.getElem_toArray, List.getElem_cons_succ, List.getElem_cons_zero, Act.put, List.setIfInBounds_toArray, List.set_cons_zero, List.set_cons_succ]
            refine wpAnyH_take (i := 9) (v := Value.int .i64 (m : Int)) rfl (by kernel_rfl) (by kernel_rfl) (by kernel_rfl) (fun _ _ _ h => h) (Or.inl ⟨rfl, fun w' hw' => ?_⟩) hHeld ?_
            · go_simp; rw [HMI.out]; exact IntWalk.i64_in _ ⟨by omega, by omega⟩
            simp only [List.getElem_toArray, List.getElem_cons_succ, List.getElem_cons_zero, Act.put, List.setIfInBounds_toArray, List.set_cons_zero, List.set_cons_succ]
            refine wpAnyH_take (i := 10) (v := Value.int .i64 (n : Int)) rfl (by kernel_rfl) (by kernel_rfl) (by kernel_rfl) (fun _ _ _ h => h) (Or.inl ⟨rfl, fun w' hw' => ?_⟩) hHeld ?_
            · go_simp; rw [HNI.out]; exact IntWalk.i64_in _ ⟨by omega, by omega⟩
            simp only [List.getElem_toArray, List.getElem_cons_succ, List.getElem_cons_zero, Act.put, List.setIfInBounds_toArray, List.set_cons_zero, List.set_cons_succ]
            refine wpAnyH_take (i := 11) (v := Value.int .i64 (n : Int)) rfl (by kernel_rfl) (by kernel_rfl) (by kernel_rfl) (fun _ _ _ h => h) (Or.inl ⟨rfl, fun w' hw' => ?_⟩) hHeld ?_
            · go_simp
            simp only [List.getElem_toArray, List.getElem_cons_succ, List.getElem_cons_zero, Act.put, List.setIfInBounds_toArray, List.set_cons_zero, List.set_cons_succ]
            refine wpAnyH_done (by kernel_rfl) ?_ _
            refine NoPanic.normal ?_
            clear hHeld
            go_wp2_with fail
            refine ⟨HREL.out.drew, ?_⟩
            have := HMS.out
            simp [intOf]; omega
          · have q2 : decide ((k : Int) < (q : Int)) = false := decide_eq_false (by omega)
            have q3 : decide ((0 : Int) < (c : Int)) = true := decide_eq_true (by omega)
            have hky : ¬ k < y.length := by rw [← HQ.out]; exact hkq
            rw [if_neg hky] at hn
            have hnn : n = n0 := by omega
            subst hnn
            clear hn hn0
            go_wp2_with fail
            refine ⟨HREL.out, ?_⟩
            have := HMS.out
            simp [intOf]; omega
        · have q2 : decide ((k : Int) < (q : Int)) = false := decide_eq_false (by omega)
          have q3 : decide ((0 : Int) < (c : Int)) = false := decide_eq_false (by omega)
          have HREL : Hid (MoInv x y w2 g0 (.int .i64 ((i : Int) + 1)) wr) := ⟨i + 1, out2, by omega, by go_num, hmi.done (by rw [← HQ.out]; omega) (by omega) hix, hrow, hbel⟩
          clear hmi hrow hbel hlen
          go_wp2_with fail
          go_roundw
          case rel => exact HREL.out
          case measure => simp [intOf]; omega
    · have q1 : decide ((i : Int) < (p : Int)) = false := decide_eq_false (by omega)
      have hol : out.length = N := by rw [HMO.out.len, ← HP.out, ← HQ.out, ← HN.out]
      have hNle : out.length ≤ 1000 := by have h1 := HN.out; omega
      have hil := HRW.out.isL hNle
      rw [hol] at hil
      have FX := Lib.hid (rtext_any out HMO.out.tens _ (b1 != b2) wr hil (by omega))
      clear hNle
      have hv : nval out = nval x * nval y := by rw [HMO.out.val, List.take_of_length_le (by rw [← HP.out]; omega)]
      rw [hv] at FX
      clear HMO HRW hil hol hv
      go_wp2_with fail
      refine FX.out.mono ?_
      rintro e w9 ⟨rfl, hb⟩
      have HBB := Lib.hid (HB2.out.trans ((HB.out.trans (hb.mono HB.out.size)).mono HB2.out.size))
      clear hb
      go_wp2_with fail
      go_ret2
      exact ⟨rfl, HBB.out⟩
end Go.Proofs.YtebadokchhnmfaaDoor
/- Digits compared: the mathematics. -/
namespace Go.Proofs.YtebadokchhnmfaaDoor
open Go.RowKit Go.BigM
set_option linter.unusedVariables false
theorem top_ge {L : List Nat} (t : Top L) (h : L ≠ []) : 10 ^ (L.length - 1) ≤ nval L := by
  rcases List.eq_nil_or_concat L with rfl | ⟨M, a, rfl⟩
  · exact absurd rfl h
  · simp only [List.concat_eq_append] at *
    rw [nval_snoc]
    rcases t with t | t
    · simp at t
    · simp only [List.length_append, List.length_singleton, Nat.add_sub_cancel] at t ⊢
      rw [List.getD_eq_getElem?_getD, List.getElem?_append_right (Nat.le_refl _)] at t
      simp only [Nat.sub_self, List.getElem?_cons_zero, Option.getD_some] at t
      have : 10 ^ M.length * 1 ≤ 10 ^ M.length * a := Nat.mul_le_mul_left _ (by omega)
      omega
theorem cmp_len {A B : List Nat} (hA : Tens A) (tB : Top B) (h : A.length < B.length) : nval A < nval B := by
  have h1 := nval_lt A hA
  have h2 := top_ge tB (by rintro rfl; simp at h)
  have h3 : 10 ^ A.length ≤ 10 ^ (B.length - 1) := Nat.pow_le_pow_right (by decide) (by omega)
  omega
theorem nval_at (A : List Nat) (i : Nat) (hi : i < A.length) : nval A = nval (A.take i) + 10 ^ i * (A.getD i 0 + 10 * nval (A.drop (i + 1))) := by
  have e : A = A.take i ++ (A[i] :: A.drop (i + 1)) := by rw [← List.drop_eq_getElem_cons hi, List.take_append_drop]
  have hg : A.getD i 0 = A[i] := by rw [List.getD_eq_getElem?_getD, List.getElem?_eq_getElem hi]; rfl
  rw [hg]
  conv => lhs; rw [e]
  rw [nval_append, List.length_take, Nat.min_eq_left (by omega)]
  rfl
theorem cmp_at {A B : List Nat} (hA : Tens A) (i : Nat) (hi : i < A.length) (hj : i < B.length) (hd : A.drop (i + 1) = B.drop (i + 1)) (hlt : A.getD i 0 < B.getD i 0) : nval A < nval B := by
  rw [nval_at A i hi, nval_at B i hj, hd]
  have h1 := nval_lt _ (hA.take i)
  rw [List.length_take, Nat.min_eq_left (by omega)] at h1
  have h2 : 10 ^ i * (A.getD i 0 + 10 * nval (B.drop (i + 1)) + 1) ≤ 10 ^ i * (B.getD i 0 + 10 * nval (B.drop (i + 1))) := Nat.mul_le_mul_left _ (by omega)
  rw [Nat.mul_add, Nat.mul_one] at h2
  omega
set_option maxHeartbeats 2000000 in
theorem sign_any (n : Int) (h1 : -1000000 ≤ n) (h2 : n ≤ 1000000) (w : World) : Calls Tryd.prog 54 #[.int .i64 n] w fun e w' => e = .returned (.int .i64 (cmpI n 0)) ∧ w = w' := by
  unfold cmpI
  rcases Int.lt_trichotomy n 0 with h | h | h
  · have q1 : decide (n < 0) = true := decide_eq_true h
    rw [if_pos h]
    go_enter Tryd.func54, Tryd.ntmps54
    go_wp2_with fail
    go_ret
    exact ⟨rfl, rfl⟩
  · subst h
    go_enter Tryd.func54, Tryd.ntmps54
    go_wp2_with fail
    go_ret
    exact ⟨rfl, rfl⟩
  · have q1 : decide (n < 0) = false := decide_eq_false (by omega)
    have q2 : decide (0 < n) = true := decide_eq_true h
    rw [if_neg (by omega), if_neg (by omega)]
    go_enter Tryd.func54, Tryd.ntmps54
    go_wp2_with fail
    go_ret
    exact ⟨rfl, rfl⟩
end Go.Proofs.YtebadokchhnmfaaDoor
/- Digits compared: the walk. -/
namespace Go.Proofs.YtebadokchhnmfaaDoor
open Go.RowKit Go.BigM
set_option linter.unusedVariables false
set_option linter.unusedSimpArgs false
def CmInv (A B : List Nat) (w : World) (iv : Value) (wr : World) : Prop := ∃ i : Nat, i ≤ A.length ∧ iv = .int .i64 (i : Int) ∧ A.drop i = B.drop i ∧ Below w.heap.size w wr
def RetCm (A B : List Nat) (w : World) (e : Ending) (w' : World) : Prop := e = .returned (.int .i64 (cmpI (nval A) (nval B))) ∧ Below w.heap.size w w'
theorem cmpI_sub (x y a b : Int) (h1 : x < y ↔ a < b) (h2 : x = y ↔ a = b) : cmpI x y = cmpI (a - b) 0 := by
  have e1 : (a - b < 0) ↔ a < b := by omega
  have e2 : (a - b = 0) ↔ a = b := by omega
  unfold cmpI
  simp only [h1, h2, e1, e2]
set_option maxHeartbeats 8000000 in
set_option maxRecDepth 100000 in
theorem refcmp_any (A B : List Nat) (hA : Tens A) (hB : Tens B) (tA : Top A) (tB : Top B) (u v : Value) (w : World) (hu : IsL w u A) (hv : IsL w v B) (la : A.length ≤ 100000) (lb : B.length ≤ 100000) :
    Calls Tryd.prog 39 #[u, v] w (RetCm A B w) := by
  obtain ⟨ax, cx, rfl, hxp⟩ := hu.ptr
  obtain ⟨ay, cy, rfl, hyp⟩ := hv.ptr
  have HXP := Lib.hid hxp
  have HYP := Lib.hid hyp
  have TA := Lib.hid hA
  have TB := Lib.hid hB
  clear hu hv hxp hyp
  by_cases hpq : A.length = B.length
  · obtain ⟨p, hp⟩ : ∃ p, p = A.length := ⟨_, rfl⟩
    have hq : p = B.length := hp.trans hpq
    rw [← hp, ← hq]
    have HP := Lib.hid hp
    have HQ := Lib.hid hq
    rw [← hp] at la
    have H0 : Hid (CmInv A B w (.int .i64 (p : Int)) w) := ⟨p, by omega, rfl, by rw [List.drop_of_length_le (by omega), List.drop_of_length_le (by omega)], Below.refl _ _⟩
    clear hp hq lb hpq tA tB hA hB
    go_enter Tryd.func39, Tryd.ntmps39
    go_wp2_with fail
    go_loopw [5] (fun iv wr => CmInv A B w iv wr) (fun iv _ => (intOf iv).toNat)
    case atStart => exact H0.out
    case round =>
      clear H0
      obtain ⟨i, hi, rfl, hd, hb⟩ := hrel
      rw [← HP.out] at hi
      rcases Nat.eq_zero_or_pos i with h0 | h0
      · subst h0
        have hAB : A = B := hd
        have HB := Lib.hid hb
        have HE : Hid (cmpI (nval A) (nval B) = 0) := by show _ = _; rw [hAB]; unfold cmpI; simp
        clear hd hb hAB
        go_wp2_with fail
        go_ret
        exact ⟨by rw [HE.out]; rfl, HB.out⟩
      · obtain ⟨j, rfl⟩ : ∃ j, i = j + 1 := ⟨i - 1, by omega⟩
        have q1 : decide ((0 : Int) < (j : Int) + 1) = true := decide_eq_true (by omega)
        obtain ⟨gx, hgx, hx⟩ := HXP.out j (by rw [← HP.out]; omega)
        obtain ⟨gy, hgy, hy⟩ := HYP.out j (by rw [← HQ.out]; omega)
        subst hgx hgy
        obtain ⟨a, ha⟩ : ∃ a, A.getD j 0 = a := ⟨_, rfl⟩
        obtain ⟨b, hb2⟩ : ∃ b, B.getD j 0 = b := ⟨_, rfl⟩
        have ha9 : a ≤ 9 := by rw [← ha]; exact TA.out.getD j
        have hb9 : b ≤ 9 := by rw [← hb2]; exact TB.out.getD j
        rw [ha] at hx
        rw [hb2] at hy
        have hgx : gx < w.heap.size := World.block_lt_of_cell? w _ hx
        have hgy : gy < w.heap.size := World.block_lt_of_cell? w _ hy
        have hsz := hb.size
        have HX := Lib.hid ((hb.cell (p := ⟨gx, j, none⟩) hgx).trans hx)
        have HY := Lib.hid ((hb.cell (p := ⟨gy, j, none⟩) hgy).trans hy)
        have HB := Lib.hid hb
        have hjp : j < p := hi
        clear hi h0
        generalize wr = W at *
        have HD : Hid (A.drop (j + 1) = B.drop (j + 1) ∧ A.getD j 0 = a ∧ B.getD j 0 = b) := ⟨hd, ha, hb2⟩
        clear hx hy hb hd ha hb2
        by_cases hab : a = b
        · subst hab
          go_upto_region 6 with fail
          refine wp_region_noPanic ?_
          refine wp_region_held_drew (S := Below W.heap.size W) (by kernel_rfl) ((Below.refl _ _).drew) (fun hHeld => ?_)
          refine wpAnyH_take (i := 0) (v := Value.slice (some ⟨gx, 0, none⟩) p cx) rfl (by kernel_rfl) (by kernel_rfl) (by kernel_rfl) (fun _ _ _ h => h) (Or.inl ⟨rfl, fun w' hw' => ?_⟩) hHeld ?_
          · go_simp
          simp only [List.getElem_toArray, List.getElem_cons_succ, List.getElem_cons_zero, Act.put, List.setIfInBounds_toArray, List.set_cons_zero, List.set_cons_succ]
          refine wpAnyH_take (i := 1) (v := Value.int .i64 ((j : Int) + 1)) rfl (by kernel_rfl) (by kernel_rfl) (by kernel_rfl) (fun _ _ _ h => h) (Or.inl ⟨rfl, fun w' hw' => ?_⟩) hHeld ?_
          · go_simp
          simp only [List.getElem_toArray, List.getElem_cons_succ, List.getElem_cons_zero, Act.put, List.setIfInBounds_toArray, List.set_cons_zero, List.set_cons_succ]
          refine wpAnyH_take (i := 2) (v := Value.int .i64 (j : Int)) rfl (by kernel_rfl) (by kernel_rfl) (by kernel_rfl) (fun _ _ _ h => h) (Or.inl ⟨rfl, fun w' hw' => ?_⟩) hHeld ?_
          · go_simp; exact IntWalk.i64_in _ ⟨by omega, by omega⟩
          simp only [List.getElem_toArray, List.getElem_cons_succ, List.getElem_cons_zero, Act.put, List.setIfInBounds_toArray, List.set_cons_zero, List.set_cons_succ]
          refine wpAnyH_take (i := 3) (v := Value.pointer (some ⟨gx, j, none⟩)) rfl (by kernel_rfl) (by kernel_rfl) (by kernel_rfl) (fun _ _ _ h => h) (Or.inl ⟨rfl, fun w' hw' => ?_⟩) hHeld ?_
          · go_simp
          simp only [List.getElem_toArray, List.getElem_cons_succ, List.getElem_cons_zero, Act.put, List.setIfInBounds_toArray, List.set_cons_zero, List.set_cons_succ]
          refine wpAnyH_take (i := 4) (v := Value.int .i64 (a : Int)) rfl (by kernel_rfl) (by kernel_rfl) (by kernel_rfl) (fun _ _ _ h => h) (Or.inl ⟨rfl, fun w' hw' => ?_⟩) hHeld ?_
          · have q9 := (hw'.cell (p := ⟨gx, j, none⟩) (by show gx < W.heap.size; omega)).trans HX.out; go_simp
          simp only [List.getElem_toArray, List.getElem_cons_succ, List.getElem_cons_zero, Act.put, List.setIfInBounds_toArray, List.set_cons_zero, List.set_cons_succ]
          refine wpAnyH_take (i := 5) (v := Value.slice (some ⟨gy, 0, none⟩) p cy) rfl (by kernel_rfl) (by kernel_rfl) (by kernel_rfl) (fun _ _ _ h => h) (Or.inl ⟨rfl, fun w' hw' => ?_⟩) hHeld ?_
          · go_simp
          simp only [List.getElem_toArray, List.getElem_cons_succ, List.getElem_cons_zero, Act.put, List.setIfInBounds_toArray, List.set_cons_zero, List.set_cons_succ]
          refine wpAnyH_take (i := 6) (v := Value.int .i64 ((j : Int) + 1)) rfl (by kernel_rfl) (by kernel_rfl) (by kernel_rfl) (fun _ _ _ h => h) (Or.inl ⟨rfl, fun w' hw' => ?_⟩) hHeld ?_
          · go_simp
          simp only [List.getElem_toArray, List.getElem_cons_succ, List.getElem_cons_zero, Act.put, List.setIfInBounds_toArray, List.set_cons_zero, List.set_cons_succ]
          refine wpAnyH_take (i := 7) (v := Value.int .i64 (j : Int)) rfl (by kernel_rfl) (by kernel_rfl) (by kernel_rfl) (fun _ _ _ h => h) (Or.inl ⟨rfl, fun w' hw' => ?_⟩) hHeld ?_
          · go_simp; exact IntWalk.i64_in _ ⟨by omega, by omega⟩
          simp only [List.getElem_toArray, List.getElem_cons_succ, List.getElem_cons_zero, Act.put, List.setIfInBounds_toArray, List.set_cons_zero, List.set_cons_succ]
          refine wpAnyH_take (i := 8) (v := Value.pointer (some ⟨gy, j, none⟩)) rfl (by kernel_rfl) (by kernel_rfl) (by kernel_rfl) (fun _ _ _ h => h) (Or.inl ⟨rfl, fun w' hw' => ?_⟩) hHeld ?_
          · go_simp
          simp only [List.getElem_toArray, List.getElem_cons_succ, List.getElem_cons_zero, Act.put, List.setIfInBounds_toArray, List.set_cons_zero, List.set_cons_succ]
          refine wpAnyH_take (i := 9) (v := Value.int .i64 (a : Int)) rfl (by kernel_rfl) (by kernel_rfl) (by kernel_rfl) (fun _ _ _ h => h) (Or.inl ⟨rfl, fun w' hw' => ?_⟩) hHeld ?_
          · have q9 := (hw'.cell (p := ⟨gy, j, none⟩) (by show gy < W.heap.size; omega)).trans HY.out; go_simp
          simp only [List.getElem_toArray, List.getElem_cons_succ, List.getElem_cons_zero, Act.put, List.setIfInBounds_toArray, List.set_cons_zero, List.set_cons_succ]
          refine wpAnyH_take (i := 10) (v := Value.bool false) rfl (by kernel_rfl) (by kernel_rfl) (by kernel_rfl) (fun _ _ _ h => h) (Or.inl ⟨rfl, fun w' hw' => ?_⟩) hHeld ?_
          · go_simp
          simp only [List.getElem_toArray, List.getElem_cons_succ, List.getElem_cons_zero, Act.put, List.setIfInBounds_toArray, List.set_cons_zero, List.set_cons_succ]
          refine wpAnyH_done (by kernel_rfl) ?_ _
          refine NoPanic.normal ?_
          clear hHeld
          go_wp2_with fail
          refine ⟨⟨j, by rw [← HP.out]; omega, by go_num, ?_, HB.out.drew⟩, by simp [intOf]⟩
          obtain ⟨h1, h2, h3⟩ := HD.out
          have ja : j < A.length := by rw [← HP.out]; exact hjp
          have jb : j < B.length := by rw [← HQ.out]; exact hjp
          rw [List.drop_eq_getElem_cons ja, List.drop_eq_getElem_cons jb, h1]
          rw [List.getD_eq_getElem?_getD, List.getElem?_eq_getElem ja] at h2
          rw [List.getD_eq_getElem?_getD, List.getElem?_eq_getElem jb] at h3
          simp only [Option.getD_some] at h2 h3
          rw [h2, h3]
        · have q2 : decide ((a : Int) = (b : Int)) = false := decide_eq_false (by omega)
          go_upto_region 6 with fail
          refine wp_region_noPanic ?_
          refine wp_region_held_drew (S := Below W.heap.size W) (by kernel_rfl) ((Below.refl _ _).drew) (fun hHeld => ?_)
          refine wpAnyH_take (i := 0) (v := Value.slice (some ⟨gx, 0, none⟩) p cx) rfl (by kernel_rfl) (by kernel_rfl) (by kernel_rfl) (fun _ _ _ h => h) (Or.inl ⟨rfl, fun w' hw' => ?_⟩) hHeld ?_
          · go_simp
          simp only [List.getElem_toArray, List.getElem_cons_succ, List.getElem_cons_zero, Act.put, List.setIfInBounds_toArray, List.set_cons_zero, List.set_cons_succ]
          refine wpAnyH_take (i := 1) (v := Value.int .i64 ((j : Int) + 1)) rfl (by kernel_rfl) (by kernel_rfl) (by kernel_rfl) (fun _ _ _ h => h) (Or.inl ⟨rfl, fun w' hw' => ?_⟩) hHeld ?_
          · go_simp
          simp only [List.getElem_toArray, List.getElem_cons_succ, List.getElem_cons_zero, Act.put, List.setIfInBounds_toArray, List.set_cons_zero, List.set_cons_succ]
          refine wpAnyH_take (i := 2) (v := Value.int .i64 (j : Int)) rfl (by kernel_rfl) (by kernel_rfl) (by kernel_rfl) (fun _ _ _ h => h) (Or.inl ⟨rfl, fun w' hw' => ?_⟩) hHeld ?_
          · go_simp; exact IntWalk.i64_in _ ⟨by omega, by omega⟩
          simp only [List.getElem_toArray, List.getElem_cons_succ, List.getElem_cons_zero, Act.put, List.setIfInBounds_toArray, List.set_cons_zero, List.set_cons_succ]
          refine wpAnyH_take (i := 3) (v := Value.pointer (some ⟨gx, j, none⟩)) rfl (by kernel_rfl) (by kernel_rfl) (by kernel_rfl) (fun _ _ _ h => h) (Or.inl ⟨rfl, fun w' hw' => ?_⟩) hHeld ?_
          · go_simp
          simp only [List.getElem_toArray, List.getElem_cons_succ, List.getElem_cons_zero, Act.put, List.setIfInBounds_toArray, List.set_cons_zero, List.set_cons_succ]
          refine wpAnyH_take (i := 4) (v := Value.int .i64 (a : Int)) rfl (by kernel_rfl) (by kernel_rfl) (by kernel_rfl) (fun _ _ _ h => h) (Or.inl ⟨rfl, fun w' hw' => ?_⟩) hHeld ?_
          · have q9 := (hw'.cell (p := ⟨gx, j, none⟩) (by show gx < W.heap.size; omega)).trans HX.out; go_simp
          simp only [List.getElem_toArray, List.getElem_cons_succ, List.getElem_cons_zero, Act.put, List.setIfInBounds_toArray, List.set_cons_zero, List.set_cons_succ]
          refine wpAnyH_take (i := 5) (v := Value.slice (some ⟨gy, 0, none⟩) p cy) rfl (by kernel_rfl) (by kernel_rfl) (by kernel_rfl) (fun _ _ _ h => h) (Or.inl ⟨rfl, fun w' hw' => ?_⟩) hHeld ?_
          · go_simp
          simp only [List.getElem_toArray, List.getElem_cons_succ, List.getElem_cons_zero, Act.put, List.setIfInBounds_toArray, List.set_cons_zero, List.set_cons_succ]
          refine wpAnyH_take (i := 6) (v := Value.int .i64 ((j : Int) + 1)) rfl (by kernel_rfl) (by kernel_rfl) (by kernel_rfl) (fun _ _ _ h => h) (Or.inl ⟨rfl, fun w' hw' => ?_⟩) hHeld ?_
          · go_simp
          simp only [List.getElem_toArray, List.getElem_cons_succ, List.getElem_cons_zero, Act.put, List.setIfInBounds_toArray, List.set_cons_zero, List.set_cons_succ]
          refine wpAnyH_take (i := 7) (v := Value.int .i64 (j : Int)) rfl (by kernel_rfl) (by kernel_rfl) (by kernel_rfl) (fun _ _ _ h => h) (Or.inl ⟨rfl, fun w' hw' => ?_⟩) hHeld ?_
          · go_simp; exact IntWalk.i64_in _ ⟨by omega, by omega⟩
          simp only [List.getElem_toArray, List.getElem_cons_succ, List.getElem_cons_zero, Act.put, List.setIfInBounds_toArray, List.set_cons_zero, List.set_cons_succ]
          refine wpAnyH_take (i := 8) (v := Value.pointer (some ⟨gy, j, none⟩)) rfl (by kernel_rfl) (by kernel_rfl) (by kernel_rfl) (fun _ _ _ h => h) (Or.inl ⟨rfl, fun w' hw' => ?_⟩) hHeld ?_
          · go_simp
          simp only [List.getElem_toArray, List.getElem_cons_succ, List.getElem_cons_zero, Act.put, List.setIfInBounds_toArray, List.set_cons_zero, List.set_cons_succ]
          refine wpAnyH_take (i := 9) (v := Value.int .i64 (b : Int)) rfl (by kernel_rfl) (by kernel_rfl) (by kernel_rfl) (fun _ _ _ h => h) (Or.inl ⟨rfl, fun w' hw' => ?_⟩) hHeld ?_
          · have q9 := (hw'.cell (p := ⟨gy, j, none⟩) (by show gy < W.heap.size; omega)).trans HY.out; go_simp
          simp only [List.getElem_toArray, List.getElem_cons_succ, List.getElem_cons_zero, Act.put, List.setIfInBounds_toArray, List.set_cons_zero, List.set_cons_succ]
          refine wpAnyH_take (i := 10) (v := Value.bool true) rfl (by kernel_rfl) (by kernel_rfl) (by kernel_rfl) (fun _ _ _ h => h) (Or.inl ⟨rfl, fun w' hw' => ?_⟩) hHeld ?_
          · go_simp; omega
          simp only [List.getElem_toArray, List.getElem_cons_succ, List.getElem_cons_zero, Act.put, List.setIfInBounds_toArray, List.set_cons_zero, List.set_cons_succ]
          refine wpAnyH_done (by kernel_rfl) ?_ _
          refine NoPanic.normal ?_
          clear hHeld
          have hn := (Below.refl W.heap.size W).drew
          generalize W.drew = W2 at hn ⊢
          have hsz2 : W.heap.size ≤ W2.heap.size := hn.size
          have HX2 := Lib.hid ((hn.cell (p := ⟨gx, j, none⟩) (by show gx < W.heap.size; omega)).trans HX.out)
          have HY2 := Lib.hid ((hn.cell (p := ⟨gy, j, none⟩) (by show gy < W.heap.size; omega)).trans HY.out)
          have HB2 := Lib.hid (HB.out.trans (hn.mono HB.out.size))
          have HS : Hid (cmpI (nval A) (nval B) = cmpI ((a : Int) - (b : Int)) 0) := by
            obtain ⟨h1, h2, h3⟩ := HD.out
            have ja : j < A.length := by rw [← HP.out]; exact hjp
            have jb : j < B.length := by rw [← HQ.out]; exact hjp
            show _ = _
            rcases Nat.lt_or_ge a b with h | h
            · have := cmp_at TA.out j ja jb h1 (by rw [h2, h3]; exact h)
              exact cmpI_sub _ _ _ _ (by omega) (by omega)
            · have := cmp_at TB.out j jb ja h1.symm (by rw [h2, h3]; omega)
              exact cmpI_sub _ _ _ _ (by omega) (by omega)
          clear HX HY HB hn HD
          have HX := HX2
          have HY := HY2
          go_upto_region 7 with fail
          refine wp_region_noPanic ?_
          refine wp_region_held_drew (S := Below W2.heap.size W2) (by kernel_rfl) ((Below.refl _ _).drew) (fun hHeld => ?_)
          refine wpAnyH_take (i := 0) (v := Value.slice (some ⟨gx, 0, none⟩) p cx) rfl (by kernel_rfl) (by kernel_rfl) (by kernel_rfl) (fun _ _ _ h => h) (Or.inl ⟨rfl, fun w' hw' => ?_⟩) hHeld ?_
          · go_simp
          simp only [List.getElem_toArray, List.getElem_cons_succ, List.getElem_cons_zero, Act.put, List.setIfInBounds_toArray, List.set_cons_zero, List.set_cons_succ]
          refine wpAnyH_take (i := 1) (v := Value.int .i64 ((j : Int) + 1)) rfl (by kernel_rfl) (by kernel_rfl) (by kernel_rfl) (fun _ _ _ h => h) (Or.inl ⟨rfl, fun w' hw' => ?_⟩) hHeld ?_
          · go_simp
          simp only [List.getElem_toArray, List.getElem_cons_succ, List.getElem_cons_zero, Act.put, List.setIfInBounds_toArray, List.set_cons_zero, List.set_cons_succ]
          refine wpAnyH_take (i := 2) (v := Value.int .i64 (j : Int)) rfl (by kernel_rfl) (by kernel_rfl) (by kernel_rfl) (fun _ _ _ h => h) (Or.inl ⟨rfl, fun w' hw' => ?_⟩) hHeld ?_
          · go_simp; exact IntWalk.i64_in _ ⟨by omega, by omega⟩
          simp only [List.getElem_toArray, List.getElem_cons_succ, List.getElem_cons_zero, Act.put, List.setIfInBounds_toArray, List.set_cons_zero, List.set_cons_succ]
          refine wpAnyH_take (i := 3) (v := Value.pointer (some ⟨gx, j, none⟩)) rfl (by kernel_rfl) (by kernel_rfl) (by kernel_rfl) (fun _ _ _ h => h) (Or.inl ⟨rfl, fun w' hw' => ?_⟩) hHeld ?_
          · go_simp
          simp only [List.getElem_toArray, List.getElem_cons_succ, List.getElem_cons_zero, Act.put, List.setIfInBounds_toArray, List.set_cons_zero, List.set_cons_succ]
          refine wpAnyH_take (i := 4) (v := Value.int .i64 (a : Int)) rfl (by kernel_rfl) (by kernel_rfl) (by kernel_rfl) (fun _ _ _ h => h) (Or.inl ⟨rfl, fun w' hw' => ?_⟩) hHeld ?_
          · have q9 := (hw'.cell (p := ⟨gx, j, none⟩) (by show gx < W2.heap.size; omega)).trans HX.out; go_simp
          simp only [List.getElem_toArray, List.getElem_cons_succ, List.getElem_cons_zero, Act.put, List.setIfInBounds_toArray, List.set_cons_zero, List.set_cons_succ]
          refine wpAnyH_take (i := 5) (v := Value.slice (some ⟨gy, 0, none⟩) p cy) rfl (by kernel_rfl) (by kernel_rfl) (by kernel_rfl) (fun _ _ _ h => h) (Or.inl ⟨rfl, fun w' hw' => ?_⟩) hHeld ?_
          · go_simp
          simp only [List.getElem_toArray, List.getElem_cons_succ, List.getElem_cons_zero, Act.put, List.setIfInBounds_toArray, List.set_cons_zero, List.set_cons_succ]
          refine wpAnyH_take (i := 6) (v := Value.int .i64 ((j : Int) + 1)) rfl (by kernel_rfl) (by kernel_rfl) (by kernel_rfl) (fun _ _ _ h => h) (Or.inl ⟨rfl, fun w' hw' => ?_⟩) hHeld ?_
          · go_simp
          simp only [List.getElem_toArray, List.getElem_cons_succ, List.getElem_cons_zero, Act.put, List.setIfInBounds_toArray, List.set_cons_zero, List.set_cons_succ]
          refine wpAnyH_take (i := 7) (v := Value.int .i64 (j : Int)) rfl (by kernel_rfl) (by kernel_rfl) (by kernel_rfl) (fun _ _ _ h => h) (Or.inl ⟨rfl, fun w' hw' => ?_⟩) hHeld ?_
          · go_simp; exact IntWalk.i64_in _ ⟨by omega, by omega⟩
          simp only [List.getElem_toArray, List.getElem_cons_succ, List.getElem_cons_zero, Act.put, List.setIfInBounds_toArray, List.set_cons_zero, List.set_cons_succ]
          refine wpAnyH_take (i := 8) (v := Value.pointer (some ⟨gy, j, none⟩)) rfl (by kernel_rfl) (by kernel_rfl) (by kernel_rfl) (fun _ _ _ h => h) (Or.inl ⟨rfl, fun w' hw' => ?_⟩) hHeld ?_
          · go_simp
          simp only [List.getElem_toArray, List.getElem_cons_succ, List.getElem_cons_zero, Act.put, List.setIfInBounds_toArray, List.set_cons_zero, List.set_cons_succ]
          refine wpAnyH_take (i := 9) (v := Value.int .i64 (b : Int)) rfl (by kernel_rfl) (by kernel_rfl) (by kernel_rfl) (fun _ _ _ h => h) (Or.inl ⟨rfl, fun w' hw' => ?_⟩) hHeld ?_
          · have q9 := (hw'.cell (p := ⟨gy, j, none⟩) (by show gy < W2.heap.size; omega)).trans HY.out; go_simp
          simp only [List.getElem_toArray, List.getElem_cons_succ, List.getElem_cons_zero, Act.put, List.setIfInBounds_toArray, List.set_cons_zero, List.set_cons_succ]
          refine wpAnyH_take (i := 10) (v := Value.int .i64 ((a : Int) - (b : Int))) rfl (by kernel_rfl) (by kernel_rfl) (by kernel_rfl) (fun _ _ _ h => h) (Or.inl ⟨rfl, fun w' hw' => ?_⟩) hHeld ?_
          · go_simp; exact IntWalk.i64_in _ ⟨by omega, by omega⟩
          simp only [List.getElem_toArray, List.getElem_cons_succ, List.getElem_cons_zero, Act.put, List.setIfInBounds_toArray, List.set_cons_zero, List.set_cons_succ]
          refine wpAnyH_ready (rs := [11]) (by kernel_rfl) (by simp) ?_
          refine (AllReadyH.cons rfl (fun K hK => ?_) AllReadyH.nil)
          go_simp
          refine (sign_any ((a : Int) - (b : Int)) (by omega) (by omega) _).mono ?_
          rintro e w7 ⟨rfl, rfl⟩
          refine hK _ _ hHeld (fun hHeld => ?_)
          clear hK K
          try simp only [List.getElem_toArray, List.getElem_cons_succ, List.getElem_cons_zero, Act.put, List.setIfInBounds_toArray, List.set_cons_zero, List.set_cons_succ]
          refine wpAnyH_take (i := 12) (v := Value.int .i64 (cmpI ((a : Int) - (b : Int)) 0)) rfl (by kernel_rfl) (by kernel_rfl) (by kernel_rfl) (fun _ _ _ h => h) (Or.inl ⟨rfl, fun w' hw' => ?_⟩) hHeld ?_
          · go_simp
          simp only [List.getElem_toArray, List.getElem_cons_succ, List.getElem_cons_zero, Act.put, List.setIfInBounds_toArray, List.set_cons_zero, List.set_cons_succ]
          refine wpAnyH_done (by kernel_rfl) ?_ _
          refine NoPanic.normal ?_
          clear hHeld
          go_wp2_with fail
          go_ret
          exact ⟨by rw [HS.out]; rfl, HB2.out.drew⟩
  · obtain ⟨p, hp⟩ : ∃ p, p = A.length := ⟨_, rfl⟩
    obtain ⟨q, hq⟩ : ∃ q, q = B.length := ⟨_, rfl⟩
    have HS : Hid (cmpI (nval A) (nval B) = cmpI ((p : Int) - (q : Int)) 0) := by
      show _ = _
      rcases Nat.lt_or_ge A.length B.length with h | h
      · have := cmp_len hA tB h
        exact cmpI_sub _ _ _ _ (by omega) (by omega)
      · have := cmp_len hB tA (by omega)
        exact cmpI_sub _ _ _ _ (by omega) (by omega)
    rw [← hp] at la hpq
    rw [← hq] at lb hpq
    rw [← hp, ← hq]
    have q2 : decide ((p : Int) = (q : Int)) = false := decide_eq_false (by omega)
    have hpq2 : ¬ (p : Int) = (q : Int) := by omega
    have FS := Lib.hid (fun w => sign_any ((p : Int) - (q : Int)) (by omega) (by omega) w)
    clear hp hq tA tB hA hB
    go_enter Tryd.func39, Tryd.ntmps39
    go_wp2_with fail
    refine (FS.out _).mono ?_
    rintro e w7 ⟨rfl, rfl⟩
    go_wp2_with fail
    go_ret
    exact ⟨by rw [HS.out]; rfl, Below.refl _ _⟩
end Go.Proofs.YtebadokchhnmfaaDoor
/- The document's sum of digits. -/
namespace Go.Proofs.YtebadokchhnmfaaDoor
open Go.RowKit Go.BigM
set_option linter.unusedVariables false
set_option linter.unusedSimpArgs false
theorem nval_take_getD (L : List Nat) (i : Nat) : nval (L.take (i + 1)) = nval (L.take i) + 10 ^ i * L.getD i 0 := by
  rcases Nat.lt_or_ge i L.length with h | h
  · rw [nval_take_succ L i h, List.getD_eq_getElem?_getD, List.getElem?_eq_getElem h]; rfl
  · rw [List.take_of_length_le h, List.take_of_length_le (by omega), List.getD_eq_getElem?_getD, List.getElem?_eq_none h]; simp
structure Pl (A B out : List Nat) (M i c : Nat) : Prop where
  len : out.length = i
  tens : Tens out
  carry : c ≤ 1
  le : i ≤ M + 1
  last : i = M + 1 → c = 0
  val : nval out + 10 ^ i * c = nval (A.take i) + nval (B.take i)
def PlInv (A B : List Nat) (M : Nat) (w : World) (v cv iv : Value) (wr : World) : Prop :=
  ∃ (i c : Nat) (out : List Nat), iv = .int .i64 (i : Int) ∧ cv = .int .i64 (c : Int) ∧ Pl A B out M i c ∧ OwnI w.heap.size wr v out ∧ Below w.heap.size w wr
theorem Pl.step {A B out : List Nat} {M i c : Nat} (h : Pl A B out M i c) (hgo : i ≤ M) (n : Nat) (hn : n = c + A.getD i 0 + B.getD i 0) (ha : A.getD i 0 ≤ 9) (hb : B.getD i 0 ≤ 9) (hM : i = M → A.getD i 0 = 0 ∧ B.getD i 0 = 0) : Pl A B (out ++ [n % 10]) M (i + 1) (n / 10) := by
  have hc := h.carry
  refine ⟨by rw [List.length_append, h.len]; rfl, ?_, by omega, by omega, ?_, ?_⟩
  · intro x hx
    rcases List.mem_append.1 hx with hx | hx
    · exact h.tens x hx
    · simp at hx; omega
  · intro e
    have := hM (by omega)
    omega
  · rw [nval_snoc, h.len, nval_take_getD, nval_take_getD]
    have hv := h.val
    have e1 : 10 ^ (i + 1) * (n / 10) = 10 ^ i * (10 * (n / 10)) := by rw [Nat.pow_succ, Nat.mul_assoc]
    have e2 : 10 ^ i * (n % 10) + 10 ^ i * (10 * (n / 10)) = 10 ^ i * n := by rw [← Nat.mul_add]; congr 1; omega
    have e3 : 10 ^ i * n = 10 ^ i * c + 10 ^ i * A.getD i 0 + 10 ^ i * B.getD i 0 := by rw [hn, Nat.mul_add, Nat.mul_add]
    omega
theorem pl_step {A B out : List Nat} {M i c : Nat} {w wr w2 : World} {v v' : Value} (h : Pl A B out M i c ∧ (A.getD i 0 ≤ 9 ∧ B.getD i 0 ≤ 9) ∧ (i = M → A.getD i 0 = 0 ∧ B.getD i 0 = 0)) (hgo : i ≤ M) (n : Nat) (hn : n = c + A.getD i 0 + B.getD i 0)
    (r : Nat) (hr : r = n % 10) (d : Nat) (hd : d = n / 10) (hown : OwnI w.heap.size wr v out) (hb : Below w.heap.size w wr)
    (h2 : OwnI w.heap.size w2 v' (out ++ [r])) (hg : (wr.alloc (.cells #[.int .i64 (r : Int)] 3)).grownBy w2 v.ownBlock) : PlInv A B M w v' (.int .i64 (d : Int)) (.int .i64 ((i : Int) + 1)) w2 := by
  have hs := hb.size
  subst hr hd
  exact ⟨i + 1, n / 10, _, by go_num, rfl, h.1.step hgo n hn h.2.1.1 h.2.1.2 h.2.2, h2, (hb.alloc hs _).grown hg (by simp; omega) (fun k hk => (hown.lt k hk).1)⟩
def RetPl (n : Nat) (w : World) (e : Ending) (w' : World) : Prop := ∃ u P, e = .returned u ∧ IsL w' u P ∧ Tens P ∧ nval P = n ∧ P.length ≤ 301 ∧ Below w.heap.size w w'
set_option maxHeartbeats 8000000 in
set_option maxRecDepth 100000 in
theorem refplus_any (A B : List Nat) (hA : Tens A) (hB : Tens B) (u v : Value) (w : World) (hu : IsL w u A) (hv : IsL w v B) (la : A.length ≤ 300) (lb : B.length ≤ 300) :
    Calls Tryd.prog 49 #[u, v] w (RetPl (nval A + nval B) w) := by
  obtain ⟨ax, cx, rfl, hxp⟩ := hu.ptr
  obtain ⟨ay, cy, rfl, hyp⟩ := hv.ptr
  obtain ⟨p, hp⟩ : ∃ p, p = A.length := ⟨_, rfl⟩
  obtain ⟨q, hq⟩ : ∃ q, q = B.length := ⟨_, rfl⟩
  obtain ⟨M, hM1, hM2, hM3⟩ : ∃ M, p ≤ M ∧ q ≤ M ∧ M ≤ 300 := ⟨300, by omega, by omega, by omega⟩
  have HXP := Lib.hid hxp
  have HYP := Lib.hid hyp
  have TA := Lib.hid hA
  have TB := Lib.hid hB
  have HP := Lib.hid hp
  have HQ := Lib.hid hq
  rw [← hp] at la
  rw [← hq] at lb
  rw [← hp, ← hq]
  have H0 : Hid (PlInv A B M w (.slice none 0 0) (.int .i64 0) (.int .i64 0) w) := ⟨0, 0, [], rfl, rfl, ⟨rfl, fun x hx => by simp at hx, by omega, by omega, by omega, by simp [nval]⟩, OwnI.nil _ _, Below.refl _ _⟩
  clear hu hv hxp hyp hp hq hA hB
  go_enter Tryd.func49, Tryd.ntmps49
  go_wp2_with fail
  go_loopw [5, 6, 7] (fun v cv iv wr => PlInv A B M w v cv iv wr) (fun _ _ iv _ => M + 2 - (intOf iv).toNat)
  case atStart => exact H0.out
  case round =>
    clear H0
    obtain ⟨i, c, out, rfl, rfl, hpl, hown, hb⟩ := hrel
    have hc := hpl.carry
    have hile := hpl.le
    have hlast := hpl.last
    have HL : Hid (out.length = i) := hpl.len
    have HO := Lib.hid hown
    have HB := Lib.hid hb
    have ha0 : p ≤ i → A.getD i 0 = 0 := fun h => by rw [List.getD_eq_getElem?_getD, List.getElem?_eq_none (by rw [← HP.out]; exact h)]; rfl
    have hb0 : q ≤ i → B.getD i 0 = 0 := fun h => by rw [List.getD_eq_getElem?_getD, List.getElem?_eq_none (by rw [← HQ.out]; exact h)]; rfl
    have HI : Hid (Pl A B out M i c ∧ (A.getD i 0 ≤ 9 ∧ B.getD i 0 ≤ 9) ∧ (i = M → A.getD i 0 = 0 ∧ B.getD i 0 = 0)) := ⟨hpl, ⟨TA.out.getD i, TB.out.getD i⟩, fun e => ⟨ha0 (by omega), hb0 (by omega)⟩⟩
    have ha9 := HI.out.2.1.1
    have hb9 := HI.out.2.1.2
    have hsz := hb.size
    obtain ⟨n, hnn⟩ : ∃ n, n = c + A.getD i 0 + B.getD i 0 := ⟨_, rfl⟩
    obtain ⟨a, haa⟩ : ∃ a, A.getD i 0 = a := ⟨_, rfl⟩
    obtain ⟨b, hbb⟩ : ∃ b, B.getD i 0 = b := ⟨_, rfl⟩
    have hnn' : n = c + a + b := by omega
    clear hpl hown hb
    by_cases hip : i < p
    · have q1 : decide ((i : Int) < (p : Int)) = true := decide_eq_true (by omega)
      obtain ⟨gx, hax, hx⟩ := HXP.out i (by rw [← HP.out]; exact hip)
      subst hax
      rw [haa] at hx
      have hgx : gx < w.heap.size := World.block_lt_of_cell? w _ hx
      have hcx : wr.cell? ⟨gx, i, none⟩ = some (.int .i64 (a : Int)) := (HB.out.cell (p := ⟨gx, i, none⟩) hgx).trans hx
      obtain ⟨n1, hn1⟩ : ∃ n1, n1 = c + a := ⟨_, rfl⟩
      have hn1i : (c : Int) + (a : Int) = (n1 : Int) := by omega
      by_cases hiq : i < q
      · have q2 : decide ((i : Int) < (q : Int)) = true := decide_eq_true (by omega)
        obtain ⟨gy, hay, hy⟩ := HYP.out i (by rw [← HQ.out]; exact hiq)
        subst hay
        rw [hbb] at hy
        have hgy : gy < w.heap.size := World.block_lt_of_cell? w _ hy
        have hcy : wr.cell? ⟨gy, i, none⟩ = some (.int .i64 (b : Int)) := (HB.out.cell (p := ⟨gy, i, none⟩) hgy).trans hy
        have hn2i : (n1 : Int) + (b : Int) = (n : Int) := by omega
        have hn99 : n ≤ 19 := by omega
        have hiM : i ≤ M := by omega
        rw [haa] at ha9
        rw [hbb] at hb9
        clear hx hy hn1 hnn' ha0 hb0 hlast haa hbb
        obtain ⟨r10, hr10⟩ : ∃ r10, r10 = n % 10 := ⟨_, rfl⟩
        obtain ⟨d10, hd10⟩ : ∃ d10, d10 = n / 10 := ⟨_, rfl⟩
        have hd1 : (n : Int) % 10 = (r10 : Int) := by omega
        have hd2 : (n : Int) / 10 = (d10 : Int) := by omega
        have HA := Lib.hid (show OwnI w.heap.size (wr.alloc (.cells #[.int .i64 (r10 : Int)] 3)) u5 out from World.ownsRow.alloc HO.out _)
        have hlen : out.length ≤ 100000 := by have := HL.out; omega
        have HST := Lib.hid (fun v' w2 h2 hg => pl_step (w2 := w2) (v' := v') HI.out (by omega) n hnn r10 hr10 d10 hd10 HO.out HB.out h2 hg)
        have hcl : (wr.alloc (.cells #[.int .i64 (r10 : Int)] 3)).cell? ⟨wr.heap.size, 0, none⟩ = some (.int .i64 (r10 : Int)) := by rw [cell_of_row _ _ _ _ _ _ (heap_alloc_new wr (.cells #[.int .i64 (r10 : Int)] 3))]; rfl
        have hsz2 : w.heap.size ≤ (wr.alloc (.cells #[.int .i64 (r10 : Int)] 3)).heap.size := by have := HB.out.size; simp; omega
        clear hr10 hd10 hnn
        go_wp2_with (refine wpList_wantedR (by rfl) fun K hK => ?_; refine wp_appI1 (Operand.tmp 44) (Operand.tmp 47) rfl w.heap.size u5 _ rfl HA.out wr.heap.size rfl r10 hcl hlen hsz2 ?_; intro v' w9 hown9 hg9; have HM := Lib.hid (HST.out v' w9 hown9 hg9); clear hown9 hg9 HST HA; refine hK _ _ ?_; clear hK K)
        go_roundw
        case rel => exact HM.out
        case measure => simp [intOf]; omega
      · have q2 : decide ((i : Int) < (q : Int)) = false := decide_eq_false (by omega)
        have hbz := hb0 (by omega)
        obtain rfl : n1 = n := by omega
        have hn99 : n1 ≤ 19 := by omega
        have hiM : i ≤ M := by omega
        rw [haa] at ha9
        clear hx hn1 hnn' ha0 hb0 hlast haa hbb hbz
        obtain ⟨r10, hr10⟩ : ∃ r10, r10 = n1 % 10 := ⟨_, rfl⟩
        obtain ⟨d10, hd10⟩ : ∃ d10, d10 = n1 / 10 := ⟨_, rfl⟩
        have hd1 : (n1 : Int) % 10 = (r10 : Int) := by omega
        have hd2 : (n1 : Int) / 10 = (d10 : Int) := by omega
        have HA := Lib.hid (show OwnI w.heap.size (wr.alloc (.cells #[.int .i64 (r10 : Int)] 3)) u5 out from World.ownsRow.alloc HO.out _)
        have hlen : out.length ≤ 100000 := by have := HL.out; omega
        have HST := Lib.hid (fun v' w2 h2 hg => pl_step (w2 := w2) (v' := v') HI.out (by omega) n1 hnn r10 hr10 d10 hd10 HO.out HB.out h2 hg)
        have hcl : (wr.alloc (.cells #[.int .i64 (r10 : Int)] 3)).cell? ⟨wr.heap.size, 0, none⟩ = some (.int .i64 (r10 : Int)) := by rw [cell_of_row _ _ _ _ _ _ (heap_alloc_new wr (.cells #[.int .i64 (r10 : Int)] 3))]; rfl
        have hsz2 : w.heap.size ≤ (wr.alloc (.cells #[.int .i64 (r10 : Int)] 3)).heap.size := by have := HB.out.size; simp; omega
        clear hr10 hd10 hnn
        go_wp2_with (refine wpList_wantedR (by rfl) fun K hK => ?_; refine wp_appI1 (Operand.tmp 44) (Operand.tmp 47) rfl w.heap.size u5 _ rfl HA.out wr.heap.size rfl r10 hcl hlen hsz2 ?_; intro v' w9 hown9 hg9; have HM := Lib.hid (HST.out v' w9 hown9 hg9); clear hown9 hg9 HST HA; refine hK _ _ ?_; clear hK K)
        go_roundw
        case rel => exact HM.out
        case measure => simp [intOf]; omega
    · have q1 : decide ((i : Int) < (p : Int)) = false := decide_eq_false (by omega)
      have haz := ha0 (by omega)
      by_cases hiq : i < q
      · have q2 : decide ((i : Int) < (q : Int)) = true := decide_eq_true (by omega)
        obtain ⟨gy, hay, hy⟩ := HYP.out i (by rw [← HQ.out]; exact hiq)
        subst hay
        rw [hbb] at hy
        have hgy : gy < w.heap.size := World.block_lt_of_cell? w _ hy
        have hcy : wr.cell? ⟨gy, i, none⟩ = some (.int .i64 (b : Int)) := (HB.out.cell (p := ⟨gy, i, none⟩) hgy).trans hy
        have hn2i : (c : Int) + (b : Int) = (n : Int) := by omega
        have hn99 : n ≤ 19 := by omega
        have hiM : i ≤ M := by omega
        rw [hbb] at hb9
        clear hy hnn' ha0 hb0 hlast haa hbb haz
        obtain ⟨r10, hr10⟩ : ∃ r10, r10 = n % 10 := ⟨_, rfl⟩
        obtain ⟨d10, hd10⟩ : ∃ d10, d10 = n / 10 := ⟨_, rfl⟩
        have hd1 : (n : Int) % 10 = (r10 : Int) := by omega
        have hd2 : (n : Int) / 10 = (d10 : Int) := by omega
        have HA := Lib.hid (show OwnI w.heap.size (wr.alloc (.cells #[.int .i64 (r10 : Int)] 3)) u5 out from World.ownsRow.alloc HO.out _)
        have hlen : out.length ≤ 100000 := by have := HL.out; omega
        have HST := Lib.hid (fun v' w2 h2 hg => pl_step (w2 := w2) (v' := v') HI.out (by omega) n hnn r10 hr10 d10 hd10 HO.out HB.out h2 hg)
        have hcl : (wr.alloc (.cells #[.int .i64 (r10 : Int)] 3)).cell? ⟨wr.heap.size, 0, none⟩ = some (.int .i64 (r10 : Int)) := by rw [cell_of_row _ _ _ _ _ _ (heap_alloc_new wr (.cells #[.int .i64 (r10 : Int)] 3))]; rfl
        have hsz2 : w.heap.size ≤ (wr.alloc (.cells #[.int .i64 (r10 : Int)] 3)).heap.size := by have := HB.out.size; simp; omega
        clear hr10 hd10 hnn
        go_wp2_with (refine wpList_wantedR (by rfl) fun K hK => ?_; refine wp_appI1 (Operand.tmp 44) (Operand.tmp 47) rfl w.heap.size u5 _ rfl HA.out wr.heap.size rfl r10 hcl hlen hsz2 ?_; intro v' w9 hown9 hg9; have HM := Lib.hid (HST.out v' w9 hown9 hg9); clear hown9 hg9 HST HA; refine hK _ _ ?_; clear hK K)
        go_roundw
        case rel => exact HM.out
        case measure => simp [intOf]; omega
      · have q2 : decide ((i : Int) < (q : Int)) = false := decide_eq_false (by omega)
        have hbz := hb0 (by omega)
        by_cases hc0 : 0 < c
        · have q3 : decide ((0 : Int) < (c : Int)) = true := decide_eq_true (by omega)
          have hn99 : n ≤ 19 := by omega
          have hiM : i ≤ M := by omega
          obtain rfl : n = c := by omega
          clear hnn' ha0 hb0 hlast haa hbb haz hbz
          obtain ⟨r10, hr10⟩ : ∃ r10, r10 = n % 10 := ⟨_, rfl⟩
          obtain ⟨d10, hd10⟩ : ∃ d10, d10 = n / 10 := ⟨_, rfl⟩
          have hd1 : (n : Int) % 10 = (r10 : Int) := by omega
          have hd2 : (n : Int) / 10 = (d10 : Int) := by omega
          have HA := Lib.hid (show OwnI w.heap.size (wr.alloc (.cells #[.int .i64 (r10 : Int)] 3)) u5 out from World.ownsRow.alloc HO.out _)
          have hlen : out.length ≤ 100000 := by have := HL.out; omega
          have HST := Lib.hid (fun v' w2 h2 hg => pl_step (w2 := w2) (v' := v') HI.out (by omega) n hnn r10 hr10 d10 hd10 HO.out HB.out h2 hg)
          have hcl : (wr.alloc (.cells #[.int .i64 (r10 : Int)] 3)).cell? ⟨wr.heap.size, 0, none⟩ = some (.int .i64 (r10 : Int)) := by rw [cell_of_row _ _ _ _ _ _ (heap_alloc_new wr (.cells #[.int .i64 (r10 : Int)] 3))]; rfl
          have hsz2 : w.heap.size ≤ (wr.alloc (.cells #[.int .i64 (r10 : Int)] 3)).heap.size := by have := HB.out.size; simp; omega
          clear hr10 hd10 hnn
          go_wp2_with (refine wpList_wantedR (by rfl) fun K hK => ?_; refine wp_appI1 (Operand.tmp 44) (Operand.tmp 47) rfl w.heap.size u5 _ rfl HA.out wr.heap.size rfl r10 hcl hlen hsz2 ?_; intro v' w9 hown9 hg9; have HM := Lib.hid (HST.out v' w9 hown9 hg9); clear hown9 hg9 HST HA; refine hK _ _ ?_; clear hK K)
          go_roundw
          case rel => exact HM.out
          case measure => simp [intOf]; omega
        · have q3 : decide ((0 : Int) < (c : Int)) = false := decide_eq_false (by omega)
          obtain rfl : c = 0 := by omega
          have HE : Hid (nval out = nval A + nval B) := by
            have h1 := HI.out.1.val
            rw [List.take_of_length_le (by rw [← HP.out]; omega), List.take_of_length_le (by rw [← HQ.out]; omega)] at h1
            show _ = _
            omega
          clear hnn hnn' ha0 hb0 hlast haa hbb haz hbz ha9 hb9
          go_wp2_with fail
          go_ret
          exact ⟨_, out, rfl, HO.out.isL, HI.out.1.tens, HE.out, by rw [HL.out]; omega, HB.out⟩
end Go.Proofs.YtebadokchhnmfaaDoor
/- The document's difference of digits. -/
namespace Go.Proofs.YtebadokchhnmfaaDoor
open Go.RowKit Go.BigM
set_option linter.unusedVariables false
set_option linter.unusedSimpArgs false
structure Ls (A B out : List Nat) (i t : Nat) : Prop where
  len : out.length = i
  tens : Tens out
  carry : t ≤ 1
  val : nval out + nval (B.take i) = nval (A.take i) + 10 ^ i * t
def LsInv (A B : List Nat) (w : World) (v cv iv : Value) (wr : World) : Prop :=
  ∃ (i t : Nat) (out : List Nat), i ≤ A.length ∧ iv = .int .i64 (i : Int) ∧ cv = .int .i64 (t : Int) ∧ Ls A B out i t ∧ OwnI w.heap.size wr v out ∧ Below w.heap.size w wr
theorem Ls.step {A B out : List Nat} {i t : Nat} (h : Ls A B out i t) (r d : Nat) (hr : r ≤ 9) (hd : d ≤ 1) (hn : r + B.getD i 0 + t = A.getD i 0 + 10 * d) : Ls A B (out ++ [r]) (i + 1) d := by
  refine ⟨by rw [List.length_append, h.len]; rfl, ?_, hd, ?_⟩
  · intro x hx
    rcases List.mem_append.1 hx with hx | hx
    · exact h.tens x hx
    · simp at hx; omega
  · rw [nval_snoc, h.len, nval_take_getD, nval_take_getD]
    have hv := h.val
    have e1 : 10 ^ (i + 1) * d = 10 ^ i * (10 * d) := by rw [Nat.pow_succ, Nat.mul_assoc]
    have e3 : 10 ^ i * (r + B.getD i 0 + t) = 10 ^ i * (A.getD i 0 + 10 * d) := by rw [hn]
    rw [Nat.mul_add, Nat.mul_add, Nat.mul_add] at e3
    omega
theorem ls_step {A B out : List Nat} {i t : Nat} {w wr w2 : World} {v v' : Value} (h : Ls A B out i t ∧ i < A.length) (r d : Nat) (hr : r ≤ 9) (hd : d ≤ 1) (hn : r + B.getD i 0 + t = A.getD i 0 + 10 * d) (hown : OwnI w.heap.size wr v out) (hb : Below w.heap.size w wr)
    (h2 : OwnI w.heap.size w2 v' (out ++ [r])) (hg : (wr.alloc (.cells #[.int .i64 (r : Int)] 3)).grownBy w2 v.ownBlock) : LsInv A B w v' (.int .i64 (d : Int)) (.int .i64 ((i : Int) + 1)) w2 := by
  have hs := hb.size
  exact ⟨i + 1, d, _, h.2, by go_num, rfl, h.1.step r d hr hd hn, h2, (hb.alloc hs _).grown hg (by simp; omega) (fun k hk => (hown.lt k hk).1)⟩
theorem Ls.end {A B out : List Nat} {t : Nat} (h : Ls A B out A.length t) (hl : B.length ≤ A.length) (hle : nval B ≤ nval A) : nval out = nval A - nval B := by
  have hv := h.val
  rw [List.take_of_length_le (Nat.le_refl _), List.take_of_length_le hl] at hv
  have h1 := nval_lt out h.tens
  rw [h.len] at h1
  rcases Nat.eq_zero_or_pos t with h0 | h0
  · subst h0
    omega
  · have : 10 ^ A.length * 1 ≤ 10 ^ A.length * t := Nat.mul_le_mul_left _ h0
    omega
def RetLs (n m : Nat) (w : World) (e : Ending) (w' : World) : Prop := ∃ u P, e = .returned u ∧ IsL w' u P ∧ Tens P ∧ Top P ∧ nval P = n ∧ P.length ≤ m ∧ Below w.heap.size w w'
set_option maxHeartbeats 8000000 in
set_option maxRecDepth 100000 in
theorem refless_any (A B : List Nat) (hA : Tens A) (hB : Tens B) (u v : Value) (w : World) (hu : IsL w u A) (hv : IsL w v B) (la : A.length ≤ 300) (lb : B.length ≤ A.length) (hle : nval B ≤ nval A) :
    Calls Tryd.prog 40 #[u, v] w (RetLs (nval A - nval B) A.length w) := by
  obtain ⟨ax, cx, rfl, hxp⟩ := hu.ptr
  obtain ⟨ay, cy, rfl, hyp⟩ := hv.ptr
  obtain ⟨p, hp⟩ : ∃ p, p = A.length := ⟨_, rfl⟩
  obtain ⟨q, hq⟩ : ∃ q, q = B.length := ⟨_, rfl⟩
  have HXP := Lib.hid hxp
  have HYP := Lib.hid hyp
  have TA := Lib.hid hA
  have TB := Lib.hid hB
  have HP := Lib.hid hp
  have HQ := Lib.hid hq
  have HLE : Hid (B.length ≤ A.length ∧ nval B ≤ nval A) := ⟨lb, hle⟩
  rw [← hp] at la
  rw [← hp, ← hq] at lb
  have hq300 : q ≤ 300 := by omega
  rw [← hp, ← hq]
  have H0 : Hid (LsInv A B w (.slice none 0 0) (.int .i64 0) (.int .i64 0) w) := ⟨0, 0, [], by omega, rfl, rfl, ⟨rfl, fun x hx => by simp at hx, by omega, by simp [nval]⟩, OwnI.nil _ _, Below.refl _ _⟩
  clear hu hv hxp hyp hp hq hA hB hle lb
  go_enter Tryd.func40, Tryd.ntmps40
  go_wp2_with fail
  go_loopw [5, 6, 7] (fun v cv iv wr => LsInv A B w v cv iv wr) (fun _ _ iv _ => p - (intOf iv).toNat)
  case atStart => exact H0.out
  case round =>
    clear H0
    obtain ⟨i, t, out, hi, rfl, rfl, hls, hown, hb⟩ := hrel
    rw [← HP.out] at hi
    have hc := hls.carry
    have HL : Hid (out.length = i) := hls.len
    have HO := Lib.hid hown
    have HB := Lib.hid hb
    have HLS := Lib.hid hls
    clear hls hown hb
    by_cases hip : i < p
    · have q1 : decide ((i : Int) < (p : Int)) = true := decide_eq_true (by omega)
      have HI : Hid (Ls A B out i t ∧ i < A.length) := ⟨HLS.out, by rw [← HP.out]; exact hip⟩
      have hb0 : q ≤ i → B.getD i 0 = 0 := fun h => by rw [List.getD_eq_getElem?_getD, List.getElem?_eq_none (by rw [← HQ.out]; exact h)]; rfl
      have ha9 : A.getD i 0 ≤ 9 := TA.out.getD i
      have hb9 : B.getD i 0 ≤ 9 := TB.out.getD i
      obtain ⟨a, haa⟩ : ∃ a, A.getD i 0 = a := ⟨_, rfl⟩
      obtain ⟨b, hbb⟩ : ∃ b, B.getD i 0 = b := ⟨_, rfl⟩
      have ha99 : a ≤ 9 := by omega
      have hb99 : b ≤ 9 := by omega
      obtain ⟨gx, hax, hx⟩ := HXP.out i (by rw [← HP.out]; exact hip)
      subst hax
      rw [haa] at hx
      have hgx : gx < w.heap.size := World.block_lt_of_cell? w _ hx
      have hcx : wr.cell? ⟨gx, i, none⟩ = some (.int .i64 (a : Int)) := (HB.out.cell (p := ⟨gx, i, none⟩) hgx).trans hx
      clear hx HLS
      by_cases hiq : i < q
      · have q2 : decide ((i : Int) < (q : Int)) = true := decide_eq_true (by omega)
        obtain ⟨gy, hay, hy⟩ := HYP.out i (by rw [← HQ.out]; exact hiq)
        subst hay
        rw [hbb] at hy
        have hgy : gy < w.heap.size := World.block_lt_of_cell? w _ hy
        have hcy : wr.cell? ⟨gy, i, none⟩ = some (.int .i64 (b : Int)) := (HB.out.cell (p := ⟨gy, i, none⟩) hgy).trans hy
        obtain ⟨z1, hz1⟩ : ∃ z1 : Int, (a : Int) - (t : Int) = z1 := ⟨_, rfl⟩
        have hz1l : -1 ≤ z1 := by omega
        have hz1h : z1 ≤ 9 := by omega
        clear hy
        by_cases hz : t + b ≤ a
        · obtain ⟨r, hr⟩ : ∃ r, r = a - t - b := ⟨_, rfl⟩
          have hr9 : r ≤ 9 := by omega
          have hrr : r + B.getD i 0 + t = A.getD i 0 + 10 * 0 := by omega
          have hz2 : z1 - (b : Int) = (r : Int) := by omega
          have q3 : decide ((r : Int) < 0) = false := decide_eq_false (by omega)
          clear hr ha9 hb9 hz
          have HA := Lib.hid (show OwnI w.heap.size (wr.alloc (.cells #[.int .i64 (r : Int)] 3)) u5 out from World.ownsRow.alloc HO.out _)
          have hlen : out.length ≤ 100000 := by have := HL.out; omega
          have HST := Lib.hid (fun v' w2 h2 hg => ls_step (w2 := w2) (v' := v') HI.out r 0 hr9 (by omega) hrr HO.out HB.out h2 hg)
          have hcl : (wr.alloc (.cells #[.int .i64 (r : Int)] 3)).cell? ⟨wr.heap.size, 0, none⟩ = some (.int .i64 (r : Int)) := by rw [cell_of_row _ _ _ _ _ _ (heap_alloc_new wr (.cells #[.int .i64 (r : Int)] 3))]; rfl
          have hsz2 : w.heap.size ≤ (wr.alloc (.cells #[.int .i64 (r : Int)] 3)).heap.size := by have := HB.out.size; simp; omega
          clear hrr haa hbb hb0 hr9
          go_wp2_with (refine wpList_wantedR (by rfl) fun K hK => ?_; refine wp_appI1 (Operand.tmp 35) (Operand.tmp 37) rfl w.heap.size u5 _ rfl HA.out wr.heap.size rfl r hcl hlen hsz2 ?_; intro v' w9 hown9 hg9; have HM := Lib.hid (HST.out v' w9 hown9 hg9); clear hown9 hg9 HST HA; refine hK _ _ ?_; clear hK K)
          go_roundw
          case rel => exact HM.out
          case measure => simp [intOf]; omega
        · obtain ⟨r, hr⟩ : ∃ r, r = a + 10 - t - b := ⟨_, rfl⟩
          have hr9 : r ≤ 9 := by omega
          have hrr : r + B.getD i 0 + t = A.getD i 0 + 10 * 1 := by omega
          obtain ⟨z, hz3⟩ : ∃ z : Int, z1 - (b : Int) = z := ⟨_, rfl⟩
          have q3 : decide (z < 0) = true := decide_eq_true (by omega)
          have hz4 : z + 10 = (r : Int) := by omega
          have hzl : -20 ≤ z := by omega
          have hzh : z ≤ 20 := by omega
          clear hr ha9 hb9 hz
          have HA := Lib.hid (show OwnI w.heap.size (wr.alloc (.cells #[.int .i64 (r : Int)] 3)) u5 out from World.ownsRow.alloc HO.out _)
          have hlen : out.length ≤ 100000 := by have := HL.out; omega
          have HST := Lib.hid (fun v' w2 h2 hg => ls_step (w2 := w2) (v' := v') HI.out r 1 hr9 (by omega) hrr HO.out HB.out h2 hg)
          have hcl : (wr.alloc (.cells #[.int .i64 (r : Int)] 3)).cell? ⟨wr.heap.size, 0, none⟩ = some (.int .i64 (r : Int)) := by rw [cell_of_row _ _ _ _ _ _ (heap_alloc_new wr (.cells #[.int .i64 (r : Int)] 3))]; rfl
          have hsz2 : w.heap.size ≤ (wr.alloc (.cells #[.int .i64 (r : Int)] 3)).heap.size := by have := HB.out.size; simp; omega
          clear hrr haa hbb hb0 hr9
          go_wp2_with (refine wpList_wantedR (by rfl) fun K hK => ?_; refine wp_appI1 (Operand.tmp 35) (Operand.tmp 37) rfl w.heap.size u5 _ rfl HA.out wr.heap.size rfl r hcl hlen hsz2 ?_; intro v' w9 hown9 hg9; have HM := Lib.hid (HST.out v' w9 hown9 hg9); clear hown9 hg9 HST HA; refine hK _ _ ?_; clear hK K)
          go_roundw
          case rel => exact HM.out
          case measure => simp [intOf]; omega
      · have q2 : decide ((i : Int) < (q : Int)) = false := decide_eq_false (by omega)
        have hbz := hb0 (by omega)
        rw [hbb] at hbz
        by_cases hz : t + b ≤ a
        · obtain ⟨r, hr⟩ : ∃ r, r = a - t - b := ⟨_, rfl⟩
          have hr9 : r ≤ 9 := by omega
          have hrr : r + B.getD i 0 + t = A.getD i 0 + 10 * 0 := by omega
          have hz2 : (a : Int) - (t : Int) = (r : Int) := by omega
          have q3 : decide ((r : Int) < 0) = false := decide_eq_false (by omega)
          clear hr ha9 hb9 hz
          have HA := Lib.hid (show OwnI w.heap.size (wr.alloc (.cells #[.int .i64 (r : Int)] 3)) u5 out from World.ownsRow.alloc HO.out _)
          have hlen : out.length ≤ 100000 := by have := HL.out; omega
          have HST := Lib.hid (fun v' w2 h2 hg => ls_step (w2 := w2) (v' := v') HI.out r 0 hr9 (by omega) hrr HO.out HB.out h2 hg)
          have hcl : (wr.alloc (.cells #[.int .i64 (r : Int)] 3)).cell? ⟨wr.heap.size, 0, none⟩ = some (.int .i64 (r : Int)) := by rw [cell_of_row _ _ _ _ _ _ (heap_alloc_new wr (.cells #[.int .i64 (r : Int)] 3))]; rfl
          have hsz2 : w.heap.size ≤ (wr.alloc (.cells #[.int .i64 (r : Int)] 3)).heap.size := by have := HB.out.size; simp; omega
          clear hrr haa hbb hb0 hr9
          go_wp2_with (refine wpList_wantedR (by rfl) fun K hK => ?_; refine wp_appI1 (Operand.tmp 35) (Operand.tmp 37) rfl w.heap.size u5 _ rfl HA.out wr.heap.size rfl r hcl hlen hsz2 ?_; intro v' w9 hown9 hg9; have HM := Lib.hid (HST.out v' w9 hown9 hg9); clear hown9 hg9 HST HA; refine hK _ _ ?_; clear hK K)
          go_roundw
          case rel => exact HM.out
          case measure => simp [intOf]; omega
        · obtain ⟨r, hr⟩ : ∃ r, r = a + 10 - t - b := ⟨_, rfl⟩
          have hr9 : r ≤ 9 := by omega
          have hrr : r + B.getD i 0 + t = A.getD i 0 + 10 * 1 := by omega
          obtain ⟨z, hz3⟩ : ∃ z : Int, (a : Int) - (t : Int) = z := ⟨_, rfl⟩
          have q3 : decide (z < 0) = true := decide_eq_true (by omega)
          have hz4 : z + 10 = (r : Int) := by omega
          have hzl : -20 ≤ z := by omega
          have hzh : z ≤ 20 := by omega
          clear hr ha9 hb9 hz
          have HA := Lib.hid (show OwnI w.heap.size (wr.alloc (.cells #[.int .i64 (r : Int)] 3)) u5 out from World.ownsRow.alloc HO.out _)
          have hlen : out.length ≤ 100000 := by have := HL.out; omega
          have HST := Lib.hid (fun v' w2 h2 hg => ls_step (w2 := w2) (v' := v') HI.out r 1 hr9 (by omega) hrr HO.out HB.out h2 hg)
          have hcl : (wr.alloc (.cells #[.int .i64 (r : Int)] 3)).cell? ⟨wr.heap.size, 0, none⟩ = some (.int .i64 (r : Int)) := by rw [cell_of_row _ _ _ _ _ _ (heap_alloc_new wr (.cells #[.int .i64 (r : Int)] 3))]; rfl
          have hsz2 : w.heap.size ≤ (wr.alloc (.cells #[.int .i64 (r : Int)] 3)).heap.size := by have := HB.out.size; simp; omega
          clear hrr haa hbb hb0 hr9
          go_wp2_with (refine wpList_wantedR (by rfl) fun K hK => ?_; refine wp_appI1 (Operand.tmp 35) (Operand.tmp 37) rfl w.heap.size u5 _ rfl HA.out wr.heap.size rfl r hcl hlen hsz2 ?_; intro v' w9 hown9 hg9; have HM := Lib.hid (HST.out v' w9 hown9 hg9); clear hown9 hg9 HST HA; refine hK _ _ ?_; clear hK K)
          go_roundw
          case rel => exact HM.out
          case measure => simp [intOf]; omega
    · have q1 : decide ((i : Int) < (p : Int)) = false := decide_eq_false (by omega)
      have hiA : i = A.length := by rw [← HP.out]; omega
      have HV : Hid (nval out = nval A - nval B) := by
        have h1 := HLS.out
        rw [hiA] at h1
        exact h1.end HLE.out.1 HLE.out.2
      have FT := Lib.hid (trim_any out u5 wr HO.out.isL (by rw [HL.out]; omega))
      clear hiA
      go_wp2_with fail
      refine FT.out.mono ?_
      rintro e w2 ⟨⟨u, rfl, hu⟩, rfl⟩
      have HU := Lib.hid hu
      clear hu
      go_wp2_with fail
      go_ret
      exact ⟨u, _, rfl, HU.out, HLS.out.tens.take _, top_used _, by rw [nval_used]; exact HV.out, by rw [List.length_take, HL.out]; omega, HB.out⟩
end Go.Proofs.YtebadokchhnmfaaDoor
/- The document's sum of two with signs. -/
namespace Go.Proofs.YtebadokchhnmfaaDoor
open Go.RowKit Go.BigM
set_option linter.unusedVariables false
set_option linter.unusedSimpArgs false
def RetSm (z : Int) (w : World) (e : Ending) (w' : World) : Prop := ∃ u P d, e = .returned (.tuple #[u, .bool d]) ∧ IsL w' u P ∧ Tens P ∧ P.length ≤ 301 ∧ sgn d (nval P) = z ∧ Below w.heap.size w w'
theorem len_of {A B : List Nat} (hA : Tens A) (tB : Top B) (h : nval B ≤ nval A) : B.length ≤ A.length := by
  rcases Nat.lt_or_ge A.length B.length with k | k
  · have := cmp_len hA tB k; omega
  · exact k
set_option maxHeartbeats 8000000 in
set_option maxRecDepth 100000 in
theorem refsum_any (A B : List Nat) (hA : Tens A) (hB : Tens B) (tA : Top A) (tB : Top B) (u v : Value) (b c : Bool) (w : World) (hu : IsL w u A) (hv : IsL w v B) (la : A.length ≤ 200) (lb : B.length ≤ 200) :
    Calls Tryd.prog 35 #[u, .bool b, v, .bool c] w (RetSm (sgn b (nval A) + sgn c (nval B)) w) := by
  cases b <;> cases c
  · have FP := Lib.hid (refplus_any A B hA hB u v w hu hv (by omega) (by omega))
    clear hu hv hA hB tA tB
    go_enter Tryd.func35, Tryd.ntmps35
    go_wp2_with fail
    refine FP.out.mono ?_
    rintro e w1 ⟨x, P, rfl, hx, tP, vP, lP, hb⟩
    have HE : Hid (IsL w1 x P ∧ Tens P ∧ P.length ≤ 301 ∧ sgn false (nval P) = sgn false (nval A) + sgn false (nval B) ∧ Below w.heap.size w w1) := ⟨hx, tP, lP, by rw [vP]; unfold sgn; simp; try omega, hb⟩
    clear hx tP vP lP hb FP
    go_wp2_with fail
    go_ret2
    exact ⟨x, P, false, rfl, HE.out.1, HE.out.2.1, HE.out.2.2.1, HE.out.2.2.2.1, HE.out.2.2.2.2⟩
  · by_cases h : nval B ≤ nval A
    · skip
      have hle : nval B ≤ nval A := by omega
      obtain ⟨r, hr, hr0⟩ : ∃ r : Int, cmpI (nval A) (nval B) = r ∧ 0 ≤ r := ⟨_, rfl, by unfold cmpI; split <;> (try split) <;> omega⟩
      have FC := refcmp_any A B hA hB tA tB u v w hu hv (by omega) (by omega)
      unfold RetCm at FC
      rw [hr] at FC
      replace FC := Lib.hid FC
      have FL := Lib.hid (fun (w1 : World) (hb : Below w.heap.size w w1) => refless_any A B hA hB u v w1 (hu.below hb) (hv.below hb) (by omega) (len_of hA tB hle) hle)
      have q1 : decide (0 ≤ r) = true := decide_eq_true hr0
      have LX : A.length ≤ 200 := by assumption
      have HLE := Lib.hid hle
      clear hu hv hA hB tA tB hr h hle
      go_enter Tryd.func35, Tryd.ntmps35
      go_wp2_with fail
      refine FC.out.mono ?_
      rintro e w1 ⟨rfl, hb1⟩
      have HB1 := Lib.hid hb1
      clear hb1
      go_wp2_with fail
      refine (FL.out _ HB1.out).mono ?_
      rintro e w2 ⟨x, P, rfl, hx, tP, tpP, vP, lP, hb⟩
      have HE : Hid (IsL w2 x P ∧ Tens P ∧ P.length ≤ 301 ∧ sgn false (nval P) = sgn false (nval A) + sgn true (nval B) ∧ Below w.heap.size w w2) := ⟨hx, tP, by omega, by have := HLE.out; rw [vP]; unfold sgn; simp; omega, HB1.out.trans (hb.mono HB1.out.size)⟩
      clear hx tP tpP vP lP hb FC FL
      go_wp2_with fail
      go_ret2
      exact ⟨x, P, false, rfl, HE.out.1, HE.out.2.1, HE.out.2.2.1, HE.out.2.2.2.1, HE.out.2.2.2.2⟩
    · skip
      have hle : nval A ≤ nval B := by omega
      obtain ⟨r, hr, hr0⟩ : ∃ r : Int, cmpI (nval A) (nval B) = r ∧ r < 0 := ⟨_, rfl, by unfold cmpI; split <;> (try split) <;> omega⟩
      have FC := refcmp_any A B hA hB tA tB u v w hu hv (by omega) (by omega)
      unfold RetCm at FC
      rw [hr] at FC
      replace FC := Lib.hid FC
      have FL := Lib.hid (fun (w1 : World) (hb : Below w.heap.size w w1) => refless_any B A hB hA v u w1 (hv.below hb) (hu.below hb) (by omega) (len_of hB tA hle) hle)
      have q1 : decide (0 ≤ r) = false := decide_eq_false (by omega)
      have LX : B.length ≤ 200 := by assumption
      have HLE := Lib.hid hle
      clear hu hv hA hB tA tB hr h hle
      go_enter Tryd.func35, Tryd.ntmps35
      go_wp2_with fail
      refine FC.out.mono ?_
      rintro e w1 ⟨rfl, hb1⟩
      have HB1 := Lib.hid hb1
      clear hb1
      go_wp2_with fail
      refine (FL.out _ HB1.out).mono ?_
      rintro e w2 ⟨x, P, rfl, hx, tP, tpP, vP, lP, hb⟩
      have HE : Hid (IsL w2 x P ∧ Tens P ∧ P.length ≤ 301 ∧ sgn true (nval P) = sgn false (nval A) + sgn true (nval B) ∧ Below w.heap.size w w2) := ⟨hx, tP, by omega, by have := HLE.out; rw [vP]; unfold sgn; simp; omega, HB1.out.trans (hb.mono HB1.out.size)⟩
      clear hx tP tpP vP lP hb FC FL
      go_wp2_with fail
      go_ret2
      exact ⟨x, P, true, rfl, HE.out.1, HE.out.2.1, HE.out.2.2.1, HE.out.2.2.2.1, HE.out.2.2.2.2⟩
  · by_cases h : nval B ≤ nval A
    · skip
      have hle : nval B ≤ nval A := by omega
      obtain ⟨r, hr, hr0⟩ : ∃ r : Int, cmpI (nval A) (nval B) = r ∧ 0 ≤ r := ⟨_, rfl, by unfold cmpI; split <;> (try split) <;> omega⟩
      have FC := refcmp_any A B hA hB tA tB u v w hu hv (by omega) (by omega)
      unfold RetCm at FC
      rw [hr] at FC
      replace FC := Lib.hid FC
      have FL := Lib.hid (fun (w1 : World) (hb : Below w.heap.size w w1) => refless_any A B hA hB u v w1 (hu.below hb) (hv.below hb) (by omega) (len_of hA tB hle) hle)
      have q1 : decide (0 ≤ r) = true := decide_eq_true hr0
      have LX : A.length ≤ 200 := by assumption
      have HLE := Lib.hid hle
      clear hu hv hA hB tA tB hr h hle
      go_enter Tryd.func35, Tryd.ntmps35
      go_wp2_with fail
      refine FC.out.mono ?_
      rintro e w1 ⟨rfl, hb1⟩
      have HB1 := Lib.hid hb1
      clear hb1
      go_wp2_with fail
      refine (FL.out _ HB1.out).mono ?_
      rintro e w2 ⟨x, P, rfl, hx, tP, tpP, vP, lP, hb⟩
      have HE : Hid (IsL w2 x P ∧ Tens P ∧ P.length ≤ 301 ∧ sgn true (nval P) = sgn true (nval A) + sgn false (nval B) ∧ Below w.heap.size w w2) := ⟨hx, tP, by omega, by have := HLE.out; rw [vP]; unfold sgn; simp; omega, HB1.out.trans (hb.mono HB1.out.size)⟩
      clear hx tP tpP vP lP hb FC FL
      go_wp2_with fail
      go_ret2
      exact ⟨x, P, true, rfl, HE.out.1, HE.out.2.1, HE.out.2.2.1, HE.out.2.2.2.1, HE.out.2.2.2.2⟩
    · skip
      have hle : nval A ≤ nval B := by omega
      obtain ⟨r, hr, hr0⟩ : ∃ r : Int, cmpI (nval A) (nval B) = r ∧ r < 0 := ⟨_, rfl, by unfold cmpI; split <;> (try split) <;> omega⟩
      have FC := refcmp_any A B hA hB tA tB u v w hu hv (by omega) (by omega)
      unfold RetCm at FC
      rw [hr] at FC
      replace FC := Lib.hid FC
      have FL := Lib.hid (fun (w1 : World) (hb : Below w.heap.size w w1) => refless_any B A hB hA v u w1 (hv.below hb) (hu.below hb) (by omega) (len_of hB tA hle) hle)
      have q1 : decide (0 ≤ r) = false := decide_eq_false (by omega)
      have LX : B.length ≤ 200 := by assumption
      have HLE := Lib.hid hle
      clear hu hv hA hB tA tB hr h hle
      go_enter Tryd.func35, Tryd.ntmps35
      go_wp2_with fail
      refine FC.out.mono ?_
      rintro e w1 ⟨rfl, hb1⟩
      have HB1 := Lib.hid hb1
      clear hb1
      go_wp2_with fail
      refine (FL.out _ HB1.out).mono ?_
      rintro e w2 ⟨x, P, rfl, hx, tP, tpP, vP, lP, hb⟩
      have HE : Hid (IsL w2 x P ∧ Tens P ∧ P.length ≤ 301 ∧ sgn false (nval P) = sgn true (nval A) + sgn false (nval B) ∧ Below w.heap.size w w2) := ⟨hx, tP, by omega, by have := HLE.out; rw [vP]; unfold sgn; simp; omega, HB1.out.trans (hb.mono HB1.out.size)⟩
      clear hx tP tpP vP lP hb FC FL
      go_wp2_with fail
      go_ret2
      exact ⟨x, P, false, rfl, HE.out.1, HE.out.2.1, HE.out.2.2.1, HE.out.2.2.2.1, HE.out.2.2.2.2⟩
  · have FP := Lib.hid (refplus_any A B hA hB u v w hu hv (by omega) (by omega))
    clear hu hv hA hB tA tB
    go_enter Tryd.func35, Tryd.ntmps35
    go_wp2_with fail
    refine FP.out.mono ?_
    rintro e w1 ⟨x, P, rfl, hx, tP, vP, lP, hb⟩
    have HE : Hid (IsL w1 x P ∧ Tens P ∧ P.length ≤ 301 ∧ sgn true (nval P) = sgn true (nval A) + sgn true (nval B) ∧ Below w.heap.size w w1) := ⟨hx, tP, lP, by rw [vP]; unfold sgn; simp; try omega, hb⟩
    clear hx tP vP lP hb FP
    go_wp2_with fail
    go_ret2
    exact ⟨x, P, true, rfl, HE.out.1, HE.out.2.1, HE.out.2.2.1, HE.out.2.2.2.1, HE.out.2.2.2.2⟩
end Go.Proofs.YtebadokchhnmfaaDoor
/- The document's Add, Sub, Cmp. -/
namespace Go.Proofs.YtebadokchhnmfaaDoor
open Go.RowKit Go.BigM
set_option linter.unusedVariables false
set_option linter.unusedSimpArgs false
theorem sgn_natAbs (d : Bool) (n : Nat) : (sgn d n).natAbs = n := by unfold sgn; split <;> omega
theorem retI_of {d : Bool} {n : Nat} {z : Int} {w w1 w' : World} {e : Ending} (h : RetXt d n w1 e w') (hz : sgn d n = z) (hb : Below w.heap.size w w1) : RetI w z e w' := by
  refine ⟨?_, hb.trans (h.2.mono hb.size)⟩
  rw [h.1, txt_sgn, hz, ← hz, sgn_natAbs]
theorem dgs_top (l : List UInt8) : Top (dgs l) := by unfold dgs; exact top_used _
set_option maxHeartbeats 8000000 in
set_option maxRecDepth 100000 in
theorem refadd_any (s t : ByteArray) (hs : Canon s.data.toList) (ht : Canon t.data.toList) (w : World) :
    Calls Tryd.prog 19 #[.string s, .string t] w (RetI w (ival s.data.toList + ival t.data.toList)) := by
  have F1 := Lib.hid (rdigits_any s hs w)
  have F2 := Lib.hid (fun w => rdigits_any t ht w)
  have tx0 := dgs_top s.data.toList
  have ty0 := dgs_top t.data.toList
  obtain ⟨x, hx⟩ : ∃ x, x = dgs s.data.toList := ⟨_, rfl⟩
  obtain ⟨y, hy⟩ : ∃ y, y = dgs t.data.toList := ⟨_, rfl⟩
  have tx : Tens x := by rw [hx]; exact (tens_rdg hs.2.2.1).take _
  have ty : Tens y := by rw [hy]; exact (tens_rdg ht.2.2.1).take _
  have vx : nval x = dval (strip s.data.toList) := by rw [hx, nval_dgs]
  have vy : nval y = dval (strip t.data.toList) := by rw [hy, nval_dgs]
  have lx : x.length ≤ 200 := by rw [hx]; exact Nat.le_trans (dgs_len _) hs.2.1
  have ly : y.length ≤ 200 := by rw [hy]; exact Nat.le_trans (dgs_len _) ht.2.1
  unfold ival
  rw [← vx, ← vy]
  obtain ⟨b1, hb1⟩ : ∃ b, low s.data.toList = b := ⟨_, rfl⟩
  obtain ⟨b2, hb2⟩ : ∃ b, low t.data.toList = b := ⟨_, rfl⟩
  have hz1 : b1 = true → nval x ≠ 0 := by rw [vx, ← hb1]; exact canon_neg _ hs
  have hz2 : b2 = true → nval y ≠ 0 := by rw [vy, ← hb2]; exact canon_neg _ ht
  rw [hb1, hb2]
  unfold RetDg at F1 F2
  rw [hb1, ← hx] at F1
  rw [hb2, ← hy] at F2
  rw [← hx] at tx0
  rw [← hy] at ty0
  have TX := Lib.hid tx
  have TY := Lib.hid ty
  have TX0 := Lib.hid tx0
  have TY0 := Lib.hid ty0
  have HZ : Hid ((b1 = true → nval x ≠ 0) ∧ (b2 = true → nval y ≠ 0)) := ⟨hz1, hz2⟩
  clear vx vy hx hy hb1 hb2 hs ht tx ty tx0 ty0 hz1 hz2
  go_enter Tryd.func19, Tryd.ntmps19
  go_wp2_with fail
  refine F1.out.mono ?_
  rintro e w1 ⟨u1, rfl, hu1, hbw1⟩
  obtain ⟨ax, cx, rfl, -⟩ := hu1.ptr
  have HB1 := Lib.hid hbw1
  have HX1 := Lib.hid hu1
  clear hbw1 hu1 F1
  go_wp2_with fail
  refine (F2.out _).mono ?_
  rintro e w2 ⟨u2, rfl, hu2, hbw2⟩
  obtain ⟨ay, cy, rfl, -⟩ := hu2.ptr
  have HB2 := Lib.hid (HB1.out.trans (hbw2.mono HB1.out.size))
  have HX2 := Lib.hid (HX1.out.below hbw2)
  have HY2 := Lib.hid hu2
  clear hbw2 hu2 F2 HX1 HB1
  have FS := Lib.hid (refsum_any x y TX.out TY.out TX0.out TY0.out _ _ b1 b2 w2 HX2.out HY2.out lx ly)
  go_wp2_with fail
  refine FS.out.mono ?_
  rintro e w3 ⟨u3, P, d, rfl, hu3, tP, lP, vP, hb3⟩
  have FT := Lib.hid (rtext_any P tP _ d w3 hu3 (by omega))
  have HV : Hid (sgn d (nval P) = sgn b1 (nval x) + sgn b2 (nval y)) := vP
  have HB3 := Lib.hid (HB2.out.trans (hb3.mono HB2.out.size))
  clear FS hu3 tP lP vP hb3
  go_wp2_with fail
  refine FT.out.mono ?_
  rintro e w4 h4
  have HR := Lib.hid (retI_of h4 HV.out HB3.out)
  obtain ⟨rfl, -⟩ := h4
  go_wp2_with fail
  go_ret2
  exact HR.out
set_option maxHeartbeats 8000000 in
set_option maxRecDepth 100000 in
theorem refsub_any (s t : ByteArray) (hs : Canon s.data.toList) (ht : Canon t.data.toList) (w : World) :
    Calls Tryd.prog 21 #[.string s, .string t] w (RetI w (ival s.data.toList - ival t.data.toList)) := by
  have F1 := Lib.hid (rdigits_any s hs w)
  have F2 := Lib.hid (fun w => rdigits_any t ht w)
  have tx0 := dgs_top s.data.toList
  have ty0 := dgs_top t.data.toList
  obtain ⟨x, hx⟩ : ∃ x, x = dgs s.data.toList := ⟨_, rfl⟩
  obtain ⟨y, hy⟩ : ∃ y, y = dgs t.data.toList := ⟨_, rfl⟩
  have tx : Tens x := by rw [hx]; exact (tens_rdg hs.2.2.1).take _
  have ty : Tens y := by rw [hy]; exact (tens_rdg ht.2.2.1).take _
  have vx : nval x = dval (strip s.data.toList) := by rw [hx, nval_dgs]
  have vy : nval y = dval (strip t.data.toList) := by rw [hy, nval_dgs]
  have lx : x.length ≤ 200 := by rw [hx]; exact Nat.le_trans (dgs_len _) hs.2.1
  have ly : y.length ≤ 200 := by rw [hy]; exact Nat.le_trans (dgs_len _) ht.2.1
  unfold ival
  rw [← vx, ← vy]
  obtain ⟨b1, hb1⟩ : ∃ b, low s.data.toList = b := ⟨_, rfl⟩
  obtain ⟨b2, hb2⟩ : ∃ b, low t.data.toList = b := ⟨_, rfl⟩
  have hz1 : b1 = true → nval x ≠ 0 := by rw [vx, ← hb1]; exact canon_neg _ hs
  have hz2 : b2 = true → nval y ≠ 0 := by rw [vy, ← hb2]; exact canon_neg _ ht
  rw [hb1, hb2]
  unfold RetDg at F1 F2
  rw [hb1, ← hx] at F1
  rw [hb2, ← hy] at F2
  rw [← hx] at tx0
  rw [← hy] at ty0
  have TX := Lib.hid tx
  have TY := Lib.hid ty
  have TX0 := Lib.hid tx0
  have TY0 := Lib.hid ty0
  have HZ : Hid ((b1 = true → nval x ≠ 0) ∧ (b2 = true → nval y ≠ 0)) := ⟨hz1, hz2⟩
  clear vx vy hx hy hb1 hb2 hs ht tx ty tx0 ty0 hz1 hz2
  go_enter Tryd.func21, Tryd.ntmps21
  go_wp2_with fail
  refine F1.out.mono ?_
  rintro e w1 ⟨u1, rfl, hu1, hbw1⟩
  obtain ⟨ax, cx, rfl, -⟩ := hu1.ptr
  have HB1 := Lib.hid hbw1
  have HX1 := Lib.hid hu1
  clear hbw1 hu1 F1
  go_wp2_with fail
  refine (F2.out _).mono ?_
  rintro e w2 ⟨u2, rfl, hu2, hbw2⟩
  obtain ⟨ay, cy, rfl, -⟩ := hu2.ptr
  have HB2 := Lib.hid (HB1.out.trans (hbw2.mono HB1.out.size))
  have HX2 := Lib.hid (HX1.out.below hbw2)
  have HY2 := Lib.hid hu2
  clear hbw2 hu2 F2 HX1 HB1
  have HE : Hid (sgn b1 (nval x) - sgn b2 (nval y) = sgn b1 (nval x) + sgn (!b2) (nval y)) := by show _ = _; cases b2 <;> simp [sgn] <;> omega
  have FS := Lib.hid (refsum_any x y TX.out TY.out TX0.out TY0.out _ _ b1 (!b2) w2 HX2.out HY2.out lx ly)
  go_wp2_with fail
  refine FS.out.mono ?_
  rintro e w3 ⟨u3, P, d, rfl, hu3, tP, lP, vP, hb3⟩
  have FT := Lib.hid (rtext_any P tP _ d w3 hu3 (by omega))
  have HV : Hid (sgn d (nval P) = sgn b1 (nval x) - sgn b2 (nval y)) := vP.trans HE.out.symm
  have HB3 := Lib.hid (HB2.out.trans (hb3.mono HB2.out.size))
  clear FS hu3 tP lP vP hb3
  go_wp2_with fail
  refine FT.out.mono ?_
  rintro e w4 h4
  have HR := Lib.hid (retI_of h4 HV.out HB3.out)
  obtain ⟨rfl, -⟩ := h4
  go_wp2_with fail
  go_ret2
  exact HR.out
def RetCmp (x y : Int) (w : World) (e : Ending) (w' : World) : Prop := e = .returned (.int .i64 (cmpI x y)) ∧ Below w.heap.size w w'
set_option maxHeartbeats 8000000 in
set_option maxRecDepth 100000 in
theorem refcmp_t (s t : ByteArray) (hs : Canon s.data.toList) (ht : Canon t.data.toList) (w : World) :
    Calls Tryd.prog 27 #[.string s, .string t] w (RetCmp (ival s.data.toList) (ival t.data.toList) w) := by
  have F1 := Lib.hid (rdigits_any s hs w)
  have F2 := Lib.hid (fun w => rdigits_any t ht w)
  have tx0 := dgs_top s.data.toList
  have ty0 := dgs_top t.data.toList
  obtain ⟨x, hx⟩ : ∃ x, x = dgs s.data.toList := ⟨_, rfl⟩
  obtain ⟨y, hy⟩ : ∃ y, y = dgs t.data.toList := ⟨_, rfl⟩
  have tx : Tens x := by rw [hx]; exact (tens_rdg hs.2.2.1).take _
  have ty : Tens y := by rw [hy]; exact (tens_rdg ht.2.2.1).take _
  have vx : nval x = dval (strip s.data.toList) := by rw [hx, nval_dgs]
  have vy : nval y = dval (strip t.data.toList) := by rw [hy, nval_dgs]
  have lx : x.length ≤ 200 := by rw [hx]; exact Nat.le_trans (dgs_len _) hs.2.1
  have ly : y.length ≤ 200 := by rw [hy]; exact Nat.le_trans (dgs_len _) ht.2.1
  unfold ival
  rw [← vx, ← vy]
  obtain ⟨b1, hb1⟩ : ∃ b, low s.data.toList = b := ⟨_, rfl⟩
  obtain ⟨b2, hb2⟩ : ∃ b, low t.data.toList = b := ⟨_, rfl⟩
  have hz1 : b1 = true → nval x ≠ 0 := by rw [vx, ← hb1]; exact canon_neg _ hs
  have hz2 : b2 = true → nval y ≠ 0 := by rw [vy, ← hb2]; exact canon_neg _ ht
  rw [hb1, hb2]
  unfold RetDg at F1 F2
  rw [hb1, ← hx] at F1
  rw [hb2, ← hy] at F2
  rw [← hx] at tx0
  rw [← hy] at ty0
  have TX := Lib.hid tx
  have TY := Lib.hid ty
  have TX0 := Lib.hid tx0
  have TY0 := Lib.hid ty0
  have HZ : Hid ((b1 = true → nval x ≠ 0) ∧ (b2 = true → nval y ≠ 0)) := ⟨hz1, hz2⟩
  clear vx vy hx hy hb1 hb2 hs ht tx ty tx0 ty0 hz1 hz2
  go_enter Tryd.func27, Tryd.ntmps27
  go_wp2_with fail
  refine F1.out.mono ?_
  rintro e w1 ⟨u1, rfl, hu1, hbw1⟩
  obtain ⟨ax, cx, rfl, -⟩ := hu1.ptr
  have HB1 := Lib.hid hbw1
  have HX1 := Lib.hid hu1
  clear hbw1 hu1 F1
  go_wp2_with fail
  refine (F2.out _).mono ?_
  rintro e w2 ⟨u2, rfl, hu2, hbw2⟩
  obtain ⟨ay, cy, rfl, -⟩ := hu2.ptr
  have HB2 := Lib.hid (HB1.out.trans (hbw2.mono HB1.out.size))
  have HX2 := Lib.hid (HX1.out.below hbw2)
  have HY2 := Lib.hid hu2
  clear hbw2 hu2 F2 HX1 HB1
  cases b1 <;> cases b2
  · have HE : Hid (cmpI (sgn false (nval x)) (sgn false (nval y)) = cmpI (nval x) (nval y)) := by show _ = _; unfold cmpI sgn; simp only [if_true, if_false, Bool.false_eq_true]; try ((repeat' split) <;> omega)
    have FC := Lib.hid (refcmp_any x y TX.out TY.out TX0.out TY0.out _ _ w2 HX2.out HY2.out (by omega) (by omega))
    go_wp2_with fail
    refine FC.out.mono ?_
    rintro e w3 ⟨rfl, hb3⟩
    have HB3 := Lib.hid (HB2.out.trans (hb3.mono HB2.out.size))
    clear hb3
    go_wp2_with fail
    go_ret
    exact ⟨by rw [HE.out]; rfl, HB3.out⟩
  · have HE : Hid (cmpI (sgn false (nval x)) (sgn true (nval y)) = 1) := by
      have h1 := HZ.out.1
      have h2 := HZ.out.2
      show _ = _
      simp at h1 h2
      unfold cmpI sgn
      simp only [if_true, if_false, Bool.false_eq_true]
      (repeat' split) <;> omega
    go_wp2_with fail
    go_ret
    exact ⟨by rw [HE.out]; rfl, HB2.out⟩
  · have HE : Hid (cmpI (sgn true (nval x)) (sgn false (nval y)) = -1) := by
      have h1 := HZ.out.1
      have h2 := HZ.out.2
      show _ = _
      simp at h1 h2
      unfold cmpI sgn
      simp only [if_true, if_false, Bool.false_eq_true]
      (repeat' split) <;> omega
    go_wp2_with fail
    go_ret
    exact ⟨by rw [HE.out]; rfl, HB2.out⟩
  · have HE : Hid (cmpI (sgn true (nval x)) (sgn true (nval y)) = cmpI (nval y) (nval x)) := by show _ = _; unfold cmpI sgn; simp only [if_true, if_false, Bool.false_eq_true]; try ((repeat' split) <;> omega)
    have FC := Lib.hid (refcmp_any y x TY.out TX.out TY0.out TX0.out _ _ w2 HY2.out HX2.out (by omega) (by omega))
    go_wp2_with fail
    refine FC.out.mono ?_
    rintro e w3 ⟨rfl, hb3⟩
    have HB3 := Lib.hid (HB2.out.trans (hb3.mono HB2.out.size))
    clear hb3
    go_wp2_with fail
    go_ret
    exact ⟨by rw [HE.out]; rfl, HB3.out⟩
end Go.Proofs.YtebadokchhnmfaaDoor
/- The document's quotient: mathematics. -/
namespace Go.Proofs.YtebadokchhnmfaaDoor
open Go.RowKit Go.BigM
set_option linter.unusedVariables false
set_option linter.unusedSimpArgs false
/-- The outer loop of the quotient: i digits are still to come. -/
structure QOut (x y q r : List Nat) (i : Nat) : Prop where
  tq : Tens q
  lq : q.length = x.length
  zero : ∀ j, j < i → q.getD j 0 = 0
  tr : Tens r
  top : Top r
  lt : nval r < nval y
  val : nval q * nval y + 10 ^ i * nval r = 10 ^ i * nval (x.drop i)
/-- The inner one, at digit m. -/
structure QIn (x y q r : List Nat) (m : Nat) : Prop where
  tq : Tens q
  lq : q.length = x.length
  zero : ∀ j, j < m → q.getD j 0 = 0
  tr : Tens r
  top : Top r
  lr : r.length ≤ y.length + 1
  val : nval q * nval y + 10 ^ m * nval r = 10 ^ m * nval (x.drop m)
  few : q.getD m 0 * nval y + nval r < 10 * nval y
theorem QOut.start (x y : List Nat) (hy : 0 < nval y) : QOut x y (List.replicate x.length 0) [] x.length := by
  refine ⟨fun a ha => by have := List.eq_of_mem_replicate ha; omega, by simp, fun j _ => ?_, fun a ha => by simp at ha, Or.inl rfl, by simpa [nval] using hy, by simp [nval, nval_zeros]⟩
  rw [List.getD_eq_getElem?_getD, List.getElem?_replicate]
  split <;> rfl
theorem QOut.len {x y q r : List Nat} {i : Nat} (h : QOut x y q r i) (ty : Tens y) : r.length ≤ y.length := by
  rcases Nat.lt_or_ge y.length r.length with h1 | h1
  · have := cmp_len ty h.top h1
    have := h.lt
    omega
  · exact h1
theorem nval_drop_at (x : List Nat) (m : Nat) (h : m < x.length) : nval (x.drop m) = x.getD m 0 + 10 * nval (x.drop (m + 1)) := by
  rw [List.drop_eq_getElem_cons h, List.getD_eq_getElem?_getD, List.getElem?_eq_getElem h]; rfl
theorem QOut.inner {x y q r : List Nat} {m : Nat} (h : QOut x y q r (m + 1)) (hm : m < x.length) (tx : Tens x) (ty : Tens y) (r' : List Nat) (hr : r' = (x.getD m 0 :: r).take (usedOf (x.getD m 0 :: r))) : QIn x y q r' m := by
  have h9 := tx.getD m
  have hl := h.len ty
  have tc : Tens (x.getD m 0 :: r) := by
    intro a ha
    rcases List.mem_cons.1 ha with rfl | ha
    · omega
    · exact h.tr a ha
  have hv : nval r' = x.getD m 0 + 10 * nval r := by rw [hr, nval_used]; rfl
  refine ⟨h.tq, h.lq, fun j hj => h.zero j (by omega), by rw [hr]; exact tc.take _, by rw [hr]; exact top_used _, ?_, ?_, ?_⟩
  · rw [hr, List.length_take, List.length_cons]; omega
  · rw [hv, nval_drop_at x m hm]
    have h1 := h.val
    rw [Nat.pow_succ] at h1
    have e1 : 10 ^ m * (x.getD m 0 + 10 * nval r) = 10 ^ m * x.getD m 0 + 10 ^ m * 10 * nval r := by rw [Nat.mul_add, Nat.mul_assoc]
    have e2 : 10 ^ m * (x.getD m 0 + 10 * nval (x.drop (m + 1))) = 10 ^ m * x.getD m 0 + 10 ^ m * 10 * nval (x.drop (m + 1)) := by rw [Nat.mul_add, Nat.mul_assoc]
    omega
  · rw [h.zero m (by omega), hv]
    have := h.lt
    omega
theorem QIn.step {x y q r : List Nat} {m : Nat} (h : QIn x y q r m) (hm : m < x.length) (hge : nval y ≤ nval r) (r' : List Nat) (tr : Tens r') (top : Top r') (lr : r'.length ≤ r.length) (hv : nval r' = nval r - nval y) :
    QIn x y (q.set m (q.getD m 0 + 1)) r' m ∧ q.getD m 0 ≤ 8 := by
  have hf := h.few
  have hc : q.getD m 0 ≤ 8 := by
    rcases Nat.lt_or_ge (q.getD m 0) 9 with h1 | h1
    · omega
    · have : 9 * nval y ≤ q.getD m 0 * nval y := Nat.mul_le_mul_right _ h1
      omega
  have hs := nval_set q m (q.getD m 0 + 1) (by rw [h.lq]; exact hm)
  have hs2 : nval (q.set m (q.getD m 0 + 1)) = nval q + 10 ^ m := by rw [Nat.mul_add] at hs; omega
  refine ⟨⟨h.tq.set _ _ (by omega), by rw [List.length_set]; exact h.lq, fun j hj => by rw [getD_set_ne _ _ _ _ (by omega)]; exact h.zero j hj, tr, top, Nat.le_trans lr h.lr, ?_, ?_⟩, hc⟩
  · rw [hs2, hv, ← h.val, Nat.add_mul]
    have e : 10 ^ m * nval r = 10 ^ m * nval y + 10 ^ m * (nval r - nval y) := by rw [← Nat.mul_add]; congr 1; omega
    omega
  · have e : (q.set m (q.getD m 0 + 1)).getD m 0 = q.getD m 0 + 1 := by
      rw [List.getD_eq_getElem?_getD, List.getElem?_set_self (by rw [h.lq]; exact hm)]; rfl
    rw [e, hv, Nat.add_mul]
    omega
theorem QIn.done {x y q r : List Nat} {m : Nat} (h : QIn x y q r m) (hlt : nval r < nval y) : QOut x y q r m := ⟨h.tq, h.lq, h.zero, h.tr, h.top, hlt, h.val⟩
theorem QOut.end {x y q r : List Nat} (h : QOut x y q r 0) : nval q = nval x / nval y ∧ nval r = nval x % nval y := by
  have hv := h.val
  simp at hv
  have hl := h.lt
  constructor
  · rw [← hv, Nat.add_comm, Nat.add_mul_div_right _ _ (by omega), Nat.div_eq_of_lt hl]; omega
  · rw [← hv, Nat.add_comm, Nat.add_mul_mod_self_right, Nat.mod_eq_of_lt hl]
theorem sgn_tdiv (b c : Bool) (n m : Nat) : sgn (b != c) (n / m) = (sgn b n).tdiv (sgn c m) := by
  cases b <;> cases c <;> simp [sgn, Int.neg_tdiv, Int.tdiv_neg, Int.ofNat_tdiv]
theorem sgn_tmod (b c : Bool) (n m : Nat) : sgn b (n % m) = (sgn b n).tmod (sgn c m) := by
  have e : (((n % m : Nat)) : Int) = (n : Int).tmod (m : Int) := rfl
  cases b <;> cases c <;> simp only [sgn, Int.neg_tmod, Int.tmod_neg, e, if_true, if_false, Bool.false_eq_true]
end Go.Proofs.YtebadokchhnmfaaDoor
/- A row of digits appended to a row that the call owns. -/
namespace Go.Proofs.YtebadokchhnmfaaDoor
open Go.RowKit Go.BigM
set_option linter.unusedVariables false
set_option linter.unusedSimpArgs false
theorem setCells_nil (w : World) (b o : Nat) : w.setCells b o [] = w := rfl
set_option maxRecDepth 100000 in
theorem wp_appIN {o : Oper} {a : Act} {w : World} {K : Act → World → Prop} {Q : Exit → Act → World → Prop} (s x : Operand)
    (ho : o.op = .call { callee := .builtin .append, args := #[s, x], argTypes := #[22, 22] }) (B g n c : Nat) (L : List Nat) (hs : a.eval s = .slice (some ⟨g, 0, none⟩) n c) (hown : OwnI B w (.slice (some ⟨g, 0, none⟩) n c) L)
    (u : Value) (R : List Nat) (hx : a.eval x = u) (hu : IsL w u R) (hb : L.length + R.length ≤ 100000) (hB : B ≤ w.heap.size)
    (h : ∀ v' w', OwnI B w' v' (L ++ R) → w.grownBy w' (some g) → K (a.put o.dst v') w') : o.wp Tryd.prog a w K Q := by
  obtain ⟨i, hi, hz, hsz, hby⟩ := info_of infoI3
  obtain ⟨ao, cap, rfl, h1, h2, h3⟩ := hu
  cases ao with
  | none =>
    have hR : R = [] := by
      rcases h3 with h3 | ⟨g', e, _⟩
      · exact h3
      · cases e
    subst hR
    have hnc : n ≤ c := by
      rcases hown.2 with ⟨e, _⟩ | ⟨g', cap', cur, e, _, _, h5, _⟩
      · cases e
      · injection e with _ e2 e3; omega
    have hr := run_append_room_src (P := Tryd.prog) w 22 22 o.type 3 i Tryd.underlying22 hi g 0 n c (.slice none 0 cap) 0 [] (Src.ofNil w Tryd.underlying22 cap) (by omega) (fun j hj => by simp at hj) (fun j hj => by simp at hj)
    unfold Oper.wp execOp
    simp only [ho, resolve, invoke, builtin, Sem.run_bind, Sem.run_pure, Result.andThen_ok, List.map_toArray, List.map_cons, List.map_nil, hs, hx, List.length_nil, hr]
    refine h _ _ ?_ ⟨rfl, rfl, rfl, Nat.le_refl _, fun _ _ _ => rfl⟩
    rw [List.append_nil, setCells_nil, Nat.add_zero]; exact hown
  | some ad =>
    refine wp_append_own w s x 22 ho B 3 i (.int .i64 0) 1 8 Tryd.underlying22 hi hz hsz hby rfl (by decide) _ L.length _ hs hown ad R.length cap (R.map fun (a : Nat) => Value.int .i64 (a : Int)) hx (by simp) (fun j t hj => ?_) (fun t ht => ?_) (by unfold maxLen; omega) (by omega) hB ?_
    · clear h2 h
      rcases h3 with rfl | ⟨g', e, hc⟩
      · simp at hj
      · obtain rfl : ad = ⟨g', 0, none⟩ := Option.some.inj e
        have hl : j < R.length := by
          rcases Nat.lt_or_ge j R.length with h | h
          · exact h
          · rw [List.getElem?_eq_none (by simpa using h)] at hj; cases hj
        rw [List.getElem?_map, List.getElem?_eq_getElem hl] at hj
        simp only [Option.map_some, Option.some.injEq] at hj
        subst hj
        have e2 : (⟨g', 0, none⟩ : Addr).add j = ⟨g', j, none⟩ := by simp [Addr.add]; omega
        rw [e2]; exact hc j hl
    · obtain ⟨_, _, rfl⟩ := List.mem_map.1 ht; rfl
    · intro v' w' h5 h6 _
      refine h v' w' ?_ h6
      unfold OwnI
      rw [List.map_append, List.length_append]; exact h5
end Go.Proofs.YtebadokchhnmfaaDoor
/- trim and less once more: where what they hand back lies. -/
namespace Go.Proofs.YtebadokchhnmfaaDoor
open Go.RowKit Go.BigM
set_option linter.unusedVariables false
set_option linter.unusedSimpArgs false
/-- A slice that reads as these digits, its block one of X. -/
def IsLx (X : Nat → Prop) (w : World) (v : Value) (L : List Nat) : Prop :=
  ∃ ao cap, v = .slice ao L.length cap ∧ L.length ≤ cap ∧ cap ≤ maxLen ∧ (L = [] ∨ ∃ g, ao = some ⟨g, 0, none⟩ ∧ X g ∧ ∀ i (h : i < L.length), w.cell? ⟨g, i, none⟩ = some (.int .i64 (L[i] : Nat)))
theorem IsLx.isL {X : Nat → Prop} {w : World} {v : Value} {L : List Nat} (h : IsLx X w v L) : IsL w v L := by
  obtain ⟨ao, cap, rfl, h1, h2, h3⟩ := h
  refine ⟨ao, cap, rfl, h1, h2, ?_⟩
  rcases h3 with h | ⟨g, rfl, _, h⟩
  · exact .inl h
  · exact .inr ⟨g, rfl, h⟩
theorem IsLx.mono {X Y : Nat → Prop} {w : World} {v : Value} {L : List Nat} (h : IsLx X w v L) (hXY : ∀ g, X g → Y g) : IsLx Y w v L := by
  obtain ⟨ao, cap, rfl, h1, h2, h3⟩ := h
  refine ⟨ao, cap, rfl, h1, h2, ?_⟩
  rcases h3 with h | ⟨g, rfl, hX, h⟩
  · exact .inl h
  · exact .inr ⟨g, rfl, hXY g hX, h⟩
theorem IsLx.setCell {X : Nat → Prop} {w : World} {v : Value} {L : List Nat} (h : IsLx X w v L) (a : Addr) (ha : ¬ X a.block) (u : Value) : IsLx X (w.setCell a u) v L := by
  obtain ⟨ao, cap, rfl, h1, h2, h3⟩ := h
  refine ⟨ao, cap, rfl, h1, h2, ?_⟩
  rcases h3 with h | ⟨g, rfl, hX, h⟩
  · exact .inl h
  · exact .inr ⟨g, rfl, hX, fun i hi => by
      rw [World.cell?_of_block (w := w) (heap_setCell_other w a g u (fun e => ha (by rw [← e]; exact hX)))]; exact h i hi⟩
theorem OwnI.isLx {B : Nat} {w : World} {v : Value} {L : List Nat} (h : OwnI B w v L) : IsLx (fun g => B ≤ g) w v L := by
  have h0 := h.isL
  obtain ⟨ao, cap, rfl, h1, h2, h3⟩ := h0
  refine ⟨ao, cap, rfl, h1, h2, ?_⟩
  rcases h3 with h4 | ⟨g, rfl, h4⟩
  · exact .inl h4
  · refine .inr ⟨g, rfl, ?_, h4⟩
    rcases h.2 with ⟨e, _⟩ | ⟨g', cap', cur, e, hb, _⟩
    · cases e
    · injection e with e _ _; injection e with e; injection e with e _ _; omega
theorem IsLx.take {X : Nat → Prop} {w : World} {g n cap : Nat} {L : List Nat} (h : IsLx X w (.slice (some ⟨g, 0, none⟩) n cap) L) (k : Nat) (hk : k ≤ L.length) : IsLx X w (.slice (some ⟨g, 0, none⟩) k cap) (L.take k) := by
  obtain ⟨ao, cap', e, h1, h2, h3⟩ := h
  injection e with e1 e2 e3
  subst e1 e2 e3
  have hl : (L.take k).length = k := by rw [List.length_take]; omega
  refine ⟨_, _, by rw [hl], by omega, h2, ?_⟩
  rcases h3 with rfl | ⟨g', e, hX, h⟩
  · exact .inl (by simp)
  · injection e with e
    injection e with e _ _
    subst e
    exact .inr ⟨_, rfl, hX, fun i hi => by rw [h i (by omega), List.getElem_take]⟩
set_option maxHeartbeats 1000000 in
set_option maxRecDepth 100000 in
theorem trim_x (X : Nat → Prop) (L : List Nat) (v : Value) (w : World) (h : IsLx X w v L) (hn : L.length ≤ 100000) : Calls Tryd.prog 38 #[v] w fun e w' => (∃ u, e = .returned u ∧ IsLx X w u (L.take (usedOf L))) ∧ w = w' := by
  have H := Lib.hid h
  obtain ⟨ao, cap, rfl, h1, h2, h3⟩ := h
  have hcm : cap ≤ 9223372036854775807 := by unfold maxLen at h2; omega
  clear h2
  go_enter Tryd.func38, Tryd.ntmps38
  go_wp2_with fail
  go_loopw [0] (fun v wr => TmInv L ao cap w v wr) (fun v _ => match v with | .slice _ n _ => n | _ => 0)
  case atStart => exact ⟨L.length, usedOf_le L, Nat.le_refl _, rfl, rfl⟩
  case round =>
    obtain ⟨k, hk1, hk2, rfl, rfl⟩ := hrel
    have HR : Hid ((∃ u, Ending.returned (.slice ao k cap) = .returned u ∧ IsLx X wr u (L.take k)) ) := by
      show _
      refine ⟨_, rfl, ?_⟩
      rcases h3 with rfl | ⟨g, rfl, hX, h3⟩
      · obtain rfl : k = 0 := by simpa using hk2
        exact H.out
      · exact H.out.take k hk2
    cases k with
    | zero =>
      have hu : usedOf L = 0 := by omega
      have HU := Lib.hid hu
      clear hu hk1
      go_wp2_with fail
      go_ret
      rw [HU.out]
      exact ⟨HR.out, rfl⟩
    | succ m =>
      rcases h3 with rfl | ⟨g, rfl, hX, h3⟩
      · simp at hk2
      have hc := h3 m (by omega)
      have e1 : (((m + 1 : Nat) : Int) - 1) = (m : Int) := by omega
      have hmc : m + 1 ≤ cap := by omega
      have hgl : L.getD m 0 = L[m] := by rw [List.getD_eq_getElem?_getD, List.getElem?_eq_getElem (by omega)]; rfl
      obtain ⟨n, hmn⟩ : ∃ n, n = m + 1 := ⟨_, rfl⟩
      rw [← hmn] at e1 HR hmc
      simp only [← hmn]
      have hn0 : decide ((0 : Int) < (n : Int)) = true := decide_eq_true (by omega)
      have hmn2 : m < n := by omega
      have hmc2 : m ≤ cap := by omega
      have hnl : n ≤ 100000 := by omega
      by_cases h0 : L[m] = 0
      · rw [h0] at hc
        have hu : usedOf L ≤ m := by
          rcases Nat.lt_or_ge m (usedOf L) with h | h
          · have := usedOf_top L (by omega)
            rw [show usedOf L - 1 = m by omega, hgl] at this
            exact absurd h0 this
          · exact h
        have HU := Lib.hid hu
        clear HR h3 hgl hmn hk1 hu
        go_wp2_with fail
        go_roundw
        case rel => exact ⟨m, HU.out, by omega, rfl, rfl⟩
        case measure => omega
      · have hu : usedOf L = n := by
          rcases Nat.lt_or_ge m (usedOf L) with h | h
          · omega
          · have := usedOf_zero L m h
            rw [hgl] at this
            exact absurd this h0
        obtain ⟨x, hx⟩ : ∃ x, x = L[m] := ⟨_, rfl⟩
        rw [← hx] at hc h0
        have hx0 : ((x : Int) == 0) = false := by rw [beq_eq_false_iff_ne]; omega
        have HU := Lib.hid hu
        clear h3 hgl hmn hk1 hx hu
        go_wp2_with fail
        go_ret
        rw [HU.out]
        exact ⟨HR.out, rfl⟩
def RetLx (n m : Nat) (w : World) (e : Ending) (w' : World) : Prop := ∃ u P, e = .returned u ∧ IsLx (fun g => w.heap.size ≤ g) w' u P ∧ Tens P ∧ Top P ∧ nval P = n ∧ P.length ≤ m ∧ Below w.heap.size w w'
set_option maxHeartbeats 8000000 in
set_option maxRecDepth 100000 in
theorem refless_x (A B : List Nat) (hA : Tens A) (hB : Tens B) (u v : Value) (w : World) (hu : IsL w u A) (hv : IsL w v B) (la : A.length ≤ 300) (lb : B.length ≤ A.length) (hle : nval B ≤ nval A) :
    Calls Tryd.prog 40 #[u, v] w (RetLx (nval A - nval B) A.length w) := by
  obtain ⟨ax, cx, rfl, hxp⟩ := hu.ptr
  obtain ⟨ay, cy, rfl, hyp⟩ := hv.ptr
  obtain ⟨p, hp⟩ : ∃ p, p = A.length := ⟨_, rfl⟩
  obtain ⟨q, hq⟩ : ∃ q, q = B.length := ⟨_, rfl⟩
  have HXP := Lib.hid hxp
  have HYP := Lib.hid hyp
  have TA := Lib.hid hA
  have TB := Lib.hid hB
  have HP := Lib.hid hp
  have HQ := Lib.hid hq
  have HLE : Hid (B.length ≤ A.length ∧ nval B ≤ nval A) := ⟨lb, hle⟩
  rw [← hp] at la
  rw [← hp, ← hq] at lb
  have hq300 : q ≤ 300 := by omega
  rw [← hp, ← hq]
  have H0 : Hid (LsInv A B w (.slice none 0 0) (.int .i64 0) (.int .i64 0) w) := ⟨0, 0, [], by omega, rfl, rfl, ⟨rfl, fun x hx => by simp at hx, by omega, by simp [nval]⟩, OwnI.nil _ _, Below.refl _ _⟩
  clear hu hv hxp hyp hp hq hA hB hle lb
  go_enter Tryd.func40, Tryd.ntmps40
  go_wp2_with fail
  go_loopw [5, 6, 7] (fun v cv iv wr => LsInv A B w v cv iv wr) (fun _ _ iv _ => p - (intOf iv).toNat)
  case atStart => exact H0.out
  case round =>
    clear H0
    obtain ⟨i, t, out, hi, rfl, rfl, hls, hown, hb⟩ := hrel
    rw [← HP.out] at hi
    have hc := hls.carry
    have HL : Hid (out.length = i) := hls.len
    have HO := Lib.hid hown
    have HB := Lib.hid hb
    have HLS := Lib.hid hls
    clear hls hown hb
    by_cases hip : i < p
    · have q1 : decide ((i : Int) < (p : Int)) = true := decide_eq_true (by omega)
      have HI : Hid (Ls A B out i t ∧ i < A.length) := ⟨HLS.out, by rw [← HP.out]; exact hip⟩
      have hb0 : q ≤ i → B.getD i 0 = 0 := fun h => by rw [List.getD_eq_getElem?_getD, List.getElem?_eq_none (by rw [← HQ.out]; exact h)]; rfl
      have ha9 : A.getD i 0 ≤ 9 := TA.out.getD i
      have hb9 : B.getD i 0 ≤ 9 := TB.out.getD i
      obtain ⟨a, haa⟩ : ∃ a, A.getD i 0 = a := ⟨_, rfl⟩
      obtain ⟨b, hbb⟩ : ∃ b, B.getD i 0 = b := ⟨_, rfl⟩
      have ha99 : a ≤ 9 := by omega
      have hb99 : b ≤ 9 := by omega
      obtain ⟨gx, hax, hx⟩ := HXP.out i (by rw [← HP.out]; exact hip)
      subst hax
      rw [haa] at hx
      have hgx : gx < w.heap.size := World.block_lt_of_cell? w _ hx
      have hcx : wr.cell? ⟨gx, i, none⟩ = some (.int .i64 (a : Int)) := (HB.out.cell (p := ⟨gx, i, none⟩) hgx).trans hx
      clear hx HLS
      by_cases hiq : i < q
      · have q2 : decide ((i : Int) < (q : Int)) = true := decide_eq_true (by omega)
        obtain ⟨gy, hay, hy⟩ := HYP.out i (by rw [← HQ.out]; exact hiq)
        subst hay
        rw [hbb] at hy
        have hgy : gy < w.heap.size := World.block_lt_of_cell? w _ hy
        have hcy : wr.cell? ⟨gy, i, none⟩ = some (.int .i64 (b : Int)) := (HB.out.cell (p := ⟨gy, i, none⟩) hgy).trans hy
        obtain ⟨z1, hz1⟩ : ∃ z1 : Int, (a : Int) - (t : Int) = z1 := ⟨_, rfl⟩
        have hz1l : -1 ≤ z1 := by omega
        have hz1h : z1 ≤ 9 := by omega
        clear hy
        by_cases hz : t + b ≤ a
        · obtain ⟨r, hr⟩ : ∃ r, r = a - t - b := ⟨_, rfl⟩
          have hr9 : r ≤ 9 := by omega
          have hrr : r + B.getD i 0 + t = A.getD i 0 + 10 * 0 := by omega
          have hz2 : z1 - (b : Int) = (r : Int) := by omega
          have q3 : decide ((r : Int) < 0) = false := decide_eq_false (by omega)
          clear hr ha9 hb9 hz
          have HA := Lib.hid (show OwnI w.heap.size (wr.alloc (.cells #[.int .i64 (r : Int)] 3)) u5 out from World.ownsRow.alloc HO.out _)
          have hlen : out.length ≤ 100000 := by have := HL.out; omega
          have HST := Lib.hid (fun v' w2 h2 hg => ls_step (w2 := w2) (v' := v') HI.out r 0 hr9 (by omega) hrr HO.out HB.out h2 hg)
          have hcl : (wr.alloc (.cells #[.int .i64 (r : Int)] 3)).cell? ⟨wr.heap.size, 0, none⟩ = some (.int .i64 (r : Int)) := by rw [cell_of_row _ _ _ _ _ _ (heap_alloc_new wr (.cells #[.int .i64 (r : Int)] 3))]; rfl
          have hsz2 : w.heap.size ≤ (wr.alloc (.cells #[.int .i64 (r : Int)] 3)).heap.size := by have := HB.out.size; simp; omega
          clear hrr haa hbb hb0 hr9
          go_wp2_with (refine wpList_wantedR (by rfl) fun K hK => ?_; refine wp_appI1 (Operand.tmp 35) (Operand.tmp 37) rfl w.heap.size u5 _ rfl HA.out wr.heap.size rfl r hcl hlen hsz2 ?_; intro v' w9 hown9 hg9; have HM := Lib.hid (HST.out v' w9 hown9 hg9); clear hown9 hg9 HST HA; refine hK _ _ ?_; clear hK K)
          go_roundw
          case rel => exact HM.out
          case measure => simp [intOf]; omega
        · obtain ⟨r, hr⟩ : ∃ r, r = a + 10 - t - b := ⟨_, rfl⟩
          have hr9 : r ≤ 9 := by omega
          have hrr : r + B.getD i 0 + t = A.getD i 0 + 10 * 1 := by omega
          obtain ⟨z, hz3⟩ : ∃ z : Int, z1 - (b : Int) = z := ⟨_, rfl⟩
          have q3 : decide (z < 0) = true := decide_eq_true (by omega)
          have hz4 : z + 10 = (r : Int) := by omega
          have hzl : -20 ≤ z := by omega
          have hzh : z ≤ 20 := by omega
          clear hr ha9 hb9 hz
          have HA := Lib.hid (show OwnI w.heap.size (wr.alloc (.cells #[.int .i64 (r : Int)] 3)) u5 out from World.ownsRow.alloc HO.out _)
          have hlen : out.length ≤ 100000 := by have := HL.out; omega
          have HST := Lib.hid (fun v' w2 h2 hg => ls_step (w2 := w2) (v' := v') HI.out r 1 hr9 (by omega) hrr HO.out HB.out h2 hg)
          have hcl : (wr.alloc (.cells #[.int .i64 (r : Int)] 3)).cell? ⟨wr.heap.size, 0, none⟩ = some (.int .i64 (r : Int)) := by rw [cell_of_row _ _ _ _ _ _ (heap_alloc_new wr (.cells #[.int .i64 (r : Int)] 3))]; rfl
          have hsz2 : w.heap.size ≤ (wr.alloc (.cells #[.int .i64 (r : Int)] 3)).heap.size := by have := HB.out.size; simp; omega
          clear hrr haa hbb hb0 hr9
          go_wp2_with (refine wpList_wantedR (by rfl) fun K hK => ?_; refine wp_appI1 (Operand.tmp 35) (Operand.tmp 37) rfl w.heap.size u5 _ rfl HA.out wr.heap.size rfl r hcl hlen hsz2 ?_; intro v' w9 hown9 hg9; have HM := Lib.hid (HST.out v' w9 hown9 hg9); clear hown9 hg9 HST HA; refine hK _ _ ?_; clear hK K)
          go_roundw
          case rel => exact HM.out
          case measure => simp [intOf]; omega
      · have q2 : decide ((i : Int) < (q : Int)) = false := decide_eq_false (by omega)
        have hbz := hb0 (by omega)
        rw [hbb] at hbz
        by_cases hz : t + b ≤ a
        · obtain ⟨r, hr⟩ : ∃ r, r = a - t - b := ⟨_, rfl⟩
          have hr9 : r ≤ 9 := by omega
          have hrr : r + B.getD i 0 + t = A.getD i 0 + 10 * 0 := by omega
          have hz2 : (a : Int) - (t : Int) = (r : Int) := by omega
          have q3 : decide ((r : Int) < 0) = false := decide_eq_false (by omega)
          clear hr ha9 hb9 hz
          have HA := Lib.hid (show OwnI w.heap.size (wr.alloc (.cells #[.int .i64 (r : Int)] 3)) u5 out from World.ownsRow.alloc HO.out _)
          have hlen : out.length ≤ 100000 := by have := HL.out; omega
          have HST := Lib.hid (fun v' w2 h2 hg => ls_step (w2 := w2) (v' := v') HI.out r 0 hr9 (by omega) hrr HO.out HB.out h2 hg)
          have hcl : (wr.alloc (.cells #[.int .i64 (r : Int)] 3)).cell? ⟨wr.heap.size, 0, none⟩ = some (.int .i64 (r : Int)) := by rw [cell_of_row _ _ _ _ _ _ (heap_alloc_new wr (.cells #[.int .i64 (r : Int)] 3))]; rfl
          have hsz2 : w.heap.size ≤ (wr.alloc (.cells #[.int .i64 (r : Int)] 3)).heap.size := by have := HB.out.size; simp; omega
          clear hrr haa hbb hb0 hr9
          go_wp2_with (refine wpList_wantedR (by rfl) fun K hK => ?_; refine wp_appI1 (Operand.tmp 35) (Operand.tmp 37) rfl w.heap.size u5 _ rfl HA.out wr.heap.size rfl r hcl hlen hsz2 ?_; intro v' w9 hown9 hg9; have HM := Lib.hid (HST.out v' w9 hown9 hg9); clear hown9 hg9 HST HA; refine hK _ _ ?_; clear hK K)
          go_roundw
          case rel => exact HM.out
          case measure => simp [intOf]; omega
        · obtain ⟨r, hr⟩ : ∃ r, r = a + 10 - t - b := ⟨_, rfl⟩
          have hr9 : r ≤ 9 := by omega
          have hrr : r + B.getD i 0 + t = A.getD i 0 + 10 * 1 := by omega
          obtain ⟨z, hz3⟩ : ∃ z : Int, (a : Int) - (t : Int) = z := ⟨_, rfl⟩
          have q3 : decide (z < 0) = true := decide_eq_true (by omega)
          have hz4 : z + 10 = (r : Int) := by omega
          have hzl : -20 ≤ z := by omega
          have hzh : z ≤ 20 := by omega
          clear hr ha9 hb9 hz
          have HA := Lib.hid (show OwnI w.heap.size (wr.alloc (.cells #[.int .i64 (r : Int)] 3)) u5 out from World.ownsRow.alloc HO.out _)
          have hlen : out.length ≤ 100000 := by have := HL.out; omega
          have HST := Lib.hid (fun v' w2 h2 hg => ls_step (w2 := w2) (v' := v') HI.out r 1 hr9 (by omega) hrr HO.out HB.out h2 hg)
          have hcl : (wr.alloc (.cells #[.int .i64 (r : Int)] 3)).cell? ⟨wr.heap.size, 0, none⟩ = some (.int .i64 (r : Int)) := by rw [cell_of_row _ _ _ _ _ _ (heap_alloc_new wr (.cells #[.int .i64 (r : Int)] 3))]; rfl
          have hsz2 : w.heap.size ≤ (wr.alloc (.cells #[.int .i64 (r : Int)] 3)).heap.size := by have := HB.out.size; simp; omega
          clear hrr haa hbb hb0 hr9
          go_wp2_with (refine wpList_wantedR (by rfl) fun K hK => ?_; refine wp_appI1 (Operand.tmp 35) (Operand.tmp 37) rfl w.heap.size u5 _ rfl HA.out wr.heap.size rfl r hcl hlen hsz2 ?_; intro v' w9 hown9 hg9; have HM := Lib.hid (HST.out v' w9 hown9 hg9); clear hown9 hg9 HST HA; refine hK _ _ ?_; clear hK K)
          go_roundw
          case rel => exact HM.out
          case measure => simp [intOf]; omega
    · have q1 : decide ((i : Int) < (p : Int)) = false := decide_eq_false (by omega)
      have hiA : i = A.length := by rw [← HP.out]; omega
      have HV : Hid (nval out = nval A - nval B) := by
        have h1 := HLS.out
        rw [hiA] at h1
        exact h1.end HLE.out.1 HLE.out.2
      have FT := Lib.hid (trim_x (fun g => w.heap.size ≤ g) out u5 wr HO.out.isLx (by rw [HL.out]; omega))
      clear hiA
      go_wp2_with fail
      refine FT.out.mono ?_
      rintro e w2 ⟨⟨u, rfl, hu⟩, rfl⟩
      have HU := Lib.hid hu
      clear hu
      go_wp2_with fail
      go_ret
      exact ⟨u, _, rfl, HU.out, HLS.out.tens.take _, top_used _, by rw [nval_used]; exact HV.out, by rw [List.length_take, HL.out]; omega, HB.out⟩
end Go.Proofs.YtebadokchhnmfaaDoor
/- The document's quotient. -/
namespace Go.Proofs.YtebadokchhnmfaaDoor
open Go.RowKit Go.BigM
set_option linter.unusedVariables false
set_option linter.unusedSimpArgs false
def QoInv (x y : List Nat) (w : World) (g : Nat) (rv iv : Value) (wr : World) : Prop :=
  ∃ (i : Nat) (q r : List Nat), i ≤ x.length ∧ iv = .int .i64 (i : Int) ∧ QOut x y q r i ∧ NRw wr g q ∧ IsLx (fun b => b ≠ g) wr rv r ∧ Below w.heap.size w wr
def QiInv (x y : List Nat) (w : World) (g m : Nat) (rv : Value) (wr : World) : Prop :=
  ∃ (q r : List Nat), QIn x y q r m ∧ NRw wr g q ∧ IsLx (fun b => b ≠ g) wr rv r ∧ Below w.heap.size w wr
/-- What is left to the quotient's digit. -/
def qms (g m : Nat) (w : World) : Nat := match w.cell? ⟨g, m, none⟩ with
  | some (.int _ z) => (10 - z).toNat
  | _ => 0
theorem qi_start {x y q r : List Nat} {m g : Nat} {w wr w9 : World} {u : Value} {cs : Array Value} (tx : Tens x) (ty : Tens y) (h : QOut x y q r (m + 1)) (hm : m < x.length) (hrow : NRw wr g q) (hb : Below w.heap.size w wr)
    (hg9 : (wr.alloc (.cells cs 3)).grownBy w9 (some wr.heap.size)) (hu : IsLx (fun b => wr.heap.size ≤ b) w9 u (([x.getD m 0] ++ r).take (usedOf ([x.getD m 0] ++ r)))) : QiInv x y w g m u w9 := by
  have hgl : g < wr.heap.size := (Array.getElem?_eq_some_iff.1 hrow).1
  have hs := hb.size
  refine ⟨q, _, h.inner hm tx ty _ rfl, ?_, hu.mono (fun b hb => by show b ≠ g; have : wr.heap.size ≤ b := hb; omega), ?_⟩
  · unfold NRw at *
    rw [hg9.block g (by simp; omega) (by intro e; injection e with e; omega), Lib.alloc_old wr _ g hgl]; exact hrow
  · exact (hb.alloc hs _).grown hg9 (by simp; omega) (fun k hk => by injection hk with hk; omega)
theorem one_own (w : World) (d : Nat) : OwnI w.heap.size (w.alloc (.cells #[.int .i64 (d : Int)] 3)) (.slice (some ⟨w.heap.size, 0, none⟩) 1 1) [d] :=
  ⟨by simp, .inr ⟨w.heap.size, 1, #[.int .i64 (d : Int)], rfl, Nat.le_refl _, heap_alloc_new w _, by simp, by unfold maxLen; omega, by simp, by simp⟩⟩
def RetQ2 (b c : Bool) (n m : Nat) (w : World) (e : Ending) (w' : World) : Prop := e = .returned (.tuple #[.string ⟨(txt (b != c) (n / m)).toArray⟩, .string ⟨(txt b (n % m)).toArray⟩, .bool true]) ∧ Below w.heap.size w w'
theorem Top.pos {L : List Nat} (t : Top L) (h : L ≠ []) : 0 < nval L := by
  have := top_ge t h
  have : 0 < 10 ^ (L.length - 1) := Nat.pow_pos (by decide)
  omega
set_option maxHeartbeats 8000000 in
set_option maxRecDepth 100000 in
theorem refquo_any (s t : ByteArray) (hs : Canon s.data.toList) (ht : Canon t.data.toList) (hy0 : dval (strip t.data.toList) ≠ 0) (w : World) :
    Calls Tryd.prog 25 #[.string s, .string t] w (RetQ2 (low s.data.toList) (low t.data.toList) (dval (strip s.data.toList)) (dval (strip t.data.toList)) w) := by
  have F1 := Lib.hid (rdigits_any s hs w)
  have F2 := Lib.hid (fun w => rdigits_any t ht w)
  have tx0 := dgs_top s.data.toList
  have ty0 := dgs_top t.data.toList
  obtain ⟨x, hx⟩ : ∃ x, x = dgs s.data.toList := ⟨_, rfl⟩
  obtain ⟨y, hy⟩ : ∃ y, y = dgs t.data.toList := ⟨_, rfl⟩
  have tx : Tens x := by rw [hx]; exact (tens_rdg hs.2.2.1).take _
  have ty : Tens y := by rw [hy]; exact (tens_rdg ht.2.2.1).take _
  have vx : nval x = dval (strip s.data.toList) := by rw [hx, nval_dgs]
  have vy : nval y = dval (strip t.data.toList) := by rw [hy, nval_dgs]
  have lx : x.length ≤ 200 := by rw [hx]; exact Nat.le_trans (dgs_len _) hs.2.1
  have ly : y.length ≤ 200 := by rw [hy]; exact Nat.le_trans (dgs_len _) ht.2.1
  rw [← vy] at hy0
  rw [← vx, ← vy]
  obtain ⟨b1, hb1⟩ : ∃ b, low s.data.toList = b := ⟨_, rfl⟩
  obtain ⟨b2, hb2⟩ : ∃ b, low t.data.toList = b := ⟨_, rfl⟩
  rw [hb1, hb2]
  unfold RetDg at F1 F2
  rw [hb1, ← hx] at F1
  rw [hb2, ← hy] at F2
  rw [← hx] at tx0
  rw [← hy] at ty0
  have TX := Lib.hid tx
  have TY := Lib.hid ty
  have TY0 := Lib.hid ty0
  have YP := Lib.hid (show 0 < nval y by omega)
  clear vx vy hx hy hb1 hb2 hs ht tx ty tx0 ty0
  go_enter Tryd.func25, Tryd.ntmps25
  go_wp2_with fail
  refine F1.out.mono ?_
  rintro e w1 ⟨u1, rfl, hu1, hbw1⟩
  obtain ⟨ax, cx, rfl, -⟩ := hu1.ptr
  have HB1 := Lib.hid hbw1
  have HX1 := Lib.hid hu1
  clear hbw1 hu1 F1
  go_wp2_with fail
  refine (F2.out _).mono ?_
  rintro e w2 ⟨u2, rfl, hu2, hbw2⟩
  obtain ⟨ay, cy, rfl, -⟩ := hu2.ptr
  have HB2 := Lib.hid (HB1.out.trans (hbw2.mono HB1.out.size))
  have HX2 := Lib.hid (HX1.out.below hbw2)
  have HY2 := Lib.hid hu2
  clear hbw2 hu2 F2 HX1 HB1
  obtain ⟨p, hp⟩ : ∃ p, p = x.length := ⟨_, rfl⟩
  obtain ⟨q, hq⟩ : ∃ q, q = y.length := ⟨_, rfl⟩
  have hq0 : 0 < q := by
    rcases Nat.eq_zero_or_pos q with h | h
    · exfalso; apply hy0
      rw [hq] at h
      rw [List.length_eq_zero_iff.1 h]; rfl
    · exact h
  have qz : ((q : Int) == 0) = false := by rw [beq_eq_false_iff_ne]; omega
  rw [← hp] at lx HX2
  rw [← hq] at ly HY2
  simp only [← hp, ← hq]
  have hmk := run_make_ints p (by omega) w2
  have HP := Lib.hid hp
  have HQ := Lib.hid hq
  have h0 : QoInv x y w2 w2.heap.size (.slice none 0 0) (.int .i64 (p : Int)) (w2.alloc (.cells (IV (List.replicate p 0)) 3)) :=
    ⟨p, _, [], by omega, rfl, by rw [hp]; exact QOut.start x y YP.out, heap_alloc_new w2 (.cells (IV (List.replicate p 0)) 3), ⟨none, 0, rfl, Nat.le_refl _, Nat.zero_le _, .inl rfl⟩, (Below.refl _ _).alloc (Nat.le_refl _) _⟩
  have H0 := Lib.hid h0
  clear hp hq h0 hy0
  go_wp2_with fail
  clear hmk qz
  obtain ⟨g0, hg0⟩ : ∃ g0, w2.heap.size = g0 := ⟨_, rfl⟩
  rw [hg0] at H0
  simp only [hg0]
  generalize w2.alloc (.cells (IV (List.replicate p 0)) 3) = W0 at H0 ⊢
  go_loopw [12, 13] (fun rv iv wr => QoInv x y w2 g0 rv iv wr) (fun _ iv _ => (intOf iv).toNat)
  case atStart => exact H0.out
  case round =>
    clear H0
    obtain ⟨i, qd, r, hi, rfl, hqo, hrow, hrv, hbel⟩ := hrel
    rw [← HP.out] at hi
    have HB := Lib.hid hbel
    have HQO := Lib.hid hqo
    have HRW := Lib.hid hrow
    have HRV := Lib.hid hrv
    clear hqo hrow hrv hbel
    cases i with
    | succ m =>
      have hmx : m < x.length := by rw [← HP.out]; omega
      have hmp : m < p := by omega
      have e1 : (((m + 1 : Nat) : Int) - 1) = (m : Int) := by omega
      obtain ⟨n, hmn⟩ : ∃ n, n = m + 1 := ⟨_, rfl⟩
      have HI : Hid (QOut x y qd r (m + 1) ∧ m < x.length) := ⟨HQO.out, hmx⟩
      have HLR : Hid (r.length ≤ 300) := Nat.le_trans (HQO.out.len TY.out) (by rw [← HQ.out]; omega)
      rw [← hmn] at e1 
      simp only [← hmn]
      have hn0 : decide ((0 : Int) < (n : Int)) = true := decide_eq_true (by omega)
      have hn300 : n ≤ 300 := by omega
      obtain ⟨ax', cx', ex, hxp⟩ := HX2.out.ptr
      injection ex with ex1 ex2 ex3
      clear ex2
      obtain ⟨gx, hax, hxi⟩ := hxp m hmx
      subst ex1 ex3
      subst hax
      have hgx : gx < w2.heap.size := World.block_lt_of_cell? w2 _ hxi
      obtain ⟨xm, hxd⟩ : ∃ xm, x.getD m 0 = xm := ⟨_, rfl⟩
      have hx9 : xm ≤ 9 := by rw [← hxd]; exact TX.out.getD m
      rw [hxd] at hxi
      have hcx : wr.cell? ⟨gx, m, none⟩ = some (.int .i64 (xm : Int)) := (HB.out.cell (p := ⟨gx, m, none⟩) hgx).trans hxi
      have HXD := Lib.hid hxd
      have HA := Lib.hid (one_own wr xm)
      have HR := Lib.hid (HRV.out.isL.below ((Below.refl wr.heap.size wr).alloc (Nat.le_refl _) (.cells #[.int .i64 (xm : Int)] 3)))
      have hlen : [xm].length + r.length ≤ 100000 := by have := HLR.out; simp; omega
      have hsz2 : wr.heap.size ≤ (wr.alloc (.cells #[.int .i64 (xm : Int)] 3)).heap.size := by simp
      have HST : Hid (∀ (w9 : World) (u : Value), (wr.alloc (.cells #[.int .i64 (xm : Int)] 3)).grownBy w9 (some wr.heap.size) → IsLx (fun b => wr.heap.size ≤ b) w9 u (([xm] ++ r).take (usedOf ([xm] ++ r))) → QiInv x y w2 g0 m u w9) := by
        show _
        intro w9 u hg9 hu
        rw [← HXD.out] at hu
        exact qi_start TX.out TY.out HI.out.1 HI.out.2 HRW.out HB.out hg9 hu
      clear hxp hxi hxd hmx hmn HQO HRW HI
      go_wp2_with (refine wpList_wantedR (by rfl) fun K hK => ?_; refine wp_appIN (Operand.tmp 45) (Operand.tmp 46) rfl wr.heap.size wr.heap.size 1 1 [xm] rfl HA.out u12 r rfl HR.out hlen hsz2 ?_; intro v' w9 hown9 hg9; have HM := Lib.hid (trim_x (fun b => wr.heap.size ≤ b) ([xm] ++ r) v' w9 hown9.isLx (by rw [List.length_append]; exact hlen)); have HG9 := Lib.hid hg9; clear hown9 hg9 HA; refine hK _ _ ?_; clear hK K)
      refine HM.out.mono ?_
      rintro e w10 ⟨⟨u, rfl, hu⟩, rfl⟩
      have H1 := Lib.hid (HST.out w9 u HG9.out hu)
      clear hu HM HG9 HST HRV HR hcx hlen hsz2
      go_wp2_with fail
      go_loopw [12] (fun rv wr => QiInv x y w2 g0 m rv wr) (fun _ wr => qms g0 m wr)
      case atStart => exact H1.out
      case round =>
        clear H1 HB
        obtain ⟨qd2, r2, hqi, hrow, hrv, hbel⟩ := hrel
        have hlr := hqi.lr
        have hlq := hqi.lq
        rw [← HQ.out] at hlr
        rw [← HP.out] at hlq
        have HB := Lib.hid hbel
        have HQI := Lib.hid hqi
        have HRW := Lib.hid hrow
        have HRV := Lib.hid hrv
        have FC := Lib.hid (refcmp_any r2 y hqi.tr TY.out hqi.top TY0.out _ _ _ hrv.isL (HY2.out.below (hbel.mono (Nat.le_refl _))) (by omega) (by rw [← HQ.out]; omega))
        obtain ⟨c, hc⟩ : ∃ c : Int, cmpI (nval r2) (nval y) = c := ⟨_, rfl⟩
        unfold RetCm at FC
        rw [hc] at FC
        clear hqi hrow hrv hbel
        by_cases hge : nval y ≤ nval r2
        · have q3 : decide (0 ≤ c) = true := decide_eq_true (by rw [← hc]; unfold cmpI; (repeat' split) <;> omega)
          have HGE := Lib.hid hge
          clear hc hge
          go_wp2_with fail
          refine FC.out.mono ?_
          rintro e w4 ⟨rfl, hb4⟩
          have HBL : Hid (Below w2.heap.size w2 w4) := HB.out.trans (hb4.mono HB.out.size)
          have hgl : g0 < wr.heap.size := (Array.getElem?_eq_some_iff.1 HRW.out).1
          have HRW4 : Hid (NRw w4 g0 qd2) := by show _; unfold NRw; rw [hb4.block g0 hgl]; exact HRW.out
          have FL := Lib.hid (refless_x r2 y HQI.out.tr TY.out _ _ w4 (HRV.out.isL.below hb4) (HY2.out.below (HBL.out)) (by omega) (by
            rcases Nat.lt_or_ge r2.length y.length with h | h
            · have := cmp_len HQI.out.tr TY0.out h
              have := HGE.out
              omega
            · exact h) HGE.out)
          clear hb4 FC HB
          go_wp2_with fail
          refine FL.out.mono ?_
          rintro e w5 ⟨u, P, rfl, hu, tP, topP, vP, lP, hb5⟩
          have hs4 : g0 < w4.heap.size := (Array.getElem?_eq_some_iff.1 HRW4.out).1
          obtain ⟨hst, hc8⟩ := HQI.out.step (by rw [← HP.out]; exact hmp) HGE.out P tP topP lP vP
          have hrow5 : NRw w5 g0 qd2 := by unfold NRw; rw [hb5.block g0 hs4]; exact HRW4.out
          have hcell := hrow5.cell m (by rw [hlq]; exact hmp)
          have hfz := frozen_of_row w5 g0 m _ 3 hrow5
          have hrow6 := hrow5.put m (qd2.getD m 0 + 1)
          have hcell6 := hrow6.cell m (by rw [List.length_set, hlq]; exact hmp)
          have hget : (qd2.set m (qd2.getD m 0 + 1)).getD m 0 = qd2.getD m 0 + 1 := by
            rw [List.getD_eq_getElem?_getD, List.getElem?_set_self (by rw [hlq]; exact hmp)]; rfl
          rw [hget] at hcell6
          obtain ⟨o1, ho1⟩ : ∃ o1, qd2.getD m 0 = o1 := ⟨_, rfl⟩
          rw [ho1] at hcell hcell6 hst hrow6 hc8
          have hoi : (o1 : Int) + 1 = ((o1 + 1 : Nat) : Int) := by omega
          have hg2 : w2.heap.size ≤ g0 := by omega
          have HREL : Hid (QiInv x y w2 g0 m u (w5.setCell ⟨g0, m, none⟩ (.int .i64 ((o1 + 1 : Nat) : Int)))) :=
            ⟨_, P, hst, hrow6, (hu.mono (fun b hb => by show b ≠ g0; have : w4.heap.size ≤ b := hb; omega)).setCell ⟨g0, m, none⟩ (fun h => h rfl) _, (HBL.out.trans (hb5.mono HBL.out.size)).setCell (p := ⟨g0, m, none⟩) hg2 _⟩
          have HMS : Hid (qms g0 m (w5.setCell ⟨g0, m, none⟩ (.int .i64 ((o1 + 1 : Nat) : Int))) < qms g0 m wr) := by
            show _ < _
            have h3 := HRW.out.cell m (by rw [hlq]; exact hmp)
            rw [ho1] at h3
            unfold qms
            rw [hcell6, h3]
            simp only []
            omega
          rw [← hoi] at HREL HMS
          clear hu tP topP vP lP hb5 hst hrow5 hrow6 hcell6 hget ho1 hoi FL HQI HRW HRW4 HRV HBL HGE
          go_wp2_with fail
          go_roundw
          case rel => exact HREL.out
          case measure => exact HMS.out
        · have q3 : decide (0 ≤ c) = false := decide_eq_false (by rw [← hc]; unfold cmpI; (repeat' split) <;> omega)
          have hlt : nval r2 < nval y := by omega
          have HLT := Lib.hid hlt
          clear hc hge hlt
          go_wp2_with fail
          refine FC.out.mono ?_
          rintro e w4 ⟨rfl, hb4⟩
          have hgl : g0 < wr.heap.size := (Array.getElem?_eq_some_iff.1 HRW.out).1
          have hrow4 : NRw w4 g0 qd2 := by unfold NRw; rw [hb4.block g0 hgl]; exact HRW.out
          have HREL : Hid (QoInv x y w2 g0 u12 (.int .i64 (m : Int)) w4) := by
            refine ⟨m, qd2, r2, by rw [← HP.out]; omega, rfl, HQI.out.done HLT.out, hrow4, ?_, HB.out.trans (hb4.mono HB.out.size)⟩
            obtain ⟨ao, cap, e, h1, h2, h3⟩ := HRV.out
            refine ⟨ao, cap, e, h1, h2, ?_⟩
            rcases h3 with h | ⟨g, e2, hX, h⟩
            · exact .inl h
            · exact .inr ⟨g, e2, hX, fun i hi => by rw [hb4.cell (World.block_lt_of_cell? wr _ (h i hi))]; exact h i hi⟩
          clear hb4 hrow4 FC HB HQI HRW HRV
          go_wp2_with fail
          go_roundw
          case rel => exact HREL.out
          case measure => simp [intOf]; omega
    | zero =>
      have hlq : qd.length = p := by rw [HQO.out.lq, ← HP.out]
      obtain ⟨ve1, ve2⟩ := HQO.out.end
      have hil := HRW.out.isL (by omega)
      rw [hlq] at hil
      have FX := Lib.hid (rtext_any qd HQO.out.tq _ (b1 != b2) wr hil (by omega))
      have hlr : r.length ≤ 100000 := Nat.le_trans (HQO.out.len TY.out) (by rw [← HQ.out]; omega)
      have FY : Hid (∀ (w9 : World), Below wr.heap.size wr w9 → Calls Tryd.prog 34 #[u12, .bool b1] w9 (RetXt b1 (nval r) w9)) := fun w9 hb9 => rtext_any r HQO.out.tr _ b1 w9 (HRV.out.isL.below hb9) hlr
      rw [ve1] at FX
      rw [ve2] at FY
      clear HRW hil hlq ve1 ve2 hlr HQO HRV
      go_wp2_with fail
      refine FX.out.mono ?_
      rintro e w9 ⟨rfl, hb⟩
      have FZ := Lib.hid (FY.out w9 hb)
      have HBB := Lib.hid (HB2.out.trans ((HB.out.trans (hb.mono HB.out.size)).mono HB2.out.size))
      clear hb FX FY
      go_wp2_with fail
      refine FZ.out.mono ?_
      rintro e w10 ⟨rfl, hb⟩
      have HBC := Lib.hid (HBB.out.trans (hb.mono HBB.out.size))
      clear hb FZ
      go_wp2_with fail
      go_ret3
      exact ⟨rfl, HBC.out⟩
end Go.Proofs.YtebadokchhnmfaaDoor
/- The document's quotient at nought; each operation's two contracts as one. -/
namespace Go.Proofs.YtebadokchhnmfaaDoor
open Go.RowKit Go.BigM
set_option linter.unusedVariables false
set_option linter.unusedSimpArgs false
set_option maxHeartbeats 4000000 in
set_option maxRecDepth 100000 in
theorem refquo_zero (s t : ByteArray) (hs : Canon s.data.toList) (ht : Canon t.data.toList) (hy0 : dval (strip t.data.toList) = 0) (w : World) :
    Calls Tryd.prog 25 #[.string s, .string t] w (RetQ0 w) := by
  have F1 := Lib.hid (rdigits_any s hs w)
  have F2 := Lib.hid (fun w => rdigits_any t ht w)
  have hyn : dgs t.data.toList = [] := by
    have h1 := dgs_top t.data.toList
    have h2 : nval (dgs t.data.toList) = 0 := by rw [nval_dgs]; exact hy0
    rcases h1 with h | h
    · exact h
    · by_cases he : dgs t.data.toList = []
      · exact he
      · have := Top.pos (Or.inr h) he; omega
  unfold RetDg at F2
  rw [hyn] at F2
  clear hs ht hy0 hyn
  go_enter Tryd.func25, Tryd.ntmps25
  go_wp2_with fail
  refine F1.out.mono ?_
  rintro e w1 ⟨u1, rfl, hu1, hbw1⟩
  obtain ⟨ax, cx, rfl, -⟩ := hu1.ptr
  have HB1 := Lib.hid hbw1
  clear hbw1 hu1 F1
  go_wp2_with fail
  refine (F2.out _).mono ?_
  rintro e w2 ⟨u2, rfl, hu2, hbw2⟩
  obtain ⟨ay, cy, rfl, -⟩ := hu2.ptr
  have HB2 := Lib.hid (HB1.out.trans (hbw2.mono HB1.out.size))
  clear hbw2 hu2 F2 HB1
  go_wp2_with fail
  go_ret3
  exact ⟨rfl, HB2.out⟩
/-- A text and a yes or no; two of them. -/
def RetP (S : ByteArray) (b : Bool) (w : World) (e : Ending) (w' : World) : Prop := e = .returned (.tuple #[.string S, .bool b]) ∧ Below w.heap.size w w'
def RetT3 (D E : ByteArray) (b : Bool) (w : World) (e : Ending) (w' : World) : Prop := e = .returned (.tuple #[.string D, .string E, .bool b]) ∧ Below w.heap.size w w'
theorem ival_sgn (l : List UInt8) : ival l = sgn (low l) (dval (strip l)) := rfl
theorem add_two (s t : ByteArray) (hs : Canon s.data.toList) (ht : Canon t.data.toList) : ∃ S b, (∀ w, Calls Tryd.prog 18 #[.string s, .string t] w (RetP S b w)) ∧ ∀ w, Calls Tryd.prog 19 #[.string s, .string t] w (RetP S b w) :=
  ⟨_, _, fun w => add_any s t hs ht w, fun w => refadd_any s t hs ht w⟩
theorem sub_two (s t : ByteArray) (hs : Canon s.data.toList) (ht : Canon t.data.toList) : ∃ S b, (∀ w, Calls Tryd.prog 20 #[.string s, .string t] w (RetP S b w)) ∧ ∀ w, Calls Tryd.prog 21 #[.string s, .string t] w (RetP S b w) :=
  ⟨_, _, fun w => sub_any s t hs ht w, fun w => refsub_any s t hs ht w⟩
theorem mul_two (s t : ByteArray) (hs : Canon s.data.toList) (ht : Canon t.data.toList) : ∃ S b, (∀ w, Calls Tryd.prog 22 #[.string s, .string t] w (RetP S b w)) ∧ ∀ w, Calls Tryd.prog 23 #[.string s, .string t] w (RetP S b w) :=
  ⟨_, _, fun w => mul_any s t hs ht w, fun w => (refmul_any s t hs ht w).mono fun e w' h => retI_of h (by rw [ival_sgn, ival_sgn]; exact sgn_mul _ _ _ _) (Below.refl _ _)⟩
theorem cmp_two (s t : ByteArray) (hs : Canon s.data.toList) (ht : Canon t.data.toList) : ∃ c : Int, (∀ w, Calls Tryd.prog 26 #[.string s, .string t] w (RetC w c)) ∧ ∀ w, Calls Tryd.prog 27 #[.string s, .string t] w (RetC w c) :=
  ⟨_, fun w => cmp_any s t hs ht w, fun w => refcmp_t s t hs ht w⟩
theorem quo_two (s t : ByteArray) (hs : Canon s.data.toList) (ht : Canon t.data.toList) : ∃ D E b, (∀ w, Calls Tryd.prog 24 #[.string s, .string t] w (RetT3 D E b w)) ∧ ∀ w, Calls Tryd.prog 25 #[.string s, .string t] w (RetT3 D E b w) := by
  by_cases h : dval (strip t.data.toList) = 0
  · have h0 : ival t.data.toList = 0 := by rw [ival_sgn, h]; cases low t.data.toList <;> rfl
    exact ⟨_, _, _, fun w => quo_zero s t hs ht h0 w, fun w => refquo_zero s t hs ht h w⟩
  · have h0 : ival t.data.toList ≠ 0 := by
      rw [ival_sgn]
      cases low t.data.toList <;> simp [sgn] <;> omega
    refine ⟨_, _, _, fun w => quo_any s t hs ht h0 w, fun w => (refquo_any s t hs ht h w).mono ?_⟩
    rintro e w' ⟨rfl, hb⟩
    refine ⟨?_, hb⟩
    rw [txt_sgn, txt_sgn, sgn_tdiv, sgn_tmod, ← ival_sgn, ← ival_sgn]
end Go.Proofs.YtebadokchhnmfaaDoor
/- The walk of BigAll: whatever the numbers, true. -/
namespace Go.Proofs.YtebadokchhnmfaaDoor
open Go.RowKit Go.BigM
set_option linter.unusedVariables false
set_option linter.unusedSimpArgs false
def baCells (a b : ByteArray) : Array Value := #[.string a, .string b, .string b, .string a, .string a, .string a, .string a, .string ⟨#[48]⟩, .string ⟨#[48]⟩, .string b, .string a, .string ⟨#[45, 49]⟩, .string a, .string ⟨#[49, 48]⟩]
theorem ba_get (a b : ByteArray) (ha : Canon a.data.toList) (hb : Canon b.data.toList) (i : Nat) (hi : i < 7) :
    ∃ x y : ByteArray, (baCells a b)[i * 2]? = some (.string x) ∧ (baCells a b)[i * 2 + 1]? = some (.string y) ∧ Canon x.data.toList ∧ Canon y.data.toList := by
  have h0 : Canon (⟨#[48]⟩ : ByteArray).data.toList := by decide
  have h1 : Canon (⟨#[45, 49]⟩ : ByteArray).data.toList := by decide
  have h2 : Canon (⟨#[49, 48]⟩ : ByteArray).data.toList := by decide
  match i, hi with
  | 0, _ => exact ⟨_, _, rfl, rfl, ha, hb⟩
  | 1, _ => exact ⟨_, _, rfl, rfl, hb, ha⟩
  | 2, _ => exact ⟨_, _, rfl, rfl, ha, ha⟩
  | 3, _ => exact ⟨_, _, rfl, rfl, ha, h0⟩
  | 4, _ => exact ⟨_, _, rfl, rfl, h0, hb⟩
  | 5, _ => exact ⟨_, _, rfl, rfl, ha, h1⟩
  | 6, _ => exact ⟨_, _, rfl, rfl, ha, h2⟩
def BaInv (w : World) (n g : Nat) (a b : ByteArray) (iv : Value) (wr : World) : Prop :=
  ∃ i : Nat, i ≤ 7 ∧ iv = .int .i64 (i : Int) ∧ wr.heap[g]? = some (.cells (baCells a b) 30 (0, 0)) ∧ Below n w wr
set_option maxHeartbeats 8000000 in
set_option maxRecDepth 100000 in
theorem all_walk (a0 : Option Addr) (len0 cap0 : Nat) (z0 : List Int) (a1 : Option Addr) (len1 cap1 : Nat) (z1 : List Int) (l0 d0 : Bool) (w : World) (w0 : IsRow .i64 w a0 len0 cap0 z0) (w1 : IsRow .i64 w a1 len1 cap1 z1) :
    Calls Tryd.prog 4 #[.slice a0 len0 cap0, .slice a1 len1 cap1, .bool l0, .bool d0] w fun e w' => e = .returned (.bool true) ∧ Below w.heap.size w w' := by
  have R0 := Lib.hid w0
  have R1 := Lib.hid w1
  have BB := Lib.hid (Below.refl w.heap.size w)
  clear w0 w1
  go_enter Tryd.func4, Tryd.ntmps4
  go_wp2_with (go_at_call 13; refine (known_any _).mono ?_; rintro e w1 ⟨rfl, hb⟩; replace BB := Lib.hid (BB.out.trans (hb.mono BB.out.size)); clear hb)
  refine (num_any a0 len0 cap0 200 z0 l0 _ (R0.out.below BB.out) (by decide) (by decide)).mono ?_
  rintro e wa ⟨sa, rfl, ha, la, ka, hb⟩
  replace BB := Lib.hid (BB.out.trans (hb.mono BB.out.size))
  have HA := Lib.hid ha
  clear ha la ka hb
  go_wp2_with fail
  refine (num_any a1 len1 cap1 200 z1 d0 _ (R1.out.below BB.out) (by decide) (by decide)).mono ?_
  rintro e wb ⟨sb, rfl, ha, la, ka, hb⟩
  replace BB := Lib.hid (BB.out.trans (hb.mono BB.out.size))
  have HB := Lib.hid ha
  clear ha la ka hb R0 R1
  have H0 : Hid (BaInv w w.heap.size wb.heap.size sa sb (.int .i64 0) (wb.alloc (.cells (baCells sa sb) 30))) := ⟨0, by omega, rfl, heap_alloc_new wb _, BB.out.alloc BB.out.size _⟩
  unfold baCells at H0
  have hg0 : w.heap.size ≤ wb.heap.size := BB.out.size
  go_wp2_with fail
  obtain ⟨g0, hg⟩ : ∃ g0, wb.heap.size = g0 := ⟨_, rfl⟩
  rw [hg] at H0 hg0
  simp only [hg]
  generalize wb.alloc (.cells #[.string sa, .string sb, .string sb, .string sa, .string sa, .string sa, .string sa, .string ⟨#[48]⟩, .string ⟨#[48]⟩, .string sb, .string sa, .string ⟨#[45, 49]⟩, .string sa, .string ⟨#[49, 48]⟩] 30) = W0 at H0 ⊢
  clear hg
  go_loopw [12] (fun iv wr => BaInv w w.heap.size g0 sa sb iv wr) (fun iv _ => 7 - (intOf iv).toNat)
  case atStart => exact H0.out
  case round =>
    clear H0 BB
    obtain ⟨i, hi, rfl, hrow, hbel⟩ := hrel
    have HR := Lib.hid hrow
    have BB := Lib.hid hbel
    clear hbel
    by_cases hlt : i < 7
    · have q1 : decide ((i : Int) < 7) = true := decide_eq_true (by omega)
      obtain ⟨x, y, cx, cy, hx, hy⟩ := ba_get sa sb HA.out HB.out i hlt
      have hcx : wr.drew.cell? ⟨g0, i * 2, none⟩ = some (.string x) := by rw [World.cell?_drew, Lib.cell_of_heap hrow]; exact cx
      have hcy : wr.drew.cell? ⟨g0, i * 2 + 1, none⟩ = some (.string y) := by rw [World.cell?_drew, Lib.cell_of_heap hrow]; exact cy
      obtain ⟨S1, b1, A1, A2⟩ := add_two x y hx hy
      obtain ⟨S2, b2, A3, A4⟩ := sub_two x y hx hy
      obtain ⟨S3, b3, A5, A6⟩ := mul_two x y hx hy
      obtain ⟨D, E, b4, A7, A8⟩ := quo_two x y hx hy
      obtain ⟨c, A9, A10⟩ := cmp_two x y hx hy
      have F1 := Lib.hid A1
      have F2 := Lib.hid A2
      have F3 := Lib.hid A3
      have F4 := Lib.hid A4
      have F5 := Lib.hid A5
      have F6 := Lib.hid A6
      have F7 := Lib.hid A7
      have F8 := Lib.hid A8
      have F9 := Lib.hid A9
      have F10 := Lib.hid A10
      clear A1 A2 A3 A4 A5 A6 A7 A8 A9 A10 hx hy cx cy hrow
      go_upto_region 8 with fail
      go_region
      clear hcx hcy
      have HRD : Hid (wr.drew.heap[g0]? = some (.cells (baCells sa sb) 30 (0, 0))) := HR
      have BBD := Lib.hid (BB.out.drew)
      clear HR BB
      have HR := HRD
      have BB := BBD
      clear HRD BBD
      go_wp2_with fail
      refine (F1.out _).mono ?_
      rintro e w1 ⟨rfl, hb⟩
      replace BB := Lib.hid (BB.out.trans (hb.mono BB.out.size))
      replace HR := Lib.hid ((hb.block g0 (Array.getElem?_eq_some_iff.1 HR.out).1).trans HR.out)
      clear hb
      go_wp2_with fail
      refine (F2.out _).mono ?_
      rintro e w2 ⟨rfl, hb⟩
      replace BB := Lib.hid (BB.out.trans (hb.mono BB.out.size))
      replace HR := Lib.hid ((hb.block g0 (Array.getElem?_eq_some_iff.1 HR.out).1).trans HR.out)
      clear hb
      go_wp2_with fail
      refine (F3.out _).mono ?_
      rintro e w3 ⟨rfl, hb⟩
      replace BB := Lib.hid (BB.out.trans (hb.mono BB.out.size))
      replace HR := Lib.hid ((hb.block g0 (Array.getElem?_eq_some_iff.1 HR.out).1).trans HR.out)
      clear hb
      go_wp2_with fail
      refine (F4.out _).mono ?_
      rintro e w4 ⟨rfl, hb⟩
      replace BB := Lib.hid (BB.out.trans (hb.mono BB.out.size))
      replace HR := Lib.hid ((hb.block g0 (Array.getElem?_eq_some_iff.1 HR.out).1).trans HR.out)
      clear hb
      go_wp2_with fail
      refine (F5.out _).mono ?_
      rintro e w5 ⟨rfl, hb⟩
      replace BB := Lib.hid (BB.out.trans (hb.mono BB.out.size))
      replace HR := Lib.hid ((hb.block g0 (Array.getElem?_eq_some_iff.1 HR.out).1).trans HR.out)
      clear hb
      go_wp2_with fail
      refine (F6.out _).mono ?_
      rintro e w6 ⟨rfl, hb⟩
      replace BB := Lib.hid (BB.out.trans (hb.mono BB.out.size))
      replace HR := Lib.hid ((hb.block g0 (Array.getElem?_eq_some_iff.1 HR.out).1).trans HR.out)
      clear hb
      go_wp2_with fail
      refine (F7.out _).mono ?_
      rintro e w7 ⟨rfl, hb⟩
      replace BB := Lib.hid (BB.out.trans (hb.mono BB.out.size))
      replace HR := Lib.hid ((hb.block g0 (Array.getElem?_eq_some_iff.1 HR.out).1).trans HR.out)
      clear hb
      go_wp2_with fail
      refine (F8.out _).mono ?_
      rintro e w8 ⟨rfl, hb⟩
      replace BB := Lib.hid (BB.out.trans (hb.mono BB.out.size))
      replace HR := Lib.hid ((hb.block g0 (Array.getElem?_eq_some_iff.1 HR.out).1).trans HR.out)
      clear hb
      go_wp2_with (first | (go_at_call 26; refine (F9.out _).mono ?_; rintro e w9 ⟨rfl, hb⟩; replace BB := Lib.hid (BB.out.trans (hb.mono BB.out.size)); replace HR := Lib.hid ((hb.block g0 (Array.getElem?_eq_some_iff.1 HR.out).1).trans HR.out); clear hb) | (go_at_call 27; refine (F10.out _).mono ?_; rintro e w10 ⟨rfl, hb⟩; replace BB := Lib.hid (BB.out.trans (hb.mono BB.out.size)); replace HR := Lib.hid ((hb.block g0 (Array.getElem?_eq_some_iff.1 HR.out).1).trans HR.out); clear hb))
      go_roundw
      case rel => exact ⟨i + 1, by omega, by go_num, HR.out, BB.out⟩
      case measure => simp [intOf]; omega
    · obtain rfl : i = 7 := by omega
      go_wp2_with fail
      go_ret
      exact ⟨rfl, BB.out⟩
end Go.Proofs.YtebadokchhnmfaaDoor
