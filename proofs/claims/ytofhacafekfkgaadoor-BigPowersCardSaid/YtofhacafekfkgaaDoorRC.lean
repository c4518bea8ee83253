/- The document's digits of a text. -/
import Derived.Test.YtofhacafekfkgaaDoorRA
namespace Go.Proofs.YtofhacafekfkgaaDoor
open Go.RowKit Go.BigM
set_option linter.unusedVariables false
set_option linter.unusedSimpArgs false
/-- Rows of numbers, of bytes, that a call owns. -/
def OwnI (B : Nat) (w : World) (v : Value) (L : List Nat) : Prop := w.ownsRow B 3 1 v L.length (L.map fun (a : Nat) => Value.int .i64 (a : Int))
def OwnB (B : Nat) (w : World) (v : Value) (D : List UInt8) : Prop := w.ownsRow B 5 1 v D.length (D.map fun (c : UInt8) => Value.int .u8 (c.toNat : Int))
theorem OwnI.nil (B : Nat) (w : World) : OwnI B w (.slice none 0 0) [] := ⟨rfl, .inl ⟨rfl, rfl⟩⟩
theorem OwnB.nil (B : Nat) (w : World) : OwnB B w (.slice none 0 0) [] := ⟨rfl, .inl ⟨rfl, rfl⟩⟩
theorem OwnI.isL {B : Nat} {w : World} {v : Value} {L : List Nat} (h : OwnI B w v L) : IsL w v L := by
  obtain ⟨h0, h⟩ := h
  rcases h with ⟨rfl, hz⟩ | ⟨g, cap, cur, rfl, hb, hh, h1, h2, h3, h4⟩
  · have : L = [] := List.length_eq_zero_iff.1 hz
    subst this
    exact ⟨none, 0, rfl, Nat.le_refl _, Nat.zero_le _, .inl rfl⟩
  · refine ⟨_, cap, rfl, h1, h2, .inr ⟨g, rfl, fun i hi => ?_⟩⟩
    rw [cell_of_row w g i _ _ _ hh]
    have h5 : (cur.toList.take (L.length * 1))[i]? = (L.map fun (a : Nat) => Value.int .i64 (a : Int))[i]? := by rw [h4]
    rw [List.getElem?_take, if_pos (by omega), List.getElem?_map, List.getElem?_eq_getElem hi] at h5
    simpa using h5
theorem info_of {t : TypeId} {z : Value} {s b : Nat} (h : (Tryd.prog.info? t).map (fun i => (i.zero, i.size, i.bytes)) = some (some z, s, b)) : ∃ i, Tryd.prog.info? t = some i ∧ i.zero = some z ∧ i.size = s ∧ i.bytes = b := by
  cases hi : Tryd.prog.info? t with
  | none => rw [hi] at h; simp at h
  | some i => rw [hi] at h; simp at h; exact ⟨i, rfl, h.1, h.2.1, h.2.2⟩
theorem infoI3 : (Tryd.prog.info? 3).map (fun i => (i.zero, i.size, i.bytes)) = some (some (.int .i64 0), 1, 8) := by kernel_rfl
theorem infoB5 : (Tryd.prog.info? 5).map (fun i => (i.zero, i.size, i.bytes)) = some (some (.int .u8 0), 1, 1) := by kernel_rfl
theorem wp_appI1 {o : Oper} {a : Act} {w : World} {K : Act → World → Prop} {Q : Exit → Act → World → Prop} (s x : Operand)
    (ho : o.op = .call { callee := .builtin .append, args := #[s, x], argTypes := #[22, 22] }) (B : Nat) (v : Value) (L : List Nat) (hs : a.eval s = v) (hown : OwnI B w v L)
    (g0 : Nat) (hx : a.eval x = .slice (some ⟨g0, 0, none⟩) 1 1) (d : Nat) (hc : w.cell? ⟨g0, 0, none⟩ = some (.int .i64 (d : Int))) (hb : L.length ≤ 100000) (hB : B ≤ w.heap.size)
    (h : ∀ v' w', OwnI B w' v' (L ++ [d]) → w.grownBy w' v.ownBlock → K (a.put o.dst v') w') : o.wp Tryd.prog a w K Q := by
  obtain ⟨i, hi, hz, hsz, hby⟩ := info_of infoI3
  refine wp_append_own w s x 22 ho B 3 i (.int .i64 0) 1 8 Tryd.underlying22 hi hz hsz hby rfl (by decide) v L.length _ hs hown ⟨g0, 0, none⟩ 1 1 [.int .i64 (d : Int)] hx rfl (fun j u hu => ?_) (fun u hu => ?_) (by unfold maxLen; omega) (by omega) hB ?_
  · have hj : j = 0 := by
      rcases j with _ | j
      · rfl
      · simp at hu
    subst hj
    simp at hu
    subst hu
    exact hc
  · simp at hu; subst hu; rfl
  · intro v' w' h2 h3 _
    refine h v' w' ?_ h3
    unfold OwnI
    rw [List.map_append, List.length_append]; exact h2
theorem wp_appB1 {o : Oper} {a : Act} {w : World} {K : Act → World → Prop} {Q : Exit → Act → World → Prop} (s x : Operand)
    (ho : o.op = .call { callee := .builtin .append, args := #[s, x], argTypes := #[25, 25] }) (B : Nat) (v : Value) (D : List UInt8) (hs : a.eval s = v) (hown : OwnB B w v D)
    (g0 : Nat) (hx : a.eval x = .slice (some ⟨g0, 0, none⟩) 1 1) (c : UInt8) (hc : w.cell? ⟨g0, 0, none⟩ = some (.int .u8 (c.toNat : Int))) (hb : D.length ≤ 100000) (hB : B ≤ w.heap.size)
    (h : ∀ v' w', OwnB B w' v' (D ++ [c]) → w.grownBy w' v.ownBlock → K (a.put o.dst v') w') : o.wp Tryd.prog a w K Q := by
  obtain ⟨i, hi, hz, hsz, hby⟩ := info_of infoB5
  refine wp_append_own w s x 25 ho B 5 i (.int .u8 0) 1 1 Tryd.underlying25 hi hz hsz hby rfl (by decide) v D.length _ hs hown ⟨g0, 0, none⟩ 1 1 [.int .u8 (c.toNat : Int)] hx rfl (fun j u hu => ?_) (fun u hu => ?_) (by unfold maxLen; omega) (by omega) hB ?_
  · have hj : j = 0 := by
      rcases j with _ | j
      · rfl
      · simp at hu
    subst hj
    simp at hu
    subst hu
    exact hc
  · simp at hu; subst hu; rfl
  · intro v' w' h2 h3 _
    refine h v' w' ?_ h3
    unfold OwnB
    rw [List.map_append, List.length_append]; exact h2
section
variable {P : Program} {ops : Array Oper} {Q : Exit → Act → World → Prop} {a : Act} {w : World} {rest : List Oper} {o : Oper}
theorem wpList_wantedR (hw : Region.wanted o (yielded ops a.tmps) = true) (h : ∀ K : Act → World → Prop, (∀ a w, wpList P ops Q rest a w → K a w) → o.wp P a w K Q) : wpList P ops Q (o :: rest) a w :=
  wpList_step fun K hK => by rw [if_pos hw]; exact h K hK
end
/-- The digits of a text, the lowest first; without noughts on top. -/
def rdg (l : List UInt8) : List Nat := l.reverse.map fun c => c.toNat - 48
def dgs (l : List UInt8) : List Nat := (rdg (strip l)).take (usedOf (rdg (strip l)))
theorem nval_rdg (l : List UInt8) : nval (rdg l) = dval l := by
  have key : ∀ (m : List UInt8), nval (m.map fun c => c.toNat - 48) = dval m.reverse := by
    intro m
    induction m with
    | nil => rfl
    | cons c m ih => rw [List.reverse_cons, dval_snoc]; simp only [List.map_cons, nval, ih]; omega
  unfold rdg
  rw [key, List.reverse_reverse]
theorem nval_dgs (l : List UInt8) : nval (dgs l) = dval (strip l) := by unfold dgs; rw [nval_used, nval_rdg]
theorem tens_rdg {l : List UInt8} (h : ∀ c ∈ l, isD c) : Tens (rdg l) := by
  intro a ha
  unfold rdg at ha
  obtain ⟨c, hc, rfl⟩ := List.mem_map.1 ha
  have := h c (List.mem_reverse.1 hc)
  unfold isD at this
  omega
theorem dgs_len (l : List UInt8) : (dgs l).length ≤ (strip l).length := by
  unfold dgs rdg; rw [List.length_take]; simp; omega
/-- The loop of digits. -/
def DgInv (t : List UInt8) (w : World) (v iv : Value) (wr : World) : Prop :=
  ∃ k, k ≤ t.length ∧ iv = .int .i64 (k : Int) ∧ OwnI w.heap.size wr v (rdg (t.drop k)) ∧ Below w.heap.size w wr
def RetDg (l : List UInt8) (w : World) (e : Ending) (w' : World) : Prop := ∃ u, e = .returned (.tuple #[u, .bool (low l)]) ∧ IsL w' u (dgs l) ∧ Below w.heap.size w w'
theorem dg_step {t : List UInt8} {w wr w2 : World} {v v' : Value} {m : Nat} {c : UInt8} (hm : m < t.length) (hc : t[m]? = some c) (hb : Below w.heap.size w wr)
    (hown : OwnI w.heap.size wr v (rdg (t.drop (m + 1)))) (d : Nat) (hd : d = c.toNat - 48)
    (h2 : OwnI w.heap.size w2 v' (rdg (t.drop (m + 1)) ++ [d])) (hg : (wr.alloc (.cells #[.int .i64 (d : Int)] 3)).grownBy w2 v.ownBlock) : DgInv t w v' (.int .i64 (m : Int)) w2 := by
  have hs := hb.size
  refine ⟨m, by omega, rfl, ?_, ?_⟩
  · have e : t.drop m = c :: t.drop (m + 1) := by
      rw [List.drop_eq_getElem_cons hm]
      rw [List.getElem?_eq_getElem hm] at hc
      injection hc with hc
      rw [hc]
    have e2 : rdg (t.drop m) = rdg (t.drop (m + 1)) ++ [d] := by rw [e, hd]; simp [rdg]
    rw [e2]; exact h2
  · exact (hb.alloc hs _).grown hg (by simp; omega) (fun k hk => (hown.lt k hk).1)
theorem canon_strip {l : List UInt8} (h : Canon l) : ∀ c ∈ strip l, isD c := h.2.2.1
set_option maxHeartbeats 4000000 in
set_option maxRecDepth 100000 in
theorem rdigits_any (s : ByteArray) (hs : Canon s.data.toList) (w : World) : Calls Tryd.prog 33 #[.string s] w (RetDg s.data.toList w) := by
  obtain ⟨T, hT⟩ : ∃ T : ByteArray, T = if low s.data.toList then s.extract 1 s.size else s := ⟨_, rfl⟩
  have hTl : T.data.toList = strip s.data.toList := by
    rw [hT]
    split
    · rename_i h
      rw [strip_low _ h, Lib.extract_data, List.take_of_length_le, List.drop_one]
      rw [List.length_drop, ← Lib.size_eq]; omega
    · rename_i h
      rw [strip_high _ (by simpa using h)]
  have hsz : s.size ≤ 201 := by
    have h1 := hs.2.1
    have h2 : s.data.toList.length ≤ (strip s.data.toList).length + 1 := by unfold strip; split <;> simp <;> omega
    rw [Lib.size_eq]; omega
  have hTn : 1 ≤ T.size ∧ T.size ≤ 200 := by rw [Lib.size_eq, hTl]; exact ⟨hs.1, hs.2.1⟩
  have h1 : 0 < s.size := by rw [Lib.size_eq]; have := strip_le s.data.toList; have := hs.1; omega
  have hD : ∀ c ∈ T.data.toList, isD c := by rw [hTl]; exact hs.2.2.1
  have h0 : ((s[0].toNat : Int) == 45) = low s.data.toList := by
    have e : s.data.toList[0]? = some s[0] := by
      rw [List.getElem?_eq_getElem (by rw [← Lib.size_eq]; exact h1)]; simp; rfl
    unfold low
    rw [List.head?_eq_getElem?, e]
    rw [Bool.eq_iff_iff, beq_iff_eq, beq_iff_eq]
    constructor
    · intro h
      have : s[0] = 45 := UInt8.toNat_inj.1 (by have : (45 : UInt8).toNat = 45 := rfl; omega)
      rw [this]
    · intro h
      injection h with h
      rw [h]; rfl
  have HTL := Lib.hid hTl
  have HD := Lib.hid hD
  obtain ⟨b, hb⟩ : ∃ b, b = low s.data.toList := ⟨_, rfl⟩
  rw [← hb] at h0 hT
  have HBL := Lib.hid hb
  clear hTl hD hb hs
  go_enter Tryd.func33, Tryd.ntmps33
  cases b with
  | true =>
    simp only [if_true] at hT
    have hT2 := hT.symm
    clear hT
    go_wp2_with fail
    go_loopw [5, 6] (fun v iv wr => DgInv T.data.toList w v iv wr) (fun _ iv _ => (intOf iv).toNat)
    case atStart => exact ⟨T.data.toList.length, Nat.le_refl _, by rw [← Lib.size_eq], by rw [List.drop_length]; exact OwnI.nil _ _, Below.refl _ _⟩
    case round =>
      obtain ⟨k, hk, rfl, hown, hb⟩ := hrel
      rw [← Lib.size_eq] at hk
      have HO := Lib.hid hown
      have HB := Lib.hid hb
      clear hown hb
      cases k with
      | zero =>
        have hl0 := HO.out
        rw [List.drop_zero] at hl0
        have hlen : (rdg T.data.toList).length ≤ 100000 := by unfold rdg; rw [List.length_map, List.length_reverse, ← Lib.size_eq]; omega
        have FT := Lib.hid (trim_any (rdg T.data.toList) _ wr hl0.isL hlen)
        clear hl0 hlen
        go_wp2_with fail
        refine FT.out.mono ?_
        rintro e w2 ⟨⟨u, rfl, hu⟩, rfl⟩
        have HU := Lib.hid hu
        have hne : dgs s.data.toList = (rdg T.data.toList).take (usedOf (rdg T.data.toList)) := by unfold dgs; rw [← HTL.out]
        have HNE := Lib.hid hne
        clear hu hne
        go_wp2_with fail
        go_ret2
        refine ⟨u, by rw [← HBL.out]; rfl, ?_, HB.out⟩
        rw [HNE.out]; exact HU.out
      | succ m =>
        have hm : m < T.size := by omega
        obtain ⟨c, hc⟩ : ∃ c, T[m] = c := ⟨_, rfl⟩
        have hct : T.data.toList[m]? = some c := by
          rw [List.getElem?_eq_getElem (by rw [← Lib.size_eq]; exact hm)]
          rw [← hc]; simp; rfl
        have hcd : isD c := HD.out c (List.mem_of_getElem? hct)
        unfold isD at hcd
        obtain ⟨d, hd⟩ : ∃ d, d = c.toNat - 48 := ⟨_, rfl⟩
        have hdi : ((c.toNat : Int) - 48) = (d : Int) := by omega
        have hd10 : d < 10 := by omega
        have e1 : (((m + 1 : Nat) : Int) - 1) = (m : Int) := by omega
        obtain ⟨n, hmn⟩ : ∃ n, n = m + 1 := ⟨_, rfl⟩
        rw [← hmn] at e1 HO
        simp only [← hmn]
        have hn0 : decide ((0 : Int) < (n : Int)) = true := decide_eq_true (by omega)
        have hn300 : n ≤ 300 := by omega
        have HA := Lib.hid (show OwnI w.heap.size (wr.alloc (.cells #[.int .i64 (d : Int)] 3)) u5 (rdg (T.data.toList.drop n)) from World.ownsRow.alloc HO.out _)
        have hlen : (rdg (T.data.toList.drop n)).length ≤ 100000 := by unfold rdg; rw [List.length_map, List.length_reverse, List.length_drop, ← Lib.size_eq]; omega
        have HST := Lib.hid (fun v' w2 h2 hg => dg_step (w2 := w2) (v' := v') (by rw [← Lib.size_eq]; exact hm) hct HB.out (by rw [← hmn]; exact HO.out) d hd (by rw [← hmn]; exact h2) hg)
        have hcl : (wr.alloc (.cells #[.int .i64 (d : Int)] 3)).cell? ⟨wr.heap.size, 0, none⟩ = some (.int .i64 (d : Int)) := by rw [cell_of_row _ _ _ _ _ _ (heap_alloc_new wr (.cells #[.int .i64 (d : Int)] 3))]; rfl
        have hsz2 : w.heap.size ≤ (wr.alloc (.cells #[.int .i64 (d : Int)] 3)).heap.size := by have := HB.out.size; simp; omega
        clear hct hd hmn
        go_wp2_with (refine wpList_wantedR (by rfl) fun K hK => ?_; refine wp_appI1 (Operand.tmp 19) (Operand.tmp 26) rfl w.heap.size u5 _ rfl HA.out wr.heap.size rfl d hcl hlen hsz2 ?_; intro v' w9 hown9 hg9; have HM := Lib.hid (HST.out v' w9 hown9 hg9); clear hown9 hg9 HST HA; refine hK _ _ ?_; clear hK K)
        go_roundw
        case rel => exact HM.out
        case measure => simp [intOf]; omega
  | false =>
    simp only [Bool.false_eq_true, if_false] at hT
    have hT2 := hT.symm
    clear hT
    subst hT2
    go_wp2_with fail
    go_loopw [5, 6] (fun v iv wr => DgInv s.data.toList w v iv wr) (fun _ iv _ => (intOf iv).toNat)
    case atStart => exact ⟨s.data.toList.length, Nat.le_refl _, by rw [← Lib.size_eq], by rw [List.drop_length]; exact OwnI.nil _ _, Below.refl _ _⟩
    case round =>
      obtain ⟨k, hk, rfl, hown, hb⟩ := hrel
      rw [← Lib.size_eq] at hk
      have HO := Lib.hid hown
      have HB := Lib.hid hb
      clear hown hb
      cases k with
      | zero =>
        have hl0 := HO.out
        rw [List.drop_zero] at hl0
        have hlen : (rdg s.data.toList).length ≤ 100000 := by unfold rdg; rw [List.length_map, List.length_reverse, ← Lib.size_eq]; omega
        have FT := Lib.hid (trim_any (rdg s.data.toList) _ wr hl0.isL hlen)
        clear hl0 hlen
        go_wp2_with fail
        refine FT.out.mono ?_
        rintro e w2 ⟨⟨u, rfl, hu⟩, rfl⟩
        have HU := Lib.hid hu
        have hne : dgs s.data.toList = (rdg s.data.toList).take (usedOf (rdg s.data.toList)) := by unfold dgs; rw [← HTL.out]
        have HNE := Lib.hid hne
        clear hu hne
        go_wp2_with fail
        go_ret2
        refine ⟨u, by rw [← HBL.out]; rfl, ?_, HB.out⟩
        rw [HNE.out]; exact HU.out
      | succ m =>
        have hm : m < s.size := by omega
        obtain ⟨c, hc⟩ : ∃ c, s[m] = c := ⟨_, rfl⟩
        have hct : s.data.toList[m]? = some c := by
          rw [List.getElem?_eq_getElem (by rw [← Lib.size_eq]; exact hm)]
          rw [← hc]; simp; rfl
        have hcd : isD c := HD.out c (List.mem_of_getElem? hct)
        unfold isD at hcd
        obtain ⟨d, hd⟩ : ∃ d, d = c.toNat - 48 := ⟨_, rfl⟩
        have hdi : ((c.toNat : Int) - 48) = (d : Int) := by omega
        have hd10 : d < 10 := by omega
        have e1 : (((m + 1 : Nat) : Int) - 1) = (m : Int) := by omega
        obtain ⟨n, hmn⟩ : ∃ n, n = m + 1 := ⟨_, rfl⟩
        rw [← hmn] at e1 HO
        simp only [← hmn]
        have hn0 : decide ((0 : Int) < (n : Int)) = true := decide_eq_true (by omega)
        have hn300 : n ≤ 300 := by omega
        have HA := Lib.hid (show OwnI w.heap.size (wr.alloc (.cells #[.int .i64 (d : Int)] 3)) u5 (rdg (s.data.toList.drop n)) from World.ownsRow.alloc HO.out _)
        have hlen : (rdg (s.data.toList.drop n)).length ≤ 100000 := by unfold rdg; rw [List.length_map, List.length_reverse, List.length_drop, ← Lib.size_eq]; omega
        have HST := Lib.hid (fun v' w2 h2 hg => dg_step (w2 := w2) (v' := v') (by rw [← Lib.size_eq]; exact hm) hct HB.out (by rw [← hmn]; exact HO.out) d hd (by rw [← hmn]; exact h2) hg)
        have hcl : (wr.alloc (.cells #[.int .i64 (d : Int)] 3)).cell? ⟨wr.heap.size, 0, none⟩ = some (.int .i64 (d : Int)) := by rw [cell_of_row _ _ _ _ _ _ (heap_alloc_new wr (.cells #[.int .i64 (d : Int)] 3))]; rfl
        have hsz2 : w.heap.size ≤ (wr.alloc (.cells #[.int .i64 (d : Int)] 3)).heap.size := by have := HB.out.size; simp; omega
        clear hct hd hmn
        go_wp2_with (refine wpList_wantedR (by rfl) fun K hK => ?_; refine wp_appI1 (Operand.tmp 19) (Operand.tmp 26) rfl w.heap.size u5 _ rfl HA.out wr.heap.size rfl d hcl hlen hsz2 ?_; intro v' w9 hown9 hg9; have HM := Lib.hid (HST.out v' w9 hown9 hg9); clear hown9 hg9 HST HA; refine hK _ _ ?_; clear hK K)
        go_roundw
        case rel => exact HM.out
        case measure => simp [intOf]; omega
end Go.Proofs.YtofhacafekfkgaaDoor
