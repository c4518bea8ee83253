/- Rules: has a template's part a variable of that depth, or more? -/
import Derived.Test.YthhaegncnoekbaaYAO
set_option linter.unusedVariables false
set_option linter.unusedSimpArgs false
namespace Go.Proofs.Ythhaegncnoekbaa
open Go.RowKit
mutual
def Dt.hasv (ns : List (Dt × Int)) : Dt → Int → Bool
  | .mk k t ms l p, n => decide (n ≤ fnd ns (.mk k t ms l p)) || hasvs ns l n
def hasvs (ns : List (Dt × Int)) : List Dt → Int → Bool
  | [], _ => false
  | d :: r, n => d.hasv ns n || hasvs ns r n
end
theorem hasv_mk (ns : List (Dt × Int)) (k : Int) (t : ByteArray) (ms : List Int) (l : List Dt) (p : Int) (n : Int) : (Dt.mk k t ms l p).hasv ns n = (decide (n ≤ fnd ns (.mk k t ms l p)) || hasvs ns l n) := by rw [Dt.hasv]
theorem hasvs_cons (ns : List (Dt × Int)) (d : Dt) (r : List Dt) (n : Int) : hasvs ns (d :: r) n = (d.hasv ns n || hasvs ns r n) := by rw [hasvs]
def HsInv (ns : List (Dt × Int)) (l : List Dt) (n : Int) (w : World) (iv : Value) (wr : World) : Prop := ∃ j : Nat, j ≤ l.length ∧ iv = .int .i64 (j : Int) ∧ hasvs ns l n = hasvs ns (l.drop j) n ∧ Below w.heap.size w wr
set_option maxHeartbeats 8000000 in
set_option maxRecDepth 100000 in
theorem has_any (n : Nat) : n ≤ 1000000 → ∀ (d : Dt), d.size ≤ n → ∀ (B : Nat) (cs : Array Value) (ns : List (Dt × Int)) (v : Value) (dp : Int) (w : World), B ≤ w.heap.size → Dt.At (fun g => g < B) w d cs → NsAt B w v ns → ns.length ≤ 10000000 → (∀ x ∈ ns, x.1.size ≤ 1000000000) → Calls Try.prog 76 #[v, .agg cs, .int .i64 dp] w (RetBool (d.hasv ns dp) w) := by
  induction n with
  | zero => intro _ d hd; cases d; simp [Dt.size] at hd
  | succ n ih0 =>
    intro hn d hd B cs ns v dp w hBw hat hv hnl hns
    have IH := Lib.hid (ih0 (by omega))
    have FF := Lib.hid (fun W (h1 : Below w.heap.size w W) => find_any B ns v d cs W (by have := h1.size; omega) (hv.below h1 hBw) hnl hns (Dt.At.keeps (keeps_low (h1.mono hBw)) _ _ hat))
    obtain ⟨k, t, ms, l, p⟩ := d
    have HP := Lib.hid (hasv_mk ns k t ms l p dp)
    obtain ⟨fv, hfv⟩ : ∃ b, b = fnd ns (Dt.mk k t ms l p) := ⟨_, rfl⟩
    rw [← hfv] at FF HP
    rw [At_mk] at hat
    obtain ⟨mv, lv, rfl, hm, hl⟩ := hat
    have hsz : Dt.sizes l ≤ n := by simp only [Dt.size] at hd; omega
    have hll := length_sizes l
    have o1 := hm.one
    have o2 := hl.one
    have HB := Lib.hid ((Below.refl w.heap.size w).alloc (Nat.le_refl _) (.cells #[.int .i64 k, .string t, mv, lv, .int .i64 p] 29))
    have L1 := Lib.hid (hl.keeps (Keeps.of_below HB.out))
    have HV := Lib.hid (hv.below HB.out hBw)
    have HNS := Lib.hid hns
    obtain ⟨ao, cap, rfl⟩ := hl.form
    obtain ⟨vo, vc, rfl⟩ := hv.form
    have hx := alloc_at w (.cells #[.int .i64 k, .string t, mv, .slice ao l.length cap, .int .i64 p] 29)
    have hxs : (w.alloc (.cells #[.int .i64 k, .string t, mv, .slice ao l.length cap, .int .i64 p] 29)).heap.size = w.heap.size + 1 := by simp
    have HXS := Lib.hid hxs
    have FF1 := Lib.hid (FF.out _ HB.out)
    clear hm hl hv hd hfv ih0 hxs hns FF
    go_enter Try.func76, Try.ntmps76
    go_wp2_with (refine wpList_load_row rfl 29 _ rfl w.heap.size rfl 29 #[.int .i64 k, .string t, mv, .slice ao l.length cap, .int .i64 p] (0, 0) _ hx Try.underlying29 rfl info40 ?_)
    refine FF1.out.mono ?_
    rintro e w1 ⟨rfl, hb1⟩
    have HB1 := Lib.hid (HB.out.trans (hb1.mono HB.out.size))
    have L2 := Lib.hid (L1.out.keeps (Keeps.of_below hb1))
    have HV1 := Lib.hid (HV.out.below hb1 (by rw [HXS.out]; omega))
    have c3 : w1.cell? ⟨w.heap.size, 3, none⟩ = some (.slice ao l.length cap) := by
      rw [hb1.cell (p := ⟨w.heap.size, 3, none⟩) (by rw [HXS.out]; show w.heap.size < _; omega), Lib.cell_of_heap hx]; rfl
    have hw1 : w.heap.size < w1.heap.size := by have := hb1.size; rw [HXS.out] at this; omega
    clear hb1 hx L1 HV HB HXS FF1
    by_cases hge : dp ≤ fv
    · have q0 : decide (dp ≤ fv) = true := decide_eq_true hge
      have HE : Hid ((Dt.mk k t ms l p).hasv ns dp = true) := by show _ = _; rw [HP.out, q0]; rfl
      clear hge
      go_wp2_with fail
      go_ret
      exact ⟨by rw [HE.out]; rfl, HB1.out⟩
    · have q0 : decide (dp ≤ fv) = false := decide_eq_false hge
      have HE0 : Hid ((Dt.mk k t ms l p).hasv ns dp = hasvs ns l dp) := by show _ = _; rw [HP.out, q0]; rfl
      have HC3 := Lib.hid c3
      clear c3 hge
      go_wp2_with fail
      clear q0
      go_loopw [7] (fun iv wr => HsInv ns l dp w1 iv wr) (fun iv _ => l.length - (intOf iv).toNat)
      case atStart => exact ⟨0, Nat.zero_le _, rfl, rfl, Below.refl _ _⟩
      case round =>
        obtain ⟨j, hj, rfl, hpe, hbw⟩ := hrel
        have HBw := Lib.hid hbw
        have HPE := Lib.hid hpe
        have c3 := (hbw.cell (p := ⟨w.heap.size, 3, none⟩) hw1).trans HC3.out
        have hsw := hbw.size
        have HV2 := Lib.hid (HV1.out.below hbw (by omega))
        clear hbw hpe
        by_cases hlt : j < l.length
        · have q1 : decide ((j : Int) < (l.length : Int)) = true := decide_eq_true (by omega)
          obtain ⟨g, o, k5, t5, mv5, lv5, p5, rfl, hS, -, hat, e0, e1, e2, e3, e4, o5, o6⟩ := (L2.out.keeps (Keeps.of_below HBw.out)).get j hlt
          have hsj := size_get l j hlt
          have hdr : l.drop j = l[j] :: l.drop (j + 1) := List.drop_eq_getElem_cons hlt
          have FP := Lib.hid (IH.out l[j] (by omega) B _ ns _ dp wr (by omega) hat HV2.out hnl HNS.out)
          have HPC : Hid (hasvs ns l dp = (l[j].hasv ns dp || hasvs ns (l.drop (j + 1)) dp)) := by show _ = _; rw [HPE.out, hdr, hasvs_cons]
          clear hdr hat hS
          go_wp2_with fail
          refine FP.out.mono ?_
          rintro e w3 ⟨rfl, hb3⟩
          have HBw3 := Lib.hid (HBw.out.trans (hb3.mono HBw.out.size))
          clear hb3
          cases hpp : l[j].hasv ns dp with
          | false =>
            have HE : Hid (hasvs ns l dp = hasvs ns (l.drop (j + 1)) dp) := by show _ = _; rw [HPC.out, hpp]; rfl
            clear hpp
            go_wp2_with fail
            go_roundw
            case rel => exact ⟨j + 1, by omega, by go_num, HE.out, HBw3.out⟩
            case measure => simp [intOf]; omega
          | true =>
            have HE : Hid (hasvs ns l dp = true) := by show _ = _; rw [HPC.out, hpp]; rfl
            clear hpp
            go_wp2_with fail
            go_ret
            exact ⟨by rw [HE0.out, HE.out]; rfl, HB1.out.trans (HBw3.out.mono HB1.out.size)⟩
        · obtain rfl : j = l.length := by omega
          have q1 : decide ((l.length : Int) < (l.length : Int)) = false := decide_eq_false (by omega)
          have HE : Hid (hasvs ns l dp = false) := by show _ = _; rw [HPE.out, List.drop_length]; rfl
          go_wp2_with fail
          go_ret
          exact ⟨by rw [HE0.out, HE.out]; rfl, HB1.out.trans (HBw.out.mono HB1.out.size)⟩
end Go.Proofs.Ythhaegncnoekbaa
namespace Go.Proofs.Ythhaegncnoekbaa
open Go.RowKit
mutual
def Dt.tmpl (ns : List (Dt × Int)) : Dt → Int → Bool
  | .mk k t ms l p, n => !(Dt.mk k t ms l p).dots && (!(decide (0 < fnd ns (.mk k t ms l p)) && (fnd ns (.mk k t ms l p) != n)) && tmpls ns l n true false)
def tmpls (ns : List (Dt × Int)) : List Dt → Int → Bool → Bool → Bool
  | [], _, _, _ => true
  | d :: r, n, first, pd => if d.dots = true then (if first = true ∨ pd = true then false else tmpls ns r n false true) else ((!nxtDots r || d.hasv ns (n + 1)) && (d.tmpl ns (if nxtDots r = true then n + 1 else n) && tmpls ns r n false false))
end
theorem tmpl_mk (ns : List (Dt × Int)) (k : Int) (t : ByteArray) (ms : List Int) (l : List Dt) (p : Int) (n : Int) : (Dt.mk k t ms l p).tmpl ns n = (!(Dt.mk k t ms l p).dots && (!(decide (0 < fnd ns (.mk k t ms l p)) && (fnd ns (.mk k t ms l p) != n)) && tmpls ns l n true false)) := by rw [Dt.tmpl]
theorem tmpls_cons (ns : List (Dt × Int)) (d : Dt) (r : List Dt) (n : Int) (first pd : Bool) : tmpls ns (d :: r) n first pd = if d.dots = true then (if first = true ∨ pd = true then false else tmpls ns r n false true) else ((!nxtDots r || d.hasv ns (n + 1)) && (d.tmpl ns (if nxtDots r = true then n + 1 else n) && tmpls ns r n false false)) := by rw [tmpls]
/-- Is the part ahead dots? -/
def pdot (l : List Dt) : Nat → Bool
  | 0 => false
  | k + 1 => match l[k]? with | some d => d.dots | none => false
def TpInv (ns : List (Dt × Int)) (l : List Dt) (n : Int) (w : World) (iv : Value) (wr : World) : Prop := ∃ j : Nat, j ≤ l.length ∧ iv = .int .i64 (j : Int) ∧ tmpls ns l n true false = tmpls ns (l.drop j) n (j == 0) (pdot l j) ∧ Below w.heap.size w wr
theorem LAt.addr {S : Nat → Prop} {w : World} {ao : Option Addr} {n cap : Nat} {l : List Dt} (h : LAt S w (.slice ao n cap) l) (j : Nat) (hj : j < l.length) : ∃ g o, ao = some ⟨g, o, none⟩ := by
  obtain ⟨g', o', k, t, mv, lv, p, e, _⟩ := h.get j hj
  exact ⟨g', o', e⟩
/-- A part of a list, its cells, in all later worlds. -/
theorem part_cells {S : Nat → Prop} {w : World} {ao : Option Addr} {n cap : Nat} {l : List Dt} (h : LAt S w (.slice ao n cap) l) {g o : Nat} (he : ao = some ⟨g, o, none⟩) (j : Nat) (hj : j < l.length) :
    ∃ k t mv lv p, Dt.At S w l[j] #[.int .i64 k, .string t, mv, lv, .int .i64 p] ∧ mv.oneCell' = true ∧ lv.oneCell' = true ∧ ∀ W, Below w.heap.size w W → W.cell? ⟨g, o + j * 5, none⟩ = some (.int .i64 k) ∧ W.cell? ⟨g, o + j * 5 + 1, none⟩ = some (.string t) ∧ W.cell? ⟨g, o + j * 5 + 2, none⟩ = some mv ∧ W.cell? ⟨g, o + j * 5 + 3, none⟩ = some lv ∧ W.cell? ⟨g, o + j * 5 + 4, none⟩ = some (.int .i64 p) := by
  obtain ⟨g', o', k, t, mv, lv, p, e, _, _, hat, e0, e1, e2, e3, e4, o1, o2⟩ := h.get j hj
  rw [he] at e
  simp only [Option.some.injEq, Addr.mk.injEq, and_true] at e
  obtain ⟨rfl, rfl⟩ := e
  have hg : g < w.heap.size := World.block_lt_of_cell? w _ e0
  exact ⟨k, t, mv, lv, p, hat, o1, o2, fun W hb => ⟨(hb.cell hg).trans e0, (hb.cell hg).trans e1, (hb.cell hg).trans e2, (hb.cell hg).trans e3, (hb.cell hg).trans e4⟩⟩
set_option maxHeartbeats 16000000 in
set_option maxRecDepth 100000 in
theorem tmpl_any (n : Nat) : n ≤ 1000000 → ∀ (d : Dt), d.size ≤ n → ∀ (B : Nat) (cs : Array Value) (ns : List (Dt × Int)) (v : Value) (dp : Int) (w : World), B ≤ w.heap.size → Dt.At (fun g => g < B) w d cs → NsAt B w v ns → ns.length ≤ 10000000 → (∀ x ∈ ns, x.1.size ≤ 1000000000) → 0 ≤ dp → dp + n ≤ 3000000 → Calls Try.prog 51 #[v, .agg cs, .int .i64 dp] w (RetBool (d.tmpl ns dp) w) := by
  induction n with
  | zero => intro _ d hd; cases d; simp [Dt.size] at hd
  | succ n ih0 =>
    intro hn d hd B cs ns v dp w hBw hat hv hnl hns hdp hdn
    have IH := Lib.hid (ih0 (by omega))
    have FD := Lib.hid (fun W => refdots_any hat W)
    have FF := Lib.hid (fun W (h1 : Below w.heap.size w W) => find_any B ns v d cs W (by have := h1.size; omega) (hv.below h1 hBw) hnl hns (Dt.At.keeps (keeps_low (h1.mono hBw)) _ _ hat))
    obtain ⟨k, t, ms, l, p⟩ := d
    have HP := Lib.hid (tmpl_mk ns k t ms l p dp)
    obtain ⟨fv, hfv⟩ : ∃ b, b = fnd ns (Dt.mk k t ms l p) := ⟨_, rfl⟩
    obtain ⟨bd, hbd⟩ : ∃ b, b = (Dt.mk k t ms l p).dots := ⟨_, rfl⟩
    rw [← hfv] at FF HP
    rw [← hbd] at FD HP
    rw [At_mk] at hat
    obtain ⟨mv, lv, rfl, hm, hl⟩ := hat
    have hsz : Dt.sizes l ≤ n := by simp only [Dt.size] at hd; omega
    have hll := length_sizes l
    have o1 := hm.one
    have o2 := hl.one
    have HB := Lib.hid ((Below.refl w.heap.size w).alloc (Nat.le_refl _) (.cells #[.int .i64 k, .string t, mv, lv, .int .i64 p] 29))
    have L1 := Lib.hid (hl.keeps (Keeps.of_below HB.out))
    have HV := Lib.hid (hv.below HB.out hBw)
    have HNS := Lib.hid hns
    obtain ⟨ao, cap, rfl⟩ := hl.form
    obtain ⟨vo, vc, rfl⟩ := hv.form
    have hx := alloc_at w (.cells #[.int .i64 k, .string t, mv, .slice ao l.length cap, .int .i64 p] 29)
    have hxs : (w.alloc (.cells #[.int .i64 k, .string t, mv, .slice ao l.length cap, .int .i64 p] 29)).heap.size = w.heap.size + 1 := by simp
    have HXS := Lib.hid hxs
    obtain ⟨X, hX⟩ : ∃ X, X = w.alloc (.cells #[.int .i64 k, .string t, mv, .slice ao l.length cap, .int .i64 p] 29) := ⟨_, rfl⟩
    rw [← hX] at HB L1 HV hx HXS
    have HXE := Lib.hid hX
    clear hm hl hv hd hfv hbd ih0 hxs hns hX
    go_enter Try.func51, Try.ntmps51
    go_upto_region 1 with fail
    rw [← HXE.out]
    go_wp2_with (refine wpList_load_row rfl 29 _ rfl w.heap.size rfl 29 #[.int .i64 k, .string t, mv, .slice ao l.length cap, .int .i64 p] (0, 0) _ hx Try.underlying29 rfl info40 ?_)
    refine (FD.out _).mono ?_
    rintro e w0 ⟨rfl, hb0⟩
    have HB0 := Lib.hid (HB.out.trans (hb0.mono HB.out.size))
    have hx0 : w0.heap[w.heap.size]? = some (.cells #[.int .i64 k, .string t, mv, .slice ao l.length cap, .int .i64 p] 29 (0, 0)) := by rw [hb0.block _ (by rw [HXS.out]; omega)]; exact hx
    have L2 := Lib.hid (L1.out.keeps (Keeps.of_below hb0))
    have HV1 := Lib.hid (HV.out.below hb0 (by rw [HXS.out]; omega))
    have hw0 : w.heap.size < w0.heap.size := by have := hb0.size; rw [HXS.out] at this; omega
    clear hb0 hx L1 HV HB HXS HXE
    cases bd with
    | true =>
      have HE : Hid ((Dt.mk k t ms l p).tmpl ns dp = false) := by show _ = _; rw [HP.out]; rfl
      go_wp2_with fail
      go_ret
      exact ⟨by rw [HE.out]; rfl, HB0.out⟩
    | false =>
      have FF0 := Lib.hid (FF.out _ HB0.out)
      go_wp2_with (refine wpList_load_row rfl 29 _ rfl w.heap.size rfl 29 #[.int .i64 k, .string t, mv, .slice ao l.length cap, .int .i64 p] (0, 0) _ hx0 Try.underlying29 rfl info40 ?_)
      refine FF0.out.mono ?_
      rintro e w1 ⟨rfl, hb1⟩
      have HB1 := Lib.hid (HB0.out.trans (hb1.mono HB0.out.size))
      have L3 := Lib.hid (L2.out.keeps (Keeps.of_below hb1))
      have HV2 := Lib.hid (HV1.out.below hb1 (by omega))
      have c3 : w1.cell? ⟨w.heap.size, 3, none⟩ = some (.slice ao l.length cap) := by
        rw [hb1.cell (p := ⟨w.heap.size, 3, none⟩) hw0, Lib.cell_of_heap hx0]; rfl
      have hw1 : w.heap.size < w1.heap.size := by have := hb1.size; omega
      clear hb1 hx0 L2 HV1 FF FF0 FD
      by_cases hbad : 0 < fv ∧ fv ≠ dp
      · have q0 : decide (0 < fv) = true := decide_eq_true hbad.1
        have q1 : (fv != dp) = true := by simpa [bne] using hbad.2
        have HE : Hid ((Dt.mk k t ms l p).tmpl ns dp = false) := by show _ = _; rw [HP.out, q0, q1]; rfl
        clear hbad
        go_wp2_with fail
        go_ret
        exact ⟨by rw [HE.out]; rfl, HB1.out⟩
      · have HE0 : Hid ((Dt.mk k t ms l p).tmpl ns dp = tmpls ns l dp true false) := by
          show _ = _
          rw [HP.out]
          have : (decide (0 < fv) && (fv != dp)) = false := by
            rw [Bool.eq_false_iff]
            intro h
            simp [bne] at h
            exact hbad h
          rw [this]; rfl
        have HC3 := Lib.hid c3
        have e1 : IntKind.i64.wrap (dp + 1) = dp + 1 := by rw [IntKind.wrap_i64]; omega
        clear c3
        by_cases h0f : 0 < fv
        · have q0 : decide (0 < fv) = true := decide_eq_true h0f
          have q1 : (fv != dp) = false := by
            have : fv = dp := by
              refine Classical.byContradiction fun h => hbad ⟨h0f, h⟩
            simp [this]
          clear hbad h0f
          go_wp2_with fail
          clear q0 q1
          go_loopw [8] (fun iv wr => TpInv ns l dp w1 iv wr) (fun iv _ => l.length - (intOf iv).toNat)
          case atStart => exact ⟨0, Nat.zero_le _, rfl, rfl, Below.refl _ _⟩
          case round =>
            obtain ⟨j, hj, rfl, hpe, hbw⟩ := hrel
            have HBw := Lib.hid hbw
            have HPE := Lib.hid hpe
            have hsw := hbw.size
            have HV3 := Lib.hid (HV2.out.below hbw (by omega))
            have HLw := Lib.hid (L3.out.keeps (Keeps.of_below hbw))
            have HCW : Hid (∀ W, Below wr.heap.size wr W → W.cell? ⟨w.heap.size, 3, none⟩ = some (.slice ao l.length cap)) := fun W hW => by
              rw [hW.cell (p := ⟨w.heap.size, 3, none⟩) (by show w.heap.size < _; omega)]
              exact (HBw.out.cell (p := ⟨w.heap.size, 3, none⟩) hw1).trans HC3.out
            have HBr0 := Lib.hid (Below.refl wr.heap.size wr)
            clear hbw hpe
            by_cases hlt : j < l.length
            · have q1 : decide ((j : Int) < (l.length : Int)) = true := decide_eq_true (by omega)
              obtain ⟨g, o, rfl⟩ := HLw.out.addr j hlt
              obtain ⟨k5, t5, mv5, lv5, p5, hat, o5, o6, hJ⟩ := part_cells HLw.out rfl j hlt
              have HJ := Lib.hid hJ
              have hsj := size_get l j hlt
              have hdr : l.drop j = l[j] :: l.drop (j + 1) := List.drop_eq_getElem_cons hlt
              have FE := Lib.hid (fun W => refdots_any hat W)
              have FT : Hid (∀ m W, Below wr.heap.size wr W → 0 ≤ m → m + (n : Int) ≤ 3000000 → Calls Try.prog 51 #[.slice vo ns.length vc, .agg #[.int .i64 k5, .string t5, mv5, lv5, .int .i64 p5], .int .i64 m] W (RetBool (l[j].tmpl ns m) W)) := fun m W hW h1 h2 =>
                IH.out l[j] (by omega) B _ ns _ m W (by have := hW.size; omega) (Dt.At.keeps (keeps_low (hW.mono (by omega))) _ _ hat) (HV3.out.below hW (by omega)) hnl HNS.out h1 h2
              have FH : Hid (∀ W, Below wr.heap.size wr W → Calls Try.prog 76 #[.slice vo ns.length vc, .agg #[.int .i64 k5, .string t5, mv5, lv5, .int .i64 p5], .int .i64 (dp + 1)] W (RetBool (l[j].hasv ns (dp + 1)) W)) := fun W hW =>
                has_any 1000000 (by decide) l[j] (by omega) B _ ns _ (dp + 1) W (by have := hW.size; omega) (Dt.At.keeps (keeps_low (hW.mono (by omega))) _ _ hat) (HV3.out.below hW (by omega)) hnl HNS.out
              obtain ⟨be, hbe⟩ : ∃ b, b = l[j].dots := ⟨_, rfl⟩
              rw [← hbe] at FE
              have HPJ : Hid (tmpls ns l dp true false = if be = true then (if (j == 0) = true ∨ pdot l j = true then false else tmpls ns (l.drop (j + 1)) dp false true) else ((!nxtDots (l.drop (j + 1)) || l[j].hasv ns (dp + 1)) && (l[j].tmpl ns (if nxtDots (l.drop (j + 1)) = true then dp + 1 else dp) && tmpls ns (l.drop (j + 1)) dp false false))) := by
                show _ = _; rw [HPE.out, hdr, tmpls_cons, ← hbe]
              have hpn : pdot l (j + 1) = be := by rw [hbe]; show (match l[j]? with | some d => d.dots | none => false) = _; rw [List.getElem?_eq_getElem hlt]
              clear hdr hat hJ hbe
              obtain ⟨e0, e1', e2, e3, e4⟩ := HJ.out wr HBr0.out
              have c3 := HCW.out wr HBr0.out
              go_wp2_with fail
              refine (FE.out wr).mono ?_
              rintro e w2 ⟨rfl, hb2⟩
              have HBr2 := Lib.hid (HBr0.out.trans (hb2.mono HBr0.out.size))
              have HBw2 := Lib.hid (HBw.out.trans (HBr2.out.mono HBw.out.size))
              clear hb2 e0 e1' e2 e3 e4 c3 q1
              cases be with
              | true =>
                by_cases hz : j = 0
                · subst hz
                  have HE : Hid (tmpls ns l dp true false = false) := by show _ = _; rw [HPJ.out, if_pos rfl, if_pos (.inl rfl)]
                  go_wp2_with fail
                  go_ret
                  exact ⟨by rw [HE0.out, HE.out]; rfl, HB1.out.trans (HBw2.out.mono HB1.out.size)⟩
                · obtain ⟨jm, rfl⟩ : ∃ jm, j = jm + 1 := ⟨j - 1, by omega⟩
                  have hjl : jm < l.length := by omega
                  obtain ⟨k7, t7, mv7, lv7, p7, hat7, o9, o10, hJ7⟩ := part_cells HLw.out rfl jm hjl
                  have FE7 := Lib.hid (fun W => refdots_any hat7 W)
                  obtain ⟨d0, d1, d2, d3, d4⟩ := hJ7 w2 HBr2.out
                  have c3 := HCW.out w2 HBr2.out
                  obtain ⟨bp, hbp⟩ : ∃ b, b = l[jm].dots := ⟨_, rfl⟩
                  rw [← hbp] at FE7
                  have hpd : pdot l (jm + 1) = bp := by rw [hbp]; show (match l[jm]? with | some d => d.dots | none => false) = _; rw [List.getElem?_eq_getElem hjl]
                  have HPD := Lib.hid hpd
                  have HPN := Lib.hid hpn
                  have ew : IntKind.i64.wrap (jm : Int) = (jm : Int) := by rw [IntKind.wrap_i64]; omega
                  have z1 : (((jm : Int) + 1) == 0) = false := by rw [beq_eq_false_iff_ne]; omega
                  clear hbp hat7 hJ7 hpd hpn hz
                  go_wp2_with fail
                  refine (FE7.out w2).mono ?_
                  rintro e w3 ⟨rfl, hb3⟩
                  have HBr3 := Lib.hid (HBr2.out.trans (hb3.mono HBr2.out.size))
                  have HBw3 := Lib.hid (HBw.out.trans (HBr3.out.mono HBw.out.size))
                  clear hb3 d0 d1 d2 d3 d4 c3 ew z1
                  cases bp with
                  | true =>
                    have HE : Hid (tmpls ns l dp true false = false) := by show _ = _; rw [HPJ.out]; simp [HPD.out]
                    go_wp2_with fail
                    go_ret
                    exact ⟨by rw [HE0.out, HE.out]; rfl, HB1.out.trans (HBw3.out.mono HB1.out.size)⟩
                  | false =>
                    have HE : Hid (tmpls ns l dp true false = tmpls ns (l.drop (jm + 1 + 1)) dp ((jm + 1 + 1) == 0) (pdot l (jm + 1 + 1))) := by show _ = _; rw [HPJ.out]; simp [HPD.out, HPN.out]
                    go_wp2_with fail
                    go_roundw
                    case rel => exact ⟨jm + 1 + 1, by omega, by go_num, HE.out, HBw3.out⟩
                    case measure => simp [intOf]; omega
              | false =>
                by_cases hnx : j + 1 < l.length
                · have q2 : decide ((j : Int) + 1 < (l.length : Int)) = true := decide_eq_true (by omega)
                  obtain ⟨k7, t7, mv7, lv7, p7, hat7, o9, o10, hJ7⟩ := part_cells HLw.out rfl (j + 1) hnx
                  have FE7 := Lib.hid (fun W => refdots_any hat7 W)
                  obtain ⟨d0, d1, d2, d3, d4⟩ := hJ7 w2 HBr2.out
                  have c3 := HCW.out w2 HBr2.out
                  obtain ⟨bx, hbx⟩ : ∃ b, b = l[j + 1].dots := ⟨_, rfl⟩
                  rw [← hbx] at FE7
                  have hnd : nxtDots (l.drop (j + 1)) = bx := by rw [List.drop_eq_getElem_cons hnx, hbx]; rfl
                  clear hbx hat7 hJ7
                  go_wp2_with fail
                  refine (FE7.out w2).mono ?_
                  rintro e w3 ⟨rfl, hb3⟩
                  have HBr3 := Lib.hid (HBr2.out.trans (hb3.mono HBr2.out.size))
                  have HBw3 := Lib.hid (HBw.out.trans (HBr3.out.mono HBw.out.size))
                  clear hb3 d0 d1 d2 d3 d4 c3 q2
                  cases bx with
                  | true =>
                    obtain ⟨e0, e1', e2, e3, e4⟩ := HJ.out w3 HBr3.out
                    have c3 := HCW.out w3 HBr3.out
                    go_wp2_with fail
                    refine (FH.out w3 HBr3.out).mono ?_
                    rintro e w4 ⟨rfl, hb4⟩
                    have HBr4 := Lib.hid (HBr3.out.trans (hb4.mono HBr3.out.size))
                    have HBw4 := Lib.hid (HBw.out.trans (HBr4.out.mono HBw.out.size))
                    clear hb4 e0 e1' e2 e3 e4 c3
                    cases hhv : l[j].hasv ns (dp + 1) with
                    | false =>
                      have HHV := Lib.hid hhv
                      clear hhv
                      have HE : Hid (tmpls ns l dp true false = false) := by show _ = _; rw [HPJ.out, if_neg (by decide), hnd, HHV.out]; simp
                      go_wp2_with fail
                      go_ret
                      exact ⟨by rw [HE0.out, HE.out]; rfl, HB1.out.trans (HBw4.out.mono HB1.out.size)⟩
                    | true =>
                      have HHV := Lib.hid hhv
                      clear hhv
                      obtain ⟨e0, e1', e2, e3, e4⟩ := HJ.out w4 HBr4.out
                      have c3 := HCW.out w4 HBr4.out
                      go_wp2_with fail
                      refine (FT.out (dp + 1) w4 HBr4.out (by omega) (by push_cast at hdn ⊢; omega)).mono ?_
                      rintro e w9 ⟨rfl, hb9⟩
                      have HBr9 := Lib.hid (HBr4.out.trans (hb9.mono HBr4.out.size))
                      have HBw9 := Lib.hid (HBw.out.trans (HBr9.out.mono HBw.out.size))
                      clear hb9 e0 e1' e2 e3 e4 c3
                      cases hpp : l[j].tmpl ns (dp + 1) with
                      | true =>
                        have HPP := Lib.hid hpp
                        clear hpp
                        have HE : Hid (tmpls ns l dp true false = tmpls ns (l.drop (j + 1)) dp ((j + 1) == 0) (pdot l (j + 1))) := by show _ = _; rw [HPJ.out]; rw [if_neg (by decide), hnd, HHV.out, if_pos rfl, HPP.out, hpn]; simp
                        go_wp2_with fail
                        go_roundw
                        case rel => exact ⟨j + 1, by omega, by go_num, HE.out, HBw9.out⟩
                        case measure => simp [intOf]; omega
                      | false =>
                        have HPP := Lib.hid hpp
                        clear hpp
                        have HE : Hid (tmpls ns l dp true false = false) := by show _ = _; rw [HPJ.out, if_neg (by decide), hnd, HHV.out, if_pos rfl, HPP.out]; simp
                        go_wp2_with fail
                        go_ret
                        exact ⟨by rw [HE0.out, HE.out]; rfl, HB1.out.trans (HBw9.out.mono HB1.out.size)⟩
                  | false =>
                    obtain ⟨e0, e1', e2, e3, e4⟩ := HJ.out w3 HBr3.out
                    have c3 := HCW.out w3 HBr3.out
                    go_wp2_with fail
                    refine (FT.out (dp) w3 HBr3.out (by omega) (by push_cast at hdn ⊢; omega)).mono ?_
                    rintro e w9 ⟨rfl, hb9⟩
                    have HBr9 := Lib.hid (HBr3.out.trans (hb9.mono HBr3.out.size))
                    have HBw9 := Lib.hid (HBw.out.trans (HBr9.out.mono HBw.out.size))
                    clear hb9 e0 e1' e2 e3 e4 c3
                    cases hpp : l[j].tmpl ns (dp) with
                    | true =>
                      have HPP := Lib.hid hpp
                      clear hpp
                      have HE : Hid (tmpls ns l dp true false = tmpls ns (l.drop (j + 1)) dp ((j + 1) == 0) (pdot l (j + 1))) := by show _ = _; rw [HPJ.out]; rw [if_neg (by decide), hnd, if_neg (by decide), HPP.out, hpn]; simp
                      go_wp2_with fail
                      go_roundw
                      case rel => exact ⟨j + 1, by omega, by go_num, HE.out, HBw9.out⟩
                      case measure => simp [intOf]; omega
                    | false =>
                      have HPP := Lib.hid hpp
                      clear hpp
                      have HE : Hid (tmpls ns l dp true false = false) := by show _ = _; rw [HPJ.out, if_neg (by decide), hnd, if_neg (by decide), HPP.out]; simp
                      go_wp2_with fail
                      go_ret
                      exact ⟨by rw [HE0.out, HE.out]; rfl, HB1.out.trans (HBw9.out.mono HB1.out.size)⟩
                · have q2 : decide ((j : Int) + 1 < (l.length : Int)) = false := decide_eq_false (by omega)
                  have hnd : nxtDots (l.drop (j + 1)) = false := by rw [List.drop_eq_nil_of_le (by omega)]; rfl
                  obtain ⟨e0, e1', e2, e3, e4⟩ := HJ.out w2 HBr2.out
                  have c3 := HCW.out w2 HBr2.out
                  go_wp2_with fail
                  refine (FT.out (dp) w2 HBr2.out (by omega) (by push_cast at hdn ⊢; omega)).mono ?_
                  rintro e w9 ⟨rfl, hb9⟩
                  have HBr9 := Lib.hid (HBr2.out.trans (hb9.mono HBr2.out.size))
                  have HBw9 := Lib.hid (HBw.out.trans (HBr9.out.mono HBw.out.size))
                  clear hb9 e0 e1' e2 e3 e4 c3
                  cases hpp : l[j].tmpl ns (dp) with
                  | true =>
                    have HPP := Lib.hid hpp
                    clear hpp
                    have HE : Hid (tmpls ns l dp true false = tmpls ns (l.drop (j + 1)) dp ((j + 1) == 0) (pdot l (j + 1))) := by show _ = _; rw [HPJ.out]; rw [if_neg (by decide), hnd, if_neg (by decide), HPP.out, hpn]; simp
                    go_wp2_with fail
                    go_roundw
                    case rel => exact ⟨j + 1, by omega, by go_num, HE.out, HBw9.out⟩
                    case measure => simp [intOf]; omega
                  | false =>
                    have HPP := Lib.hid hpp
                    clear hpp
                    have HE : Hid (tmpls ns l dp true false = false) := by show _ = _; rw [HPJ.out, if_neg (by decide), hnd, if_neg (by decide), HPP.out]; simp
                    go_wp2_with fail
                    go_ret
                    exact ⟨by rw [HE0.out, HE.out]; rfl, HB1.out.trans (HBw9.out.mono HB1.out.size)⟩
            · obtain rfl : j = l.length := by omega
              have q1 : decide ((l.length : Int) < (l.length : Int)) = false := decide_eq_false (by omega)
              have c3 := HCW.out wr HBr0.out
              have HE : Hid (tmpls ns l dp true false = true) := by show _ = _; rw [HPE.out, List.drop_length]; rfl
              go_wp2_with fail
              go_ret
              exact ⟨by rw [HE0.out, HE.out]; rfl, HB1.out.trans (HBw.out.mono HB1.out.size)⟩
        · have q0 : decide (0 < fv) = false := decide_eq_false h0f
          clear hbad h0f
          go_wp2_with fail
          clear q0
          go_loopw [8] (fun iv wr => TpInv ns l dp w1 iv wr) (fun iv _ => l.length - (intOf iv).toNat)
          case atStart => exact ⟨0, Nat.zero_le _, rfl, rfl, Below.refl _ _⟩
          case round =>
            obtain ⟨j, hj, rfl, hpe, hbw⟩ := hrel
            have HBw := Lib.hid hbw
            have HPE := Lib.hid hpe
            have hsw := hbw.size
            have HV3 := Lib.hid (HV2.out.below hbw (by omega))
            have HLw := Lib.hid (L3.out.keeps (Keeps.of_below hbw))
            have HCW : Hid (∀ W, Below wr.heap.size wr W → W.cell? ⟨w.heap.size, 3, none⟩ = some (.slice ao l.length cap)) := fun W hW => by
              rw [hW.cell (p := ⟨w.heap.size, 3, none⟩) (by show w.heap.size < _; omega)]
              exact (HBw.out.cell (p := ⟨w.heap.size, 3, none⟩) hw1).trans HC3.out
            have HBr0 := Lib.hid (Below.refl wr.heap.size wr)
            clear hbw hpe
            by_cases hlt : j < l.length
            · have q1 : decide ((j : Int) < (l.length : Int)) = true := decide_eq_true (by omega)
              obtain ⟨g, o, rfl⟩ := HLw.out.addr j hlt
              obtain ⟨k5, t5, mv5, lv5, p5, hat, o5, o6, hJ⟩ := part_cells HLw.out rfl j hlt
              have HJ := Lib.hid hJ
              have hsj := size_get l j hlt
              have hdr : l.drop j = l[j] :: l.drop (j + 1) := List.drop_eq_getElem_cons hlt
              have FE := Lib.hid (fun W => refdots_any hat W)
              have FT : Hid (∀ m W, Below wr.heap.size wr W → 0 ≤ m → m + (n : Int) ≤ 3000000 → Calls Try.prog 51 #[.slice vo ns.length vc, .agg #[.int .i64 k5, .string t5, mv5, lv5, .int .i64 p5], .int .i64 m] W (RetBool (l[j].tmpl ns m) W)) := fun m W hW h1 h2 =>
                IH.out l[j] (by omega) B _ ns _ m W (by have := hW.size; omega) (Dt.At.keeps (keeps_low (hW.mono (by omega))) _ _ hat) (HV3.out.below hW (by omega)) hnl HNS.out h1 h2
              have FH : Hid (∀ W, Below wr.heap.size wr W → Calls Try.prog 76 #[.slice vo ns.length vc, .agg #[.int .i64 k5, .string t5, mv5, lv5, .int .i64 p5], .int .i64 (dp + 1)] W (RetBool (l[j].hasv ns (dp + 1)) W)) := fun W hW =>
                has_any 1000000 (by decide) l[j] (by omega) B _ ns _ (dp + 1) W (by have := hW.size; omega) (Dt.At.keeps (keeps_low (hW.mono (by omega))) _ _ hat) (HV3.out.below hW (by omega)) hnl HNS.out
              obtain ⟨be, hbe⟩ : ∃ b, b = l[j].dots := ⟨_, rfl⟩
              rw [← hbe] at FE
              have HPJ : Hid (tmpls ns l dp true false = if be = true then (if (j == 0) = true ∨ pdot l j = true then false else tmpls ns (l.drop (j + 1)) dp false true) else ((!nxtDots (l.drop (j + 1)) || l[j].hasv ns (dp + 1)) && (l[j].tmpl ns (if nxtDots (l.drop (j + 1)) = true then dp + 1 else dp) && tmpls ns (l.drop (j + 1)) dp false false))) := by
                show _ = _; rw [HPE.out, hdr, tmpls_cons, ← hbe]
              have hpn : pdot l (j + 1) = be := by rw [hbe]; show (match l[j]? with | some d => d.dots | none => false) = _; rw [List.getElem?_eq_getElem hlt]
              clear hdr hat hJ hbe
              obtain ⟨e0, e1', e2, e3, e4⟩ := HJ.out wr HBr0.out
              have c3 := HCW.out wr HBr0.out
              go_wp2_with fail
              refine (FE.out wr).mono ?_
              rintro e w2 ⟨rfl, hb2⟩
              have HBr2 := Lib.hid (HBr0.out.trans (hb2.mono HBr0.out.size))
              have HBw2 := Lib.hid (HBw.out.trans (HBr2.out.mono HBw.out.size))
              clear hb2 e0 e1' e2 e3 e4 c3 q1
              cases be with
              | true =>
                by_cases hz : j = 0
                · subst hz
                  have HE : Hid (tmpls ns l dp true false = false) := by show _ = _; rw [HPJ.out, if_pos rfl, if_pos (.inl rfl)]
                  go_wp2_with fail
                  go_ret
                  exact ⟨by rw [HE0.out, HE.out]; rfl, HB1.out.trans (HBw2.out.mono HB1.out.size)⟩
                · obtain ⟨jm, rfl⟩ : ∃ jm, j = jm + 1 := ⟨j - 1, by omega⟩
                  have hjl : jm < l.length := by omega
                  obtain ⟨k7, t7, mv7, lv7, p7, hat7, o9, o10, hJ7⟩ := part_cells HLw.out rfl jm hjl
                  have FE7 := Lib.hid (fun W => refdots_any hat7 W)
                  obtain ⟨d0, d1, d2, d3, d4⟩ := hJ7 w2 HBr2.out
                  have c3 := HCW.out w2 HBr2.out
                  obtain ⟨bp, hbp⟩ : ∃ b, b = l[jm].dots := ⟨_, rfl⟩
                  rw [← hbp] at FE7
                  have hpd : pdot l (jm + 1) = bp := by rw [hbp]; show (match l[jm]? with | some d => d.dots | none => false) = _; rw [List.getElem?_eq_getElem hjl]
                  have HPD := Lib.hid hpd
                  have HPN := Lib.hid hpn
                  have ew : IntKind.i64.wrap (jm : Int) = (jm : Int) := by rw [IntKind.wrap_i64]; omega
                  have z1 : (((jm : Int) + 1) == 0) = false := by rw [beq_eq_false_iff_ne]; omega
                  clear hbp hat7 hJ7 hpd hpn hz
                  go_wp2_with fail
                  refine (FE7.out w2).mono ?_
                  rintro e w3 ⟨rfl, hb3⟩
                  have HBr3 := Lib.hid (HBr2.out.trans (hb3.mono HBr2.out.size))
                  have HBw3 := Lib.hid (HBw.out.trans (HBr3.out.mono HBw.out.size))
                  clear hb3 d0 d1 d2 d3 d4 c3 ew z1
                  cases bp with
                  | true =>
                    have HE : Hid (tmpls ns l dp true false = false) := by show _ = _; rw [HPJ.out]; simp [HPD.out]
                    go_wp2_with fail
                    go_ret
                    exact ⟨by rw [HE0.out, HE.out]; rfl, HB1.out.trans (HBw3.out.mono HB1.out.size)⟩
                  | false =>
                    have HE : Hid (tmpls ns l dp true false = tmpls ns (l.drop (jm + 1 + 1)) dp ((jm + 1 + 1) == 0) (pdot l (jm + 1 + 1))) := by show _ = _; rw [HPJ.out]; simp [HPD.out, HPN.out]
                    go_wp2_with fail
                    go_roundw
                    case rel => exact ⟨jm + 1 + 1, by omega, by go_num, HE.out, HBw3.out⟩
                    case measure => simp [intOf]; omega
              | false =>
                by_cases hnx : j + 1 < l.length
                · have q2 : decide ((j : Int) + 1 < (l.length : Int)) = true := decide_eq_true (by omega)
                  obtain ⟨k7, t7, mv7, lv7, p7, hat7, o9, o10, hJ7⟩ := part_cells HLw.out rfl (j + 1) hnx
                  have FE7 := Lib.hid (fun W => refdots_any hat7 W)
                  obtain ⟨d0, d1, d2, d3, d4⟩ := hJ7 w2 HBr2.out
                  have c3 := HCW.out w2 HBr2.out
                  obtain ⟨bx, hbx⟩ : ∃ b, b = l[j + 1].dots := ⟨_, rfl⟩
                  rw [← hbx] at FE7
                  have hnd : nxtDots (l.drop (j + 1)) = bx := by rw [List.drop_eq_getElem_cons hnx, hbx]; rfl
                  clear hbx hat7 hJ7
                  go_wp2_with fail
                  refine (FE7.out w2).mono ?_
                  rintro e w3 ⟨rfl, hb3⟩
                  have HBr3 := Lib.hid (HBr2.out.trans (hb3.mono HBr2.out.size))
                  have HBw3 := Lib.hid (HBw.out.trans (HBr3.out.mono HBw.out.size))
                  clear hb3 d0 d1 d2 d3 d4 c3 q2
                  cases bx with
                  | true =>
                    obtain ⟨e0, e1', e2, e3, e4⟩ := HJ.out w3 HBr3.out
                    have c3 := HCW.out w3 HBr3.out
                    go_wp2_with fail
                    refine (FH.out w3 HBr3.out).mono ?_
                    rintro e w4 ⟨rfl, hb4⟩
                    have HBr4 := Lib.hid (HBr3.out.trans (hb4.mono HBr3.out.size))
                    have HBw4 := Lib.hid (HBw.out.trans (HBr4.out.mono HBw.out.size))
                    clear hb4 e0 e1' e2 e3 e4 c3
                    cases hhv : l[j].hasv ns (dp + 1) with
                    | false =>
                      have HHV := Lib.hid hhv
                      clear hhv
                      have HE : Hid (tmpls ns l dp true false = false) := by show _ = _; rw [HPJ.out, if_neg (by decide), hnd, HHV.out]; simp
                      go_wp2_with fail
                      go_ret
                      exact ⟨by rw [HE0.out, HE.out]; rfl, HB1.out.trans (HBw4.out.mono HB1.out.size)⟩
                    | true =>
                      have HHV := Lib.hid hhv
                      clear hhv
                      obtain ⟨e0, e1', e2, e3, e4⟩ := HJ.out w4 HBr4.out
                      have c3 := HCW.out w4 HBr4.out
                      go_wp2_with fail
                      refine (FT.out (dp + 1) w4 HBr4.out (by omega) (by push_cast at hdn ⊢; omega)).mono ?_
                      rintro e w9 ⟨rfl, hb9⟩
                      have HBr9 := Lib.hid (HBr4.out.trans (hb9.mono HBr4.out.size))
                      have HBw9 := Lib.hid (HBw.out.trans (HBr9.out.mono HBw.out.size))
                      clear hb9 e0 e1' e2 e3 e4 c3
                      cases hpp : l[j].tmpl ns (dp + 1) with
                      | true =>
                        have HPP := Lib.hid hpp
                        clear hpp
                        have HE : Hid (tmpls ns l dp true false = tmpls ns (l.drop (j + 1)) dp ((j + 1) == 0) (pdot l (j + 1))) := by show _ = _; rw [HPJ.out]; rw [if_neg (by decide), hnd, HHV.out, if_pos rfl, HPP.out, hpn]; simp
                        go_wp2_with fail
                        go_roundw
                        case rel => exact ⟨j + 1, by omega, by go_num, HE.out, HBw9.out⟩
                        case measure => simp [intOf]; omega
                      | false =>
                        have HPP := Lib.hid hpp
                        clear hpp
                        have HE : Hid (tmpls ns l dp true false = false) := by show _ = _; rw [HPJ.out, if_neg (by decide), hnd, HHV.out, if_pos rfl, HPP.out]; simp
                        go_wp2_with fail
                        go_ret
                        exact ⟨by rw [HE0.out, HE.out]; rfl, HB1.out.trans (HBw9.out.mono HB1.out.size)⟩
                  | false =>
                    obtain ⟨e0, e1', e2, e3, e4⟩ := HJ.out w3 HBr3.out
                    have c3 := HCW.out w3 HBr3.out
                    go_wp2_with fail
                    refine (FT.out (dp) w3 HBr3.out (by omega) (by push_cast at hdn ⊢; omega)).mono ?_
                    rintro e w9 ⟨rfl, hb9⟩
                    have HBr9 := Lib.hid (HBr3.out.trans (hb9.mono HBr3.out.size))
                    have HBw9 := Lib.hid (HBw.out.trans (HBr9.out.mono HBw.out.size))
                    clear hb9 e0 e1' e2 e3 e4 c3
                    cases hpp : l[j].tmpl ns (dp) with
                    | true =>
                      have HPP := Lib.hid hpp
                      clear hpp
                      have HE : Hid (tmpls ns l dp true false = tmpls ns (l.drop (j + 1)) dp ((j + 1) == 0) (pdot l (j + 1))) := by show _ = _; rw [HPJ.out]; rw [if_neg (by decide), hnd, if_neg (by decide), HPP.out, hpn]; simp
                      go_wp2_with fail
                      go_roundw
                      case rel => exact ⟨j + 1, by omega, by go_num, HE.out, HBw9.out⟩
                      case measure => simp [intOf]; omega
                    | false =>
                      have HPP := Lib.hid hpp
                      clear hpp
                      have HE : Hid (tmpls ns l dp true false = false) := by show _ = _; rw [HPJ.out, if_neg (by decide), hnd, if_neg (by decide), HPP.out]; simp
                      go_wp2_with fail
                      go_ret
                      exact ⟨by rw [HE0.out, HE.out]; rfl, HB1.out.trans (HBw9.out.mono HB1.out.size)⟩
                · have q2 : decide ((j : Int) + 1 < (l.length : Int)) = false := decide_eq_false (by omega)
                  have hnd : nxtDots (l.drop (j + 1)) = false := by rw [List.drop_eq_nil_of_le (by omega)]; rfl
                  obtain ⟨e0, e1', e2, e3, e4⟩ := HJ.out w2 HBr2.out
                  have c3 := HCW.out w2 HBr2.out
                  go_wp2_with fail
                  refine (FT.out (dp) w2 HBr2.out (by omega) (by push_cast at hdn ⊢; omega)).mono ?_
                  rintro e w9 ⟨rfl, hb9⟩
                  have HBr9 := Lib.hid (HBr2.out.trans (hb9.mono HBr2.out.size))
                  have HBw9 := Lib.hid (HBw.out.trans (HBr9.out.mono HBw.out.size))
                  clear hb9 e0 e1' e2 e3 e4 c3
                  cases hpp : l[j].tmpl ns (dp) with
                  | true =>
                    have HPP := Lib.hid hpp
                    clear hpp
                    have HE : Hid (tmpls ns l dp true false = tmpls ns (l.drop (j + 1)) dp ((j + 1) == 0) (pdot l (j + 1))) := by show _ = _; rw [HPJ.out]; rw [if_neg (by decide), hnd, if_neg (by decide), HPP.out, hpn]; simp
                    go_wp2_with fail
                    go_roundw
                    case rel => exact ⟨j + 1, by omega, by go_num, HE.out, HBw9.out⟩
                    case measure => simp [intOf]; omega
                  | false =>
                    have HPP := Lib.hid hpp
                    clear hpp
                    have HE : Hid (tmpls ns l dp true false = false) := by show _ = _; rw [HPJ.out, if_neg (by decide), hnd, if_neg (by decide), HPP.out]; simp
                    go_wp2_with fail
                    go_ret
                    exact ⟨by rw [HE0.out, HE.out]; rfl, HB1.out.trans (HBw9.out.mono HB1.out.size)⟩
            · obtain rfl : j = l.length := by omega
              have q1 : decide ((l.length : Int) < (l.length : Int)) = false := decide_eq_false (by omega)
              have c3 := HCW.out wr HBr0.out
              have HE : Hid (tmpls ns l dp true false = true) := by show _ = _; rw [HPE.out, List.drop_length]; rfl
              go_wp2_with fail
              go_ret
              exact ⟨by rw [HE0.out, HE.out]; rfl, HB1.out.trans (HBw.out.mono HB1.out.size)⟩
end Go.Proofs.Ythhaegncnoekbaa
