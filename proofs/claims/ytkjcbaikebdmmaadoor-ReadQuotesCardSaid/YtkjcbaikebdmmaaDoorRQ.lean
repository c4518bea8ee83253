/- The walk of ReadQuotes. -/
import Derived.Test.YtkjcbaikebdmmaaDoorJ20
import Derived.Test.YtkjcbaikebdmmaaDoorRD2
namespace Go.Proofs.YtkjcbaikebdmmaaDoor
open Go.RowKit Go.BigM
set_option linter.unusedVariables false
set_option linter.unusedSimpArgs false
def qD : Nat → Nat → List Dt → Dt
  | p, 0, l => .mk 4 ⟨#[]⟩ [] (Dt.plcs (p + 1) l) p
  | p, k + 1, l => .mk 4 ⟨#[]⟩ [] [.mk 3 qT [] [] p, qD (p + 1) k l] p
def quT (k : Nat) (l : List Dt) : List UInt8 := List.replicate k 39 ++ (40 :: (Dt.txte l ++ [41]))
theorem qu_wr (l : List Dt) (h : ∀ d ∈ l, Rdb d) : ∀ (k p : Nat), Wr p (qD p k l) (quT k l)
  | 0, p => .list (wrs_plce l (p + 1) h)
  | k + 1, p => by
    have := Wr.quote (p := p) (g := []) Gap.nil (qu_wr l h k (p + 1))
    simpa [quT, qD, List.replicate_succ] using this
theorem qu_dep (l : List Dt) : ∀ (k p : Nat), (qD p k l).dep = k + 1 + Dt.deps l
  | 0, p => by simp [qD, Dt.dep, plcs_dep]
  | k + 1, p => by simp [qD, Dt.dep, Dt.deps, qu_dep l k]; omega
theorem rd_qu (l : List Dt) (h : ∀ d ∈ l, Rdb d) (k : Nat) (hd : k + 1 + Dt.deps l ≤ 60) : ∃ n, rd (quT k l) n .next 0 ⟨0, false, []⟩ [] = some (.ok [qD 0 k l]) := by
  have h1 := Wrs.cons (p := 0) (g := []) Gap.nil (qu_wr l h k 0) (.nil Gap.nil) NoSign.nil
  simp only [List.nil_append, List.append_nil, List.length_nil, Nat.zero_add] at h1
  exact rd_wrs h1 (by simp [Dt.deps, qu_dep]; omega)
/-- The datum that stands in a box of its own. -/
def BoxAt (S : Nat → Prop) (w : World) (g : Nat) (d : Dt) : Prop := ∃ cs, w.heap[g]? = some (.cells cs 40 (0, 0)) ∧ Dt.At S w d cs
def QsInv (k : Nat) (w : World) (sv iv : Value) (wr : World) : Prop :=
  ∃ j : Nat, j ≤ k ∧ iv = .int .i64 j ∧ sv = .string ⟨(List.replicate j 39).toArray⟩ ∧ wr = w
def QdInv (k : Nat) (l : List Dt) (w : World) (g0 : Nat) (iv : Value) (wr : World) : Prop :=
  ∃ j : Nat, j ≤ k ∧ iv = .int .i64 j ∧ BoxAt (fun g => g < g0) wr g0 (qD j (k - j) l) ∧ Below w.heap.size w wr
theorem BoxAt.below {S : Nat → Prop} {w w' : World} {g : Nat} {d : Dt} (h : BoxAt S w g d) (hb : Below w.heap.size w w') : BoxAt S w' g d := by
  obtain ⟨cs, h1, h2⟩ := h
  exact ⟨cs, rowB hb h1, Dt.At.keeps (Keeps.of_below hb) _ _ h2⟩
/-- The box holds another datum. -/
theorem box_next {w : World} {g0 : Nat} {old cs : Array Value} {d : Dt} (h : w.heap[g0]? = some (.cells old 40 (0, 0))) (hd : Dt.At (fun g => g < g0) w d cs) : BoxAt (fun g => g < g0) (w.setRow g0 cs) g0 d := by
  refine ⟨cs, setRow_box w g0 old cs h, Dt.At.keeps (fun g c T fz hS hg _ => ⟨fz, ?_⟩) _ _ hd⟩
  rw [setRow_other w g0 g cs (by omega)]; exact hg
set_option maxHeartbeats 4000000 in
set_option maxRecDepth 100000 in
theorem quotes_walk (a : Int) (l : List Rw) (ao : Option Addr) (ac : Nat) (w : World) (ha : I64 a) (hR : RsAt w ao l) : Calls Tryd.prog 11 #[.int .i64 a, .slice ao l.length ac] w (RetBool true w) := by
  have BB := Lib.hid (Below.refl w.heap.size w)
  obtain ⟨k, hk⟩ : ∃ q : Nat, a % 12 = q := ⟨(a % 12).toNat, by omega⟩
  have hk12 : k < 12 := by omega
  have FW := Lib.hid (fun w => (within_any a 12 w ha.1 ha.2 (by omega) (by omega)))
  rw [hk] at FW
  have HR := Lib.hid hR
  clear hk ha hR
  go_enter Tryd.func11, Tryd.ntmps11
  go_wp2_with (go_at_call 13; refine (known_any _).mono ?_; rintro e w1 ⟨rfl, hb⟩; replace BB := Lib.hid (BB.out.trans (hb.mono BB.out.size)); clear hb)
  refine (few_any l ao ac _ (HR.out.below BB.out)).mono ?_
  rintro e w2 ⟨r, rfl, hr, rfl⟩
  cases r with
  | false =>
    go_wp2_with fail
    go_ret
    exact ⟨rfl, BB.out⟩
  | true =>
    obtain ⟨hc, hdp⟩ := hr rfl
    have hll := length_cnts l
    go_wp2_with fail
    refine (FW.out _).mono ?_
    rintro e w3 ⟨rfl, rfl⟩
    go_wp2_with fail
    go_loopw [6, 7] (fun sv iv wr => QsInv k w1 sv iv wr) (fun _ iv _ => k - (intOf iv).toNat)
    case atStart => exact ⟨0, Nat.zero_le _, rfl, rfl, rfl⟩
    case round =>
      obtain ⟨j, hj, rfl, rfl, rfl⟩ := hrel
      obtain ⟨X, hX⟩ : ∃ X : ByteArray, X = ⟨(List.replicate j 39).toArray⟩ := ⟨_, rfl⟩
      have hXs : X.size ≤ 12 := by rw [hX, Lib.size_eq]; simp; omega
      rw [← hX]
      have HX := Lib.hid hX
      clear hX
      by_cases hlt : j < k
      · have q1 : decide ((j : Int) < (k : Int)) = true := decide_eq_true (by omega)
        go_wp2_with fail
        go_roundw
        case rel =>
          refine ⟨j + 1, by omega, by go_num, ?_, rfl⟩
          rw [HX.out, str_app1, List.replicate_succ']
        case measure => simp [intOf]; omega
      · obtain rfl : j = k := by omega
        have q1 : decide ((j : Int) < (j : Int)) = false := decide_eq_false (by omega)
        have FA := Lib.hid (all_any l (by omega) ao ac wr (HR.out.below BB.out))
        go_wp2_with fail
        refine FA.out.mono ?_
        rintro e w4 ⟨v4, rfl, hown, hb4⟩
        have hat := hown.at
        obtain ⟨o4, c4, rfl⟩ := hat.form
        have hsz := makes_size l
        have htx := makes_txte l
        have FT := Lib.hid (text_any (Rw.makes l) (by omega) (by omega) _ o4 c4 w4 hat)
        replace BB := Lib.hid (BB.out.trans (hb4.mono BB.out.size))
        have hml := makes_length l
        obtain ⟨Y, hY⟩ : ∃ Y : ByteArray, Y = ⟨(Dt.txte (Rw.makes l)).toArray⟩ := ⟨_, rfl⟩
        have hYs : Y.size ≤ 2460 := by rw [hY, Lib.size_eq]; simp; omega
        rw [← hY] at FT
        have HY := Lib.hid hY
        have HML := Lib.hid hml
        have HDP := Lib.hid (show Dt.deps (Rw.makes l) ≤ 21 from Nat.le_trans (makes_dep l) hdp)
        clear hY hat hown hb4 hsz htx hml FA hdp
        go_wp2_with fail
        refine FT.out.mono ?_
        rintro e w5 ⟨rfl, hb5⟩
        replace BB := Lib.hid (BB.out.trans (hb5.mono BB.out.size))
        clear hb5 FT
        obtain ⟨Z, hZ⟩ : ∃ Z : ByteArray, X ++ ⟨#[40]⟩ ++ Y ++ ⟨#[41]⟩ = Z := ⟨_, rfl⟩
        have hZl : Z.data.toList = quT j (Rw.makes l) := by
          rw [← hZ]
          simp [ByteArray.data_append, HX.out, HY.out, quT]
        have hZs : Z.size ≤ 8000 := by
          rw [← hZ]; simp only [ByteArray.size_append]
          have : (⟨#[40]⟩ : ByteArray).size = 1 := rfl
          have : (⟨#[41]⟩ : ByteArray).size = 1 := rfl
          omega
        obtain ⟨m, hm⟩ := rd_qu (Rw.makes l) (makes_rdb l) j (by have := HDP.out; omega)
        have FR := Lib.hid (read_any Z w5 hZs m _ (by rw [hZl]; exact hm))
        clear hZl hm hZs
        go_wp2_with fail
        refine FR.out.mono ?_
        rintro e w6 ⟨hb6, v, rfl, hv⟩
        replace BB := Lib.hid (BB.out.trans (hb6.mono BB.out.size))
        obtain ⟨g, o, cap, rfl⟩ := hv.some (by simp)
        obtain ⟨k5, t5, mv5, lv5, p5, ha, a0, a1, a2, a3, a4⟩ := hv.at 0 (by simp)
        obtain ⟨n1, n2⟩ := At_one ha
        simp only [Nat.zero_mul, Nat.add_zero] at a0 a1 a2 a3 a4
        have HA := Lib.hid (Dt.At.bound _ _ ha)
        clear hv hb6 FR ha
        simp only [List.length_cons, List.length_nil]
        have z5 : (w6.alloc (.cells #[.int .i64 0, .string ⟨#[]⟩, .slice none 0 0, .slice none 0 0, .int .i64 0] 40)).heap[w6.heap.size]? = some (.cells #[.int .i64 0, .string ⟨#[]⟩, .slice none 0 0, .slice none 0 0, .int .i64 0] 40 (0, 0)) := alloc_at _ _
        have z1 : (#[.int .i64 k5, .string t5, mv5, lv5, .int .i64 p5] : Array Value).all (·.oneCell') = true := by simp [Value.oneCell'] at n1 n2 ⊢; exact ⟨n1, n2⟩
        have z2 : (#[.int .i64 0, .string ⟨#[]⟩, .slice none 0 0, .slice none 0 0, .int .i64 0] : Array Value).size = (#[.int .i64 k5, .string t5, mv5, lv5, .int .i64 p5] : Array Value).size := rfl
        go_wp2_with (refine wpList_store_row rfl 40 _ _ rfl w6.heap.size #[.int .i64 k5, .string t5, mv5, lv5, .int .i64 p5] rfl rfl 40 #[.int .i64 0, .string ⟨#[]⟩, .slice none 0 0, .slice none 0 0, .int .i64 0] z5 info40 z2 z1 ?_)
        rw [setRow_new]
        have hw0 : BoxAt (fun x => x < w6.heap.size) (w6.alloc (.cells #[.int .i64 k5, .string t5, mv5, lv5, .int .i64 p5] 40)) w6.heap.size (qD 0 (j - 0) (Rw.makes l)) :=
          ⟨_, alloc_at _ _, Dt.At.mono (fun x hx => hx.2) _ _ (Dt.At.keeps (Keeps.of_below ((Below.refl w6.heap.size w6).alloc (Nat.le_refl _) _)) _ _ HA.out)⟩
        have hb0 : Below w.heap.size w (w6.alloc (.cells #[.int .i64 k5, .string t5, mv5, lv5, .int .i64 p5] 40)) := BB.out.alloc BB.out.size _
        have hs0 : w6.heap.size < (w6.alloc (.cells #[.int .i64 k5, .string t5, mv5, lv5, .int .i64 p5] 40)).heap.size := by simp
        have hbs := BB.out.size
        obtain ⟨b0, hb00⟩ : ∃ b0, w6.heap.size = b0 := ⟨_, rfl⟩
        rw [hb00] at hw0 hs0 hbs
        simp only [hb00]
        generalize w6.alloc (.cells #[.int .i64 k5, .string t5, mv5, lv5, .int .i64 p5] 40) = W0 at hw0 hb0 hs0 ⊢
        have HW0 := Lib.hid hw0
        have HB0 := Lib.hid hb0
        clear hw0 hb0 z5 z1 z2 HA a0 a1 a2 a3 a4 hb00 BB hZ HX HY n1 n2
        go_loopw [12] (fun iv wr => QdInv j (Rw.makes l) w b0 iv wr) (fun iv _ => j - (intOf iv).toNat)
        case atStart => exact ⟨0, Nat.zero_le _, rfl, HW0.out, HB0.out⟩
        case round =>
          obtain ⟨i, hi, rfl, hbx, hbel⟩ := hrel
          have HB := Lib.hid hbel
          clear hbel HW0 HB0
          by_cases hij : i < j
          · have q2 : decide ((i : Int) < (j : Int)) = true := decide_eq_true (by omega)
            obtain ⟨m2, hm2⟩ : ∃ m2, j - i = m2 + 1 := ⟨j - i - 1, by omega⟩
            rw [hm2] at hbx
            obtain ⟨cs, hcs, hat⟩ := hbx
            have hbl : b0 < wr.heap.size := (Array.getElem?_eq_some_iff.1 hcs).1
            unfold qD at hat
            have hat2 := hat
            rw [At_mk] at hat2
            obtain ⟨mv, lv, rfl, hm, hlv⟩ := hat2
            obtain ⟨g2, o2, cp2, rfl⟩ := hlv.some (by simp)
            obtain ⟨k7, t7, mv7, lv7, p7, ha7, b0', b1, b2, b3, b4⟩ := hlv.at 0 (by simp)
            have ha7' : Dt.At _ wr (.mk 3 qT [] [] (i : Int)) _ := ha7
            rw [At_mk] at ha7'
            obtain ⟨mv8, lv8, e8, hm8, hl8⟩ := ha7'
            simp at e8
            obtain ⟨rfl, rfl, rfl, rfl, rfl⟩ := e8
            obtain ⟨k9, t9, mv9, lv9, p9, ha9, d0, d1, d2, d3, d4⟩ := hlv.at 1 (by simp)
            obtain ⟨s1, s2⟩ := At_one ha9
            have hg2 : g2 < wr.heap.size := World.block_lt_of_cell? wr _ b0'
            simp only [Nat.zero_mul, Nat.add_zero, Nat.one_mul] at b0' b1 b2 b3 b4 d0 d1 d2 d3 d4
            have c0 : wr.cell? ⟨b0, 0, none⟩ = some (.int .i64 4) := by rw [Lib.cell_of_heap hcs]; rfl
            have c3 : wr.cell? ⟨b0, 3, none⟩ = some (.slice (some ⟨g2, o2, none⟩) 2 cp2) := by rw [Lib.cell_of_heap hcs]; rfl
            have c4' : wr.cell? ⟨b0, 4, none⟩ = some (.int .i64 i) := by rw [Lib.cell_of_heap hcs]; rfl
            have FI := Lib.hid (refis_any 3 qT qT mv7 lv7 i true true rfl (by simp) hm8.one hl8.one wr)
            have HCS := Lib.hid hcs
            have HA9 := Lib.hid ha9
            have s4 : (#[.int .i64 k9, .string t9, mv9, lv9, .int .i64 p9] : Array Value).all (·.oneCell') = true := by simp [Value.oneCell'] at s1 s2 ⊢; exact ⟨s1, s2⟩
            clear hcs hat hm hlv ha7 ha9 hm8 hl8
            have hqT : qT = ⟨#[113, 117, 111, 116, 101]⟩ := rfl
            rw [hqT] at b1 FI
            go_wp2_with fail
            refine FI.out.mono ?_
            rintro e w7 ⟨rfl, hb7⟩
            have hs7 := hb7.size
            have hbel : b0 < wr.heap.size := hbl
            replace c0 := (hb7.cell (p := ⟨b0, 0, none⟩) hbel).trans c0
            replace c3 := (hb7.cell (p := ⟨b0, 3, none⟩) hbel).trans c3
            replace c4' := (hb7.cell (p := ⟨b0, 4, none⟩) hbel).trans c4'
            replace b4 := (hb7.cell (p := ⟨g2, o2 + 4, none⟩) hg2).trans b4
            replace d0 := (hb7.cell (p := ⟨g2, o2 + 5, none⟩) hg2).trans d0
            replace d1 := (hb7.cell (p := ⟨g2, o2 + 5 + 1, none⟩) hg2).trans d1
            replace d2 := (hb7.cell (p := ⟨g2, o2 + 5 + 2, none⟩) hg2).trans d2
            replace d3 := (hb7.cell (p := ⟨g2, o2 + 5 + 3, none⟩) hg2).trans d3
            replace d4 := (hb7.cell (p := ⟨g2, o2 + 5 + 4, none⟩) hg2).trans d4
            have x7 := rowB hb7 HCS.out
            have HX7 := Lib.hid (box_next x7 (Dt.At.keeps (Keeps.of_below hb7) _ _ HA9.out))
            have HB7 := Lib.hid (HB.out.trans (hb7.mono HB.out.size))
            have s6 : (#[.int .i64 4, .string ⟨#[]⟩, mv, .slice (some ⟨g2, o2, none⟩) 2 cp2, .int .i64 i] : Array Value).size = (#[.int .i64 k9, .string t9, mv9, lv9, .int .i64 p9] : Array Value).size := rfl
            clear hb7 b0' b1 b2 b3 HCS HA9 FI s1 s2
            go_wp2_with (refine wpList_store_row rfl 40 _ _ rfl b0 #[.int .i64 k9, .string t9, mv9, lv9, .int .i64 p9] rfl rfl 40 #[.int .i64 4, .string ⟨#[]⟩, mv, .slice (some ⟨g2, o2, none⟩) 2 cp2, .int .i64 i] x7 info40 s6 s4 ?_)
            go_roundw
            case rel =>
              refine ⟨i + 1, by omega, by go_num, ?_, below_setRowB HB7.out _ _ (by omega)⟩
              rw [show j - (i + 1) = m2 by omega]
              exact HX7.out
            case measure => simp [intOf]; omega
          · obtain rfl : i = j := by omega
            have q2 : decide ((i : Int) < (i : Int)) = false := decide_eq_false (by omega)
            rw [Nat.sub_self] at hbx
            obtain ⟨cs, hcs, hat⟩ := hbx
            have hbl : b0 < wr.heap.size := (Array.getElem?_eq_some_iff.1 hcs).1
            unfold qD at hat
            rw [At_mk] at hat
            obtain ⟨mv, lv, rfl, hm, hlv⟩ := hat
            obtain ⟨o9, c9, rfl⟩ := hlv.form
            have c0 : wr.cell? ⟨b0, 0, none⟩ = some (.int .i64 4) := by rw [Lib.cell_of_heap hcs]; rfl
            have c3 : wr.cell? ⟨b0, 3, none⟩ = some (.slice o9 l.length c9) := by
              rw [Lib.cell_of_heap hcs]
              show some (Value.slice o9 (Dt.plcs (i + 1) (Rw.makes l)).length c9) = _
              rw [plcs_length, HML.out]
            have c4' : wr.cell? ⟨b0, 4, none⟩ = some (.int .i64 i) := by rw [Lib.cell_of_heap hcs]; rfl
            clear hcs hm hlv
            go_wp2_with fail
            go_ret
            exact ⟨rfl, HB.out⟩
end Go.Proofs.YtkjcbaikebdmmaaDoor
