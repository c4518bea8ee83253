/- The walk of ReadBlanks. -/
import Derived.Test.YtkjcbaikebdmmaaDoorRB
namespace Go.Proofs.YtkjcbaikebdmmaaDoor
open Go.RowKit Go.BigM
set_option linter.unusedVariables false
set_option linter.unusedSimpArgs false
/-- What may stand in the place of a blank. -/
def sepB : Nat → ByteArray
  | 0 => ⟨#[32]⟩ | 1 => ⟨#[10]⟩ | 2 => ⟨#[9, 10]⟩ | 3 => ⟨#[32, 59, 120, 32, 40, 121, 10]⟩ | _ => ⟨#[32, 32]⟩
theorem gap_remark : Gap [32, 59, 120, 32, 40, 121, 10] := fun rest => by
  simp only [List.cons_append, List.nil_append]
  simp [gapOf]
  omega
theorem sepB_ok (r : Nat) : Gap (sepB r).data.toList ∧ NoSign (sepB r).data.toList ∧ (sepB r).data.toList ≠ [] ∧ (sepB r).data.toList.length ≤ 7 := by
  match r with
  | 0 => exact ⟨Gap.blank (by simp), NoSign.cons (by decide), by decide, by decide⟩
  | 1 => exact ⟨Gap.blank (by simp), NoSign.cons (by decide), by decide, by decide⟩
  | 2 => exact ⟨Gap.append (a := [9]) (b := [10]) (Gap.blank (by simp)) (Gap.blank (by simp)), NoSign.cons (by decide), by decide, by decide⟩
  | 3 => exact ⟨gap_remark, NoSign.cons (by decide), by decide, by decide⟩
  | n + 4 => exact ⟨Gap.append (a := [32]) (b := [32]) (Gap.blank (by simp)) (Gap.blank (by simp)), NoSign.cons (by decide), (by show ([32, 32] : List UInt8) ≠ []; decide), (by show ([32, 32] : List UInt8).length ≤ 7; decide)⟩
/-- The number that tells what stands in a blank's place. -/
def pick5 (len : Nat) (zs : List Int) (n : Nat) : Nat := ((if n < len then zs.getD n 0 else 0) % 5).toNat
def sepF (len : Nat) (zs : List Int) (n : Nat) : List UInt8 := (sepB (pick5 len zs n)).data.toList
theorem sepF_ok (len : Nat) (zs : List Int) : Seps (sepF len zs) := fun n => ⟨(sepB_ok _).1, (sepB_ok _).2.1, (sepB_ok _).2.2.1⟩
theorem rep_len (f : Nat → List UInt8) (hf : ∀ n, (f n).length ≤ 7) : ∀ (s : List UInt8) (n : Nat), (rep f n s).length ≤ s.length + 6 * s.count 32
  | [], n => by simp [rep]
  | c :: s, n => by
    by_cases h : c = 32
    · subst h
      have h1 := rep_len f hf s (n + 1)
      have h2 := hf n
      simp only [rep, if_true, List.length_append, List.length_cons, List.count_cons_self]
      omega
    · have h1 := rep_len f hf s n
      simp only [rep, h, if_false, List.length_cons]
      rw [List.count_cons_of_ne (by exact fun e => h e)]
      omega
theorem count_none {s : List UInt8} (h : ∀ c ∈ s, c ≠ 32) : s.count 32 = 0 := List.count_eq_zero.2 (fun hc => h 32 hc rfl)
mutual
theorem blanks_dt : ∀ (d : Dt), Rdb d → d.txt.count 32 + 1 ≤ d.size
  | .mk k t ms l p, h => by
    cases h with
    | leaf hk hu hl => simp only [Dt.txt, hk, if_false, Dt.size]; rw [count_none hu]; omega
    | list hl =>
      have h1 := blanks_dts l hl
      simp only [Dt.txt, if_true, Dt.size, List.count_cons, List.count_append, List.count_nil]
      simp
      omega
theorem blanks_dts : ∀ (l : List Dt), (∀ d ∈ l, Rdb d) → (Dt.txts l).count 32 ≤ Dt.sizes l
  | [], _ => by simp [Dt.txts]
  | d :: l, h => by
    have h1 := blanks_dt d (h d (by simp))
    have h2 := blanks_dtr l (fun e he => h e (by simp [he]))
    simp only [Dt.txts, Dt.sizes, List.count_append]
    omega
theorem blanks_dtr : ∀ (l : List Dt), (∀ d ∈ l, Rdb d) → (Dt.txtr l).count 32 ≤ Dt.sizes l
  | [], _ => by simp [Dt.txtr]
  | d :: l, h => by
    have h1 := blanks_dt d (h d (by simp))
    have h2 := blanks_dtr l (fun e he => h e (by simp [he]))
    simp only [Dt.txtr, Dt.sizes, List.count_append, List.count_cons_self]
    omega
end
def lstD (l : List Dt) : Dt := .mk 4 ⟨#[]⟩ [] l 0
theorem rd_one (d : Dt) (h : Rdb d) (hd : d.dep ≤ 60) : ∃ n, rd d.txt n .next 0 ⟨0, false, []⟩ [] = some (.ok [d.plc 0]) := by
  have h1 := Wrs.cons (p := 0) (g := []) Gap.nil (wr_plc d 0 h) (.nil Gap.nil) NoSign.nil
  simp only [List.nil_append, List.append_nil] at h1
  exact rd_wrs h1 (by simp only [Dt.deps, plc_dep]; omega)
theorem rd_rep (f : Nat → List UInt8) (hf : Seps f) (d : Dt) (h : Rdb d) (hd : d.dep ≤ 60) : ∃ e, d.sim e ∧ ∃ n, rd (rep f 0 d.txt) n .next 0 ⟨0, false, []⟩ [] = some (.ok [e]) := by
  obtain ⟨e, h1, h2⟩ := wr_rep hf d 0 0 h
  have h3 := Wrs.cons (p := 0) (g := []) Gap.nil h1 (.nil Gap.nil) NoSign.nil
  simp only [List.nil_append, List.append_nil] at h3
  exact ⟨e, h2, rd_wrs h3 (by simp only [Dt.deps]; have := Dt.sim.dep d e h2; omega)⟩
/-- The loop that lays other blanks. -/
def BkInv (s : ByteArray) (f : Nat → List UInt8) (w : World) (tv nv iv : Value) (wr : World) : Prop :=
  ∃ (i : Nat) (T : ByteArray), i ≤ s.size ∧ iv = .int .i64 i ∧ nv = .int .i64 ((s.data.toList.take i).count 32 : Nat) ∧ tv = .string T ∧ T.data.toList = rep f 0 (s.data.toList.take i) ∧ Below w.heap.size w wr
theorem take_at (s : ByteArray) (i : Nat) (h : i < s.size) : s.data.toList.take (i + 1) = s.data.toList.take i ++ [s[i]] := by
  rw [List.take_succ_eq_append_getElem (by rw [← Lib.size_eq]; exact h)]
  rfl
theorem bk_other {s : ByteArray} {f : Nat → List UInt8} {w wr : World} {i : Nat} {T E : ByteArray} {c : UInt8} (hi : i < s.size) (hc : s[i] = c) (h32 : c ≠ 32) (hE : E.data.toList = [c]) (hT : T.data.toList = rep f 0 (s.data.toList.take i)) (hb : Below w.heap.size w wr) :
    BkInv s f w (.string (T ++ E)) (.int .i64 ((s.data.toList.take i).count 32 : Nat)) (.int .i64 ((i : Int) + 1)) wr := by
  refine ⟨i + 1, _, by omega, by go_num, ?_, rfl, ?_, hb⟩
  · rw [take_at s i hi, hc, List.count_append]; simp [h32]
  · rw [take_at s i hi, hc, rep_append, rep_none f [c] _ (by simpa using h32)]
    simp [ByteArray.data_append, hT, hE]
theorem bk_blank {s : ByteArray} {f : Nat → List UInt8} {w wr : World} {i n : Nat} {T E : ByteArray} (hi : i < s.size) (hc : s[i] = 32) (hn : n = (s.data.toList.take i).count 32) (hE : E.data.toList = f n) (hT : T.data.toList = rep f 0 (s.data.toList.take i)) (hb : Below w.heap.size w wr) :
    BkInv s f w (.string (T ++ E)) (.int .i64 ((n : Int) + 1)) (.int .i64 ((i : Int) + 1)) wr := by
  refine ⟨i + 1, _, by omega, by go_num, ?_, rfl, ?_, hb⟩
  · rw [take_at s i hi, hc, List.count_append, ← hn]; simp
  · rw [take_at s i hi, hc, rep_append, rep_one, Nat.zero_add, ← hn]
    simp [ByteArray.data_append, hT, hE]
theorem sep_cell (w : World) (r : Nat) (hr : r < 5) : (w.alloc (.cells #[.string ⟨#[32]⟩, .string ⟨#[10]⟩, .string ⟨#[9, 10]⟩, .string ⟨#[32, 59, 120, 32, 40, 121, 10]⟩, .string ⟨#[32, 32]⟩] 9)).cell? ⟨w.heap.size, r, none⟩ = some (.string (sepB r)) := by
  rw [Lib.cell_of_heap (alloc_at w _)]
  have : r = 0 ∨ r = 1 ∨ r = 2 ∨ r = 3 ∨ r = 4 := by omega
  rcases this with rfl | rfl | rfl | rfl | rfl <;> rfl
set_option maxHeartbeats 8000000 in
set_option maxRecDepth 100000 in
theorem blanks_walk (l : List Rw) (ao : Option Addr) (ac : Nat) (bo : Option Addr) (len cap : Nat) (zs : List Int) (w : World) (hR : RsAt w ao l) (hz : IsRow .i64 w bo len cap zs) : Calls Tryd.prog 9 #[.slice ao l.length ac, .slice bo len cap] w (RetBool true w) := by
  have BB := Lib.hid (Below.refl w.heap.size w)
  have HR := Lib.hid hR
  have HZ := Lib.hid hz
  have hlen : len ≤ 9223372036854775807 := by rcases hz with ⟨_, h, _⟩ | ⟨_, _, h1, h2, _⟩ <;> unfold maxLen at * <;> omega
  have HLN := Lib.hid hlen
  clear hR hz hlen
  go_enter Tryd.func9, Tryd.ntmps9
  go_wp2_with (go_at_call 13; refine (known_any _).mono ?_; rintro e w1 ⟨rfl, hb⟩; replace BB := Lib.hid (BB.out.trans (hb.mono BB.out.size)); clear hb)
  refine (few_any l ao ac _ (HR.out.below BB.out)).mono ?_
  rintro e w2 ⟨r, rfl, hr, rfl⟩
  cases r with
  | false =>
    go_wp2_with fail
    go_ret
    exact ⟨rfl, BB.out⟩
  | true =>
    obtain ⟨hc, hdp⟩ := hr rfl
    clear hr
    have hll := length_cnts l
    have FA := Lib.hid (all_any l (by omega) ao ac w1 (HR.out.below BB.out))
    go_wp2_with fail
    refine FA.out.mono ?_
    rintro e w4 ⟨v4, rfl, hown, hb4⟩
    have hat := hown.at
    obtain ⟨o4, c4, rfl⟩ := hat.form
    have hsz := makes_size l
    have htx := makes_txt l
    have htt := txts_txtr (Rw.makes l)
    replace BB := Lib.hid (BB.out.trans (hb4.mono BB.out.size))
    obtain ⟨D, hD⟩ : ∃ D, D = lstD (Rw.makes l) := ⟨_, rfl⟩
    have hDat : Dt.At (fun g => w1.heap.size ≤ g) w4 D #[.int .i64 4, .string ⟨#[]⟩, .slice none 0 0, .slice o4 (Rw.makes l).length c4, .int .i64 0] := by
      rw [hD]; unfold lstD; rw [At_mk]; exact ⟨_, _, rfl, .inl ⟨rfl, rfl⟩, hat⟩
    have hDs : D.size ≤ 61 := by rw [hD]; simp only [lstD, Dt.size]; omega
    have hDt : D.txt.length ≤ 2462 := by rw [hD]; simp only [lstD, Dt.txt, if_true, List.length_cons, List.length_append, List.length_nil]; omega
    have hDr : Rdb D := by rw [hD]; exact .list (makes_rdb l)
    have hDd : D.dep ≤ 60 := by rw [hD]; simp only [lstD, Dt.dep, if_true]; have := makes_dep l; omega
    have hDb := blanks_dt D hDr
    have FT := Lib.hid (reftext_any 1000000 (by decide) D (by omega) (by omega) _ _ w4 hDat)
    obtain ⟨s, hs⟩ : ∃ s : ByteArray, s = ⟨D.txt.toArray⟩ := ⟨_, rfl⟩
    have hsl : s.data.toList = D.txt := by rw [hs]
    have hss : s.size ≤ 2462 := by rw [Lib.size_eq, hsl]; exact hDt
    rw [← hs] at FT
    obtain ⟨e2, hsim, n2, hn2⟩ := rd_rep (sepF len zs) (sepF_ok len zs) D hDr hDd
    obtain ⟨n1, hn1⟩ := rd_one D hDr hDd
    have hrl := rep_len (sepF len zs) (fun n => (sepB_ok _).2.2.2) D.txt 0
    rw [← hsl] at hn1 hn2 hrl hDb
    have hrl2 : (rep (sepF len zs) 0 s.data.toList).length ≤ 3000 := by rw [← Lib.size_eq] at hrl; omega
    have hcn : s.data.toList.count 32 ≤ 60 := by omega
    have HN1 := Lib.hid hn1
    have HN2 := Lib.hid hn2
    have HRL := Lib.hid hrl2
    have HCN := Lib.hid hcn
    have HSM := Lib.hid hsim
    have HDS := Lib.hid hDs
    clear hs hsl hDat hDt hDr hDd hDb hat hown hb4 hsz htx htt hn1 hn2 hrl hrl2 hcn hsim hDs hD FA hdp
    go_wp2_with fail
    refine FT.out.mono ?_
    rintro e w5 ⟨rfl, hb5⟩
    replace BB := Lib.hid (BB.out.trans (hb5.mono BB.out.size))
    clear hb5 FT
    go_wp2_with fail
    go_loopw [6, 7, 8] (fun tv nv iv wr => BkInv s (sepF len zs) w tv nv iv wr) (fun _ _ iv _ => s.size - (intOf iv).toNat)
    case atStart => exact ⟨0, _, Nat.zero_le _, rfl, rfl, rfl, rfl, BB.out⟩
    case round =>
      clear BB
      obtain ⟨i, T, hi, rfl, rfl, rfl, hT, hb⟩ := hrel
      have HB := Lib.hid hb
      have HT := Lib.hid hT
      obtain ⟨n, hn⟩ : ∃ n, n = (s.data.toList.take i).count 32 := ⟨_, rfl⟩
      have hn60 : n ≤ 60 := by
        have h1 : (s.data.toList.take i).count 32 ≤ s.data.toList.count 32 := List.Sublist.count_le 32 (List.take_sublist i _)
        have := HCN.out; omega
      have hTs : T.size ≤ 3000 := by
        have h1 : s.data.toList = s.data.toList.take i ++ s.data.toList.drop i := (List.take_append_drop _ _).symm
        have h2 := HRL.out
        rw [h1, rep_append, List.length_append, ← hT, ← Lib.size_eq] at h2
        omega
      have HNN := Lib.hid hn
      simp only [← hn]
      clear hb hT hn
      by_cases hlt : i < s.size
      · have q1 : decide ((i : Int) < (s.size : Int)) = true := decide_eq_true (by omega)
        obtain ⟨c, hc⟩ : ∃ c, s[i] = c := ⟨_, rfl⟩
        by_cases h32 : c = 32
        · subst h32
          obtain ⟨z, hz, hz2⟩ : ∃ z, z = (if n < len then zs.getD n 0 else 0) ∧ I64 z := ⟨_, rfl, by
            split
            · rename_i hl
              obtain ⟨x, z', rfl, hcell, hI⟩ := row_get HZ.out (Below.refl _ _) hl
              rcases HZ.out with ⟨h, _⟩ | ⟨x', hx, h1, h2, h3, h4, h5⟩
              · cases h
              · refine wf_I64 _ (h5 _ ?_)
                rw [List.getD_eq_getElem?_getD, List.getElem?_eq_getElem (by omega)]; exact List.getElem_mem _
            · exact ⟨by omega, by omega⟩⟩
          obtain ⟨r, hr⟩ : ∃ r : Nat, z % 5 = r := ⟨(z % 5).toNat, by omega⟩
          have hr5 : r < 5 := by omega
          have FW := Lib.hid (fun w => within_any z 5 w hz2.1 hz2.2 (by omega) (by omega))
          rw [hr] at FW
          have hpk : sepF len zs n = (sepB r).data.toList := by
            unfold sepF pick5
            rw [← hz, hr]; rfl
          have hF7 : (sepB r).size ≤ 7 := by rw [Lib.size_eq]; exact (sepB_ok r).2.2.2
          have hsc := sep_cell wr r hr5
          have hba : Below w.heap.size w (wr.alloc (.cells #[.string ⟨#[32]⟩, .string ⟨#[10]⟩, .string ⟨#[9, 10]⟩, .string ⟨#[32, 59, 120, 32, 40, 121, 10]⟩, .string ⟨#[32, 32]⟩] 9)) := HB.out.alloc HB.out.size _
          have HREL := Lib.hid (bk_blank (s := s) (f := sepF len zs) hlt hc HNN.out hpk.symm HT.out hba)
          obtain ⟨F, hF⟩ : ∃ F, F = sepB r := ⟨_, rfl⟩
          rw [← hF] at hF7 hsc HREL
          clear hpk hba hF
          by_cases hl : n < len
          · have q2 : decide ((n : Int) < (len : Int)) = true := decide_eq_true (by omega)
            obtain ⟨x, z', rfl, hcell, hI⟩ := row_get HZ.out HB.out hl
            have hzz : z' = z := by
              rcases HZ.out with ⟨h, _⟩ | ⟨x', hx, h1, h2, h3, h4, h5⟩
              · cases h
              · injection hx with hx
                subst hx
                have h6 := h4 n (by omega)
                have h7 := (HB.out.cell (World.block_lt_of_cell? w _ h6)).trans h6
                rw [h7] at hcell
                injection hcell with h8
                injection h8 with _ h8
                rw [hz, if_pos hl]; exact h8.symm
            subst hzz
            clear hz hr hI
            go_wp2_with fail
            refine (FW.out _).mono ?_
            rintro e w6 ⟨rfl, rfl⟩
            go_wp2_with fail
            go_roundw
            case rel => exact HREL.out
            case measure => simp [intOf]; omega
          · have q2 : decide ((n : Int) < (len : Int)) = false := decide_eq_false (by omega)
            rw [if_neg hl] at hz
            subst hz
            clear hr
            go_wp2_with fail
            refine (FW.out _).mono ?_
            rintro e w6 ⟨rfl, rfl⟩
            go_wp2_with fail
            go_roundw
            case rel => exact HREL.out
            case measure => simp [intOf]; omega
        · have q3 : ((c.toNat : Int) != 32) = true := by
            have h1 : ((c.toNat : Int) == 32) = (c == 32) := byte_eq c 32
            rw [bne, h1]; simpa using h32
          obtain ⟨i1, hi1⟩ : ∃ i1, i1 = i + 1 := ⟨_, rfl⟩
          obtain ⟨E, hE⟩ : ∃ E, s.extract i i1 = E := ⟨_, rfl⟩
          have hEl : E.data.toList = [c] := by
            rw [← hE, Lib.extract_data, show i1 - i = 1 by omega]
            rw [List.drop_eq_getElem_cons (by rw [← Lib.size_eq]; exact hlt)]
            have h1 := byte_at s i hlt
            rw [List.getElem?_eq_getElem (by rw [← Lib.size_eq]; exact hlt), hc] at h1
            injection h1 with h1
            rw [h1]; rfl
          have hE1 : E.size ≤ 1 := by rw [Lib.size_eq, hEl]; simp
          have HREL := Lib.hid (bk_other (s := s) (f := sepF len zs) hlt hc h32 hEl HT.out HB.out)
          rw [← HNN.out] at HREL
          have hi3 : ((i : Int) + 1) = (i1 : Int) := by omega
          have hi2 : i1 ≤ s.size := by omega
          have hi4 : i ≤ i1 := by omega
          rw [hi3] at HREL
          clear hEl hi1
          go_wp2_with fail
          go_roundw
          case rel => exact HREL.out
          case measure => simp [intOf]; omega
      · obtain rfl : i = s.size := by omega
        have q1 : decide ((s.size : Int) < (s.size : Int)) = false := decide_eq_false (by omega)
        have hTl : T.data.toList = rep (sepF len zs) 0 s.data.toList := by
          rw [HT.out, List.take_of_length_le]; rw [← Lib.size_eq]; exact Nat.le_refl _
        have FR1 := Lib.hid (fun w => read_any s w (by omega) n1 _ HN1.out)
        have FR2 := Lib.hid (fun w => read_any T w (by omega) n2 _ (by rw [hTl]; exact HN2.out))
        clear hTl
        go_wp2_with fail
        refine (FR1.out _).mono ?_
        rintro e w8 ⟨hb8, v8, rfl, hv8⟩
        have HB8 := Lib.hid (HB.out.trans (hb8.mono HB.out.size))
        obtain ⟨g, o, c8, rfl⟩ := hv8.some (by simp)
        have HV8 := Lib.hid hv8
        clear hb8 hv8 FR1
        simp only [List.length_cons, List.length_nil]
        go_wp2_with fail
        refine (FR2.out _).mono ?_
        rintro e w9 ⟨hb9, v9, rfl, hv9⟩
        have HB9 := Lib.hid (HB8.out.trans (hb9.mono HB8.out.size))
        obtain ⟨g2, o2, c9, rfl⟩ := hv9.some (by simp)
        simp only [List.length_cons, List.length_nil]
        obtain ⟨k5, t5, mv5, lv5, p5, ha5, e0, e1, e2', e3, e4⟩ := (HV8.out.keeps (Keeps.of_below hb9)).at 0 (by simp)
        obtain ⟨k6, t6, mv6, lv6, p6, ha6, f0, f1, f2, f3, f4⟩ := hv9.at 0 (by simp)
        simp only [Nat.zero_mul, Nat.add_zero] at e0 e1 e2' e3 e4 f0 f1 f2 f3 f4
        have hg : g < w9.heap.size := World.block_lt_of_cell? w9 _ e0
        have hg2 : g2 < w9.heap.size := World.block_lt_of_cell? w9 _ f0
        have hsa : (D.plc 0).same e2 = true := Dt.sim.same _ _ (Dt.sim.trans _ _ _ (Dt.sim.symm _ _ (Dt.sim.plc D 0)) HSM.out)
        have hsz1 := same_size _ _ (Dt.sim.same _ _ (Dt.sim.plc D 0))
        have hds := HDS.out
        have HX' := refsame_any 1000000 (by decide) (D.plc 0) e2 (by omega) _ _ _ _ w9.drew (Dt.At.keeps (Keeps.of_below (Below.refl _ _).drew) _ _ ha5) (Dt.At.keeps (Keeps.of_below (Below.refl _ _).drew) _ _ ha6)
        rw [hsa] at HX'
        have HX := Lib.hid HX'
        have E0 := Lib.hid e0
        have E1 := Lib.hid e1
        have E2 := Lib.hid e2'
        have E3 := Lib.hid e3
        have E4 := Lib.hid e4
        have F0 := Lib.hid f0
        have F1 := Lib.hid f1
        have F2 := Lib.hid f2
        have F3 := Lib.hid f3
        have F4 := Lib.hid f4
        clear HX' ha5 ha6 e0 e1 e2' e3 e4 f0 f1 f2 f3 f4 hv9 hb9 HV8 FR2 hsa hsz1 hds
        go_upto_region 20 with fail
        refine wp_region_noPanic ?_
        refine wp_region_held_drew (S := Below w9.heap.size w9) (by kernel_rfl) ((Below.refl _ _).drew) (fun hHeld => ?_)
        refine wpAnyH_take (i := 0) (v := Value.int .i64 0) rfl (by kernel_rfl) (by kernel_rfl) (by kernel_rfl) (fun _ _ _ h => h) (Or.inl ⟨rfl, fun w' hw' => ?_⟩) hHeld ?_
        · go_simp
        simp only [List.getElem_toArray, List.getElem_cons_succ, List.getElem_cons_zero, Act.put, List.setIfInBounds_toArray, List.set_cons_zero, List.set_cons_succ]
        refine wpAnyH_take (i := 1) (v := Value.bool true) rfl (by kernel_rfl) (by kernel_rfl) (by kernel_rfl) (fun _ _ _ h => h) (Or.inl ⟨rfl, fun w' hw' => ?_⟩) hHeld ?_
        · go_simp
        simp only [List.getElem_toArray, List.getElem_cons_succ, List.getElem_cons_zero, Act.put, List.setIfInBounds_toArray, List.set_cons_zero, List.set_cons_succ]
        refine wpAnyH_take (i := 2) (v := Value.bool true) rfl (by kernel_rfl) (by kernel_rfl) (by kernel_rfl) (fun _ _ _ h => h) (Or.inl ⟨rfl, fun w' hw' => ?_⟩) hHeld ?_
        · go_simp
        simp only [List.getElem_toArray, List.getElem_cons_succ, List.getElem_cons_zero, Act.put, List.setIfInBounds_toArray, List.set_cons_zero, List.set_cons_succ]
        refine wpAnyH_take (i := 3) (v := Value.int .i64 0) rfl (by kernel_rfl) (by kernel_rfl) (by kernel_rfl) (fun _ _ _ h => h) (Or.inl ⟨rfl, fun w' hw' => ?_⟩) hHeld ?_
        · go_simp
        simp only [List.getElem_toArray, List.getElem_cons_succ, List.getElem_cons_zero, Act.put, List.setIfInBounds_toArray, List.set_cons_zero, List.set_cons_succ]
        refine wpAnyH_take (i := 4) (v := Value.bool true) rfl (by kernel_rfl) (by kernel_rfl) (by kernel_rfl) (fun _ _ _ h => h) (Or.inl ⟨rfl, fun w' hw' => ?_⟩) hHeld ?_
        · go_simp
        simp only [List.getElem_toArray, List.getElem_cons_succ, List.getElem_cons_zero, Act.put, List.setIfInBounds_toArray, List.set_cons_zero, List.set_cons_succ]
        refine wpAnyH_take (i := 5) (v := Value.bool true) rfl (by kernel_rfl) (by kernel_rfl) (by kernel_rfl) (fun _ _ _ h => h) (Or.inl ⟨rfl, fun w' hw' => ?_⟩) hHeld ?_
        · go_simp
        simp only [List.getElem_toArray, List.getElem_cons_succ, List.getElem_cons_zero, Act.put, List.setIfInBounds_toArray, List.set_cons_zero, List.set_cons_succ]
        refine wpAnyH_take (i := 6) (v := Value.bool true) rfl (by kernel_rfl) (by kernel_rfl) (by kernel_rfl) (fun _ _ _ h => h) (Or.inl ⟨rfl, fun w' hw' => ?_⟩) hHeld ?_
        · go_simp
        simp only [List.getElem_toArray, List.getElem_cons_succ, List.getElem_cons_zero, Act.put, List.setIfInBounds_toArray, List.set_cons_zero, List.set_cons_succ]
        refine wpAnyH_take (i := 7) (v := Value.slice (some ⟨g, o, none⟩) 1 c8) rfl (by kernel_rfl) (by kernel_rfl) (by kernel_rfl) (fun _ _ _ h => h) (Or.inl ⟨rfl, fun w' hw' => ?_⟩) hHeld ?_
        · go_simp
        simp only [List.getElem_toArray, List.getElem_cons_succ, List.getElem_cons_zero, Act.put, List.setIfInBounds_toArray, List.set_cons_zero, List.set_cons_succ]
        refine wpAnyH_take (i := 8) (v := Value.int .i64 1) rfl (by kernel_rfl) (by kernel_rfl) (by kernel_rfl) (fun _ _ _ h => h) (Or.inl ⟨rfl, fun w' hw' => ?_⟩) hHeld ?_
        · go_simp
        simp only [List.getElem_toArray, List.getElem_cons_succ, List.getElem_cons_zero, Act.put, List.setIfInBounds_toArray, List.set_cons_zero, List.set_cons_succ]
        refine wpAnyH_take (i := 9) (v := Value.bool true) rfl (by kernel_rfl) (by kernel_rfl) (by kernel_rfl) (fun _ _ _ h => h) (Or.inl ⟨rfl, fun w' hw' => ?_⟩) hHeld ?_
        · go_simp
        simp only [List.getElem_toArray, List.getElem_cons_succ, List.getElem_cons_zero, Act.put, List.setIfInBounds_toArray, List.set_cons_zero, List.set_cons_succ]
        refine wpAnyH_take (i := 10) (v := Value.bool true) rfl (by kernel_rfl) (by kernel_rfl) (by kernel_rfl) (fun _ _ _ h => h) (Or.inl ⟨rfl, fun w' hw' => ?_⟩) hHeld ?_
        · go_simp
        simp only [List.getElem_toArray, List.getElem_cons_succ, List.getElem_cons_zero, Act.put, List.setIfInBounds_toArray, List.set_cons_zero, List.set_cons_succ]
        refine wpAnyH_take (i := 11) (v := Value.bool true) rfl (by kernel_rfl) (by kernel_rfl) (by kernel_rfl) (fun _ _ _ h => h) (Or.inl ⟨rfl, fun w' hw' => ?_⟩) hHeld ?_
        · go_simp
        simp only [List.getElem_toArray, List.getElem_cons_succ, List.getElem_cons_zero, Act.put, List.setIfInBounds_toArray, List.set_cons_zero, List.set_cons_succ]
        refine wpAnyH_take (i := 12) (v := Value.slice (some ⟨g2, o2, none⟩) 1 c9) rfl (by kernel_rfl) (by kernel_rfl) (by kernel_rfl) (fun _ _ _ h => h) (Or.inl ⟨rfl, fun w' hw' => ?_⟩) hHeld ?_
        · go_simp
        simp only [List.getElem_toArray, List.getElem_cons_succ, List.getElem_cons_zero, Act.put, List.setIfInBounds_toArray, List.set_cons_zero, List.set_cons_succ]
        refine wpAnyH_take (i := 13) (v := Value.int .i64 1) rfl (by kernel_rfl) (by kernel_rfl) (by kernel_rfl) (fun _ _ _ h => h) (Or.inl ⟨rfl, fun w' hw' => ?_⟩) hHeld ?_
        · go_simp
        simp only [List.getElem_toArray, List.getElem_cons_succ, List.getElem_cons_zero, Act.put, List.setIfInBounds_toArray, List.set_cons_zero, List.set_cons_succ]
        refine wpAnyH_take (i := 14) (v := Value.bool true) rfl (by kernel_rfl) (by kernel_rfl) (by kernel_rfl) (fun _ _ _ h => h) (Or.inl ⟨rfl, fun w' hw' => ?_⟩) hHeld ?_
        · go_simp
        simp only [List.getElem_toArray, List.getElem_cons_succ, List.getElem_cons_zero, Act.put, List.setIfInBounds_toArray, List.set_cons_zero, List.set_cons_succ]
        refine wpAnyH_take (i := 15) (v := Value.bool true) rfl (by kernel_rfl) (by kernel_rfl) (by kernel_rfl) (fun _ _ _ h => h) (Or.inl ⟨rfl, fun w' hw' => ?_⟩) hHeld ?_
        · go_simp
        simp only [List.getElem_toArray, List.getElem_cons_succ, List.getElem_cons_zero, Act.put, List.setIfInBounds_toArray, List.set_cons_zero, List.set_cons_succ]
        refine wpAnyH_take (i := 16) (v := Value.bool true) rfl (by kernel_rfl) (by kernel_rfl) (by kernel_rfl) (fun _ _ _ h => h) (Or.inl ⟨rfl, fun w' hw' => ?_⟩) hHeld ?_
        · go_simp
        simp only [List.getElem_toArray, List.getElem_cons_succ, List.getElem_cons_zero, Act.put, List.setIfInBounds_toArray, List.set_cons_zero, List.set_cons_succ]
        refine wpAnyH_take (i := 17) (v := Value.slice (some ⟨g, o, none⟩) 1 c8) rfl (by kernel_rfl) (by kernel_rfl) (by kernel_rfl) (fun _ _ _ h => h) (Or.inl ⟨rfl, fun w' hw' => ?_⟩) hHeld ?_
        · go_simp
        simp only [List.getElem_toArray, List.getElem_cons_succ, List.getElem_cons_zero, Act.put, List.setIfInBounds_toArray, List.set_cons_zero, List.set_cons_succ]
        refine wpAnyH_take (i := 18) (v := Value.pointer (some ⟨g, o, none⟩)) rfl (by kernel_rfl) (by kernel_rfl) (by kernel_rfl) (fun _ _ _ h => h) (Or.inl ⟨rfl, fun w' hw' => ?_⟩) hHeld ?_
        · go_simp
        simp only [List.getElem_toArray, List.getElem_cons_succ, List.getElem_cons_zero, Act.put, List.setIfInBounds_toArray, List.set_cons_zero, List.set_cons_succ]
        refine wpAnyH_take (i := 19) (v := Value.agg #[.int .i64 k5, .string t5, mv5, lv5, .int .i64 p5]) rfl (by kernel_rfl) (by kernel_rfl) (by kernel_rfl) (fun _ _ _ h => h) (Or.inl ⟨rfl, fun w' hw' => ?_⟩) hHeld ?_
        · have qE0 := (hw'.cell (p := ⟨g, o, none⟩) (by show g < w9.heap.size; omega)).trans E0.out; have qE1 := (hw'.cell (p := ⟨g, o + 1, none⟩) (by show g < w9.heap.size; omega)).trans E1.out; have qE2 := (hw'.cell (p := ⟨g, o + 2, none⟩) (by show g < w9.heap.size; omega)).trans E2.out; have qE3 := (hw'.cell (p := ⟨g, o + 3, none⟩) (by show g < w9.heap.size; omega)).trans E3.out; have qE4 := (hw'.cell (p := ⟨g, o + 4, none⟩) (by show g < w9.heap.size; omega)).trans E4.out; go_simp
        simp only [List.getElem_toArray, List.getElem_cons_succ, List.getElem_cons_zero, Act.put, List.setIfInBounds_toArray, List.set_cons_zero, List.set_cons_succ]
        refine wpAnyH_take (i := 20) (v := Value.slice (some ⟨g2, o2, none⟩) 1 c9) rfl (by kernel_rfl) (by kernel_rfl) (by kernel_rfl) (fun _ _ _ h => h) (Or.inl ⟨rfl, fun w' hw' => ?_⟩) hHeld ?_
        · go_simp
        simp only [List.getElem_toArray, List.getElem_cons_succ, List.getElem_cons_zero, Act.put, List.setIfInBounds_toArray, List.set_cons_zero, List.set_cons_succ]
        refine wpAnyH_take (i := 21) (v := Value.pointer (some ⟨g2, o2, none⟩)) rfl (by kernel_rfl) (by kernel_rfl) (by kernel_rfl) (fun _ _ _ h => h) (Or.inl ⟨rfl, fun w' hw' => ?_⟩) hHeld ?_
        · go_simp
        simp only [List.getElem_toArray, List.getElem_cons_succ, List.getElem_cons_zero, Act.put, List.setIfInBounds_toArray, List.set_cons_zero, List.set_cons_succ]
        refine wpAnyH_take (i := 22) (v := Value.agg #[.int .i64 k6, .string t6, mv6, lv6, .int .i64 p6]) rfl (by kernel_rfl) (by kernel_rfl) (by kernel_rfl) (fun _ _ _ h => h) (Or.inl ⟨rfl, fun w' hw' => ?_⟩) hHeld ?_
        · have qF0 := (hw'.cell (p := ⟨g2, o2, none⟩) (by show g2 < w9.heap.size; omega)).trans F0.out; have qF1 := (hw'.cell (p := ⟨g2, o2 + 1, none⟩) (by show g2 < w9.heap.size; omega)).trans F1.out; have qF2 := (hw'.cell (p := ⟨g2, o2 + 2, none⟩) (by show g2 < w9.heap.size; omega)).trans F2.out; have qF3 := (hw'.cell (p := ⟨g2, o2 + 3, none⟩) (by show g2 < w9.heap.size; omega)).trans F3.out; have qF4 := (hw'.cell (p := ⟨g2, o2 + 4, none⟩) (by show g2 < w9.heap.size; omega)).trans F4.out; go_simp
        simp only [List.getElem_toArray, List.getElem_cons_succ, List.getElem_cons_zero, Act.put, List.setIfInBounds_toArray, List.set_cons_zero, List.set_cons_succ]
        refine wpAnyH_ready (rs := [23]) (by kernel_rfl) (by simp) ?_
        refine (AllReadyH.cons rfl (fun K hK => ?_) AllReadyH.nil)
        go_simp
        refine HX.out.mono ?_
        rintro e w7 ⟨rfl, hb⟩
        have hS7 : Below w9.heap.size w9 w7 := (Below.refl w9.heap.size w9).drew.trans hb
        have HS7 := Lib.hid hS7
        refine hK.out _ _ hS7 (fun hHeld => ?_)
        clear hK K hb hS7
        try simp only [List.getElem_toArray, List.getElem_cons_succ, List.getElem_cons_zero, Act.put, List.setIfInBounds_toArray, List.set_cons_zero, List.set_cons_succ]
        refine wpAnyH_take (i := 24) (v := Value.bool true) rfl (by kernel_rfl) (by kernel_rfl) (by kernel_rfl) (fun _ _ _ h => h) (Or.inl ⟨rfl, fun w' hw' => ?_⟩) hHeld ?_
        · go_simp
        simp only [List.getElem_toArray, List.getElem_cons_succ, List.getElem_cons_zero, Act.put, List.setIfInBounds_toArray, List.set_cons_zero, List.set_cons_succ]
        refine wpAnyH_take (i := 25) (v := Value.bool true) rfl (by kernel_rfl) (by kernel_rfl) (by kernel_rfl) (fun _ _ _ h => h) (Or.inl ⟨rfl, fun w' hw' => ?_⟩) hHeld ?_
        · go_simp
        simp only [List.getElem_toArray, List.getElem_cons_succ, List.getElem_cons_zero, Act.put, List.setIfInBounds_toArray, List.set_cons_zero, List.set_cons_succ]
        refine wpAnyH_done (by kernel_rfl) ?_ _
        refine NoPanic.normal ?_
        clear hHeld
        go_wp2_with fail
        go_ret
        exact ⟨rfl, HB9.out.trans (HS7.out.mono HB9.out.size)⟩
end Go.Proofs.YtkjcbaikebdmmaaDoor
