/- The contract of digits: the digits of the limbs in use. -/
import Derived.Test.YtebadokchhnmfaaDoorP1
import Derived.Laws.MakeOwn
import Derived.Laws.BytesArg
namespace Go.Proofs.YtebadokchhnmfaaDoor
open Go.RowKit Go.BigM
set_option linter.unusedVariables false

/-- Bytes as cells. -/
def V (l : List UInt8) : Array Value := (l.map fun (c : UInt8) => Value.int .u8 (c.toNat : Int)).toArray
theorem V_size (l : List UInt8) : (V l).size = l.length := by simp [V]
theorem V_get (l : List UInt8) (j : Nat) (h : j < l.length) : (V l)[j]? = some (.int .u8 ((l[j]).toNat : Int)) := by
  unfold V
  rw [List.getElem?_toArray, List.getElem?_map, List.getElem?_eq_getElem h]; rfl
/-- A block of bytes: m that are 0, and D behind them. -/
def DRow (w : World) (h m : Nat) (D : List UInt8) : Prop := w.heap[h]? = some (.cells (V (List.replicate m 0 ++ D)) 5 (0, 0))
theorem DRow.free {w : World} {h m : Nat} {D : List UInt8} (k : DRow w h m D) (j : Nat) : w.frozen? ⟨h, j, none⟩ = false := frozen_of_row w h j _ _ k
theorem DRow.cell {w : World} {h m : Nat} {D : List UInt8} (k : DRow w h (m + 1) D) : w.cell? ⟨h, m, none⟩ = some (.int .u8 0) := by
  rw [cell_of_row w h m _ _ _ k, V_get _ m (by simp; omega)]
  rw [List.getElem_append_left (by simp)]
  simp
theorem DRow.put {w : World} {h m : Nat} {D : List UInt8} (k : DRow w h (m + 1) D) (c : UInt8) : w.setCell ⟨h, m, none⟩ (.int .u8 (c.toNat : Int)) = w.setRow h (V (List.replicate m 0 ++ c :: D)) := by
  rw [setCell_eq_setRow w h m _ _ _ _ k]
  congr 1
  unfold V
  rw [List.setIfInBounds_toArray, List.replicate_succ', List.append_assoc, List.map_append, List.map_append]
  rw [List.set_append_right _ _ (by simp)]
  simp
theorem DRow.set {w : World} {h m : Nat} {D : List UInt8} (k : DRow w h m D) (m' : Nat) (D' : List UInt8) : DRow (w.setRow h (V (List.replicate m' 0 ++ D'))) h m' D' := setRow_heap w h _ _ _ _ k
theorem made_V (n : Nat) : madeCells (Value.int .u8 0).cells n = V (List.replicate n 0) := by
  apply Array.ext
  · rw [size_madeCells, V_size, List.length_replicate]
  · intro i h1 h2
    simp [madeCells, V, Value.cells, Nat.mod_one]
theorem info5 : ∃ i, Tryd.prog.info? 5 = some i ∧ i.zero = some (.int .u8 0) ∧ i.size = 1 ∧ i.bytes = 1 := by
  have h : (Tryd.prog.info? 5).map (fun i => (i.zero, i.size, i.bytes)) = some (some (.int .u8 0), 1, 1) := by kernel_rfl
  cases hi : Tryd.prog.info? 5 with
  | none => rw [hi] at h; simp at h
  | some i => rw [hi] at h; simp at h; exact ⟨i, rfl, h.1, h.2.1, h.2.2⟩
theorem run_make_bytes (n : Nat) (x : Int) (hx : x = n) (hn : n ≤ 1000) (w : World) :
    (Instr.makeSlice 25 (.int .i64 x) (.int .i64 x)).run Tryd.prog w = .ok (.slice (some ⟨w.heap.size, 0, none⟩) n n) (w.alloc (.cells (V (List.replicate n 0)) 5)) := by
  obtain ⟨i, hi, hz, h1, h2⟩ := info5
  have := run_make (P := Tryd.prog) w 25 5 i (.int .u8 0) Tryd.underlying25 hi hz .i64 .i64 n n (by omega) (Int.le_refl _) (by rw [h2]; omega) (by omega)
  rw [h1, Nat.mul_one, made_V, Int.toNat_natCast] at this
  rw [hx]; exact this

theorem str_nums (D : List UInt8) : strOfNums (D.map fun c => (c.toNat : Int)) = ⟨D.toArray⟩ := by
  unfold strOfNums
  rw [List.map_map]
  have : ((fun n : Int => UInt8.ofNat n.toNat) ∘ fun c : UInt8 => (c.toNat : Int)) = id := by
    funext c; simp
  rw [this, List.map_id]
theorem run_string_of (w : World) (h : Nat) (D : List UInt8) (k : DRow w h 0 D) (n : Nat) (hn : D.length = n) :
    (convert 25 9 (.slice (some ⟨h, 0, none⟩) n n)).run Tryd.prog w = .ok (.string ⟨D.toArray⟩) w := by
  have := run_convert_bytes_arg (P := Tryd.prog) w 25 5 Tryd.underlying25 Tryd.underlying5 h 0 n n (D.map fun c => (c.toNat : Int)) (by simpa using hn) (fun i hi => by
    rw [Nat.zero_add, cell_of_row w h i _ _ _ k]
    have hi' : i < ([] ++ D).length := by simpa using (by omega : i < D.length)
    simp only [List.replicate_zero]
    rw [V_get _ i hi']
    simp only [List.nil_append] at hi' ⊢
    rw [List.getD_eq_getElem?_getD, List.getElem?_map, List.getElem?_eq_getElem hi']; rfl) 9 Tryd.underlying9
  rw [str_nums] at this
  exact this

/-- In the midst of writing the digits of limb i: D is written, m places are left, q is what is left of the limb r, j digits of it are written. -/
def DigInv (W : World) (h p : Nat) (L : List Nat) (i j : Nat) (r q : Nat) (av : Value) (wr : World) : Prop :=
  ∃ (m : Nat) (D : List UInt8), m + D.length = p ∧ av = .int .i64 m ∧ D.length = 9 * i + j ∧ (∀ c ∈ D, isD c) ∧ dval D + 10 ^ (9 * i + j) * q = lval (L.take i) + B ^ i * r ∧ q * 10 ^ j ≤ r ∧
    wr = W.setRow h (V (List.replicate m 0 ++ D))

theorem DigInv.step {W : World} {h p : Nat} {L : List Nat} {i j r q m : Nat} {D : List UInt8} {wr : World} (hh : DRow W h p []) (hm : m + 1 + D.length = p) (hD : D.length = 9 * i + j) (hd : ∀ c ∈ D, isD c)
    (hv : dval D + 10 ^ (9 * i + j) * q = lval (L.take i) + B ^ i * r) (hq : q * 10 ^ j ≤ r) (hw : wr = W.setRow h (V (List.replicate (m + 1) 0 ++ D))) :
    DigInv W h p L i (j + 1) r (q / 10) (.int .i64 m) (wr.setCell ⟨h, m, none⟩ (.int .u8 (48 + (q : Int) % 10))) := by
  have hc : (UInt8.ofNat (48 + q % 10)).toNat = 48 + q % 10 := by
    rw [UInt8.toNat_ofNat_of_lt' (by show _ < 256; omega)]
  have hrow : DRow wr h (m + 1) D := by rw [hw]; exact hh.set _ _
  refine ⟨m, UInt8.ofNat (48 + q % 10) :: D, by simp; omega, rfl, by simp; omega, ?_, ?_, ?_, ?_⟩
  · intro c hcm
    rcases List.mem_cons.1 hcm with rfl | hcm
    · unfold isD; rw [hc]; omega
    · exact hd c hcm
  · rw [dval_cons, hc, hD]
    have e1 : 10 ^ (9 * i + (j + 1)) * (q / 10) = 10 ^ (9 * i + j) * (10 * (q / 10)) := by
      rw [show 9 * i + (j + 1) = (9 * i + j) + 1 by omega, Nat.pow_succ, Nat.mul_assoc]
    have e2 : 10 ^ (9 * i + j) * q = 10 ^ (9 * i + j) * (q % 10) + 10 ^ (9 * i + j) * (10 * (q / 10)) := by
      rw [← Nat.mul_add, Nat.mod_add_div]
    rw [e1, Nat.add_sub_cancel_left, Nat.mul_comm (q % 10)]
    omega
  · have : q / 10 * 10 ^ (j + 1) ≤ q * 10 ^ j := by
      rw [Nat.pow_succ, ← Nat.mul_assoc, Nat.mul_right_comm]
      exact Nat.mul_le_mul_right _ (by omega)
    omega
  · have e : (48 + (q : Int) % 10) = ((UInt8.ofNat (48 + q % 10)).toNat : Int) := by rw [hc]; omega
    rw [e, hrow.put, hw, setRow_setRow]

/-- At the head of the inner loop; of the outer one. -/
def InInv (W : World) (h p : Nat) (L : List Nat) (i r : Nat) (av rv jv : Value) (wr : World) : Prop :=
  ∃ j q : Nat, j ≤ 9 ∧ jv = .int .i64 j ∧ rv = .int .u32 q ∧ q < 1000000000 ∧ DigInv W h p L i j r q av wr
def OutInv (W : World) (h p : Nat) (L : List Nat) (u : Nat) (av iv : Value) (wr : World) : Prop :=
  ∃ (i m : Nat) (D : List UInt8), i ≤ u ∧ iv = .int .i64 i ∧ m + D.length = p ∧ av = .int .i64 m ∧ D.length = 9 * i ∧ (∀ c ∈ D, isD c) ∧ dval D = lval (L.take i) ∧
    wr = W.setRow h (V (List.replicate m 0 ++ D))
theorem DigInv.done {W : World} {h p : Nat} {L : List Nat} {i r q u : Nat} {av : Value} {wr : World} (k : DigInv W h p L i 9 r q av wr) (hr : r = lg L i) (hr' : r < 1000000000) (hi : i < u) :
    OutInv W h p L u av (.int .i64 ((i : Int) + 1)) wr := by
  obtain ⟨m, D, h1, h2, h3, h4, h5, h6, h7⟩ := k
  have hq : q = 0 := by
    have : q * 10 ^ 9 ≤ r := h6
    omega
  subst hq
  refine ⟨i + 1, m, D, by omega, by go_num, h1, h2, by omega, h4, ?_, h7⟩
  rw [lval_take_lg, ← hr]; omega

set_option maxHeartbeats 1000000 in
set_option maxRecDepth 100000 in
theorem digits_any (g off : Nat) (L : List Nat) (hL : L.length = 46) (sL : Small L) (w : World) (hg : g < w.heap.size) (hc : ∀ j, j < 46 → w.cell? ⟨g, off + j, none⟩ = some (.int .u32 (lg L j : Nat))) :
    Calls Tryd.prog 48 #[.pointer (some ⟨g, off, none⟩)] w fun e w' => ∃ D : List UInt8, e = .returned (.string ⟨D.toArray⟩) ∧ (∀ c ∈ D, isD c) ∧ dval D = lval L ∧ D.length ≤ 414 ∧ Below w.heap.size w w' := by
  have HC := Lib.hid hc
  have hu := usedOf_le L
  rw [hL] at hu
  have HL := Lib.hid hL
  have HU := Lib.hid (lval_used L)
  obtain ⟨u, eu⟩ : ∃ u, u = usedOf L := ⟨_, rfl⟩
  rw [← eu] at hu HU
  have EU := Lib.hid eu
  clear hc hL eu
  have hmk := run_make_bytes (u * 9) ((u : Int) * 9) (by omega) (by omega)
  go_enter Tryd.func48, Tryd.ntmps48
  go_wp2_with fail
  refine (used_any g off L HL.out _ HC.out).mono ?_
  rintro e w' ⟨rfl, rfl⟩
  rw [← EU.out]
  go_wp2_with fail
  have r0 : DRow (w.alloc (.cells (V (List.replicate (u * 9) 0)) 5)) w.heap.size (u * 9) [] := by unfold DRow; rw [List.append_nil]; exact alloc_get w _ _ rfl
  have b0 : Below w.heap.size w (w.alloc (.cells (V (List.replicate (u * 9) 0)) 5)) := (Below.refl _ _).alloc (Nat.le_refl _) _
  have c0 : ∀ j, j < 46 → (w.alloc (.cells (V (List.replicate (u * 9) 0)) 5)).cell? ⟨g, off + j, none⟩ = some (.int .u32 (lg L j : Nat)) := fun j hj => by rw [b0.cell hg]; exact HC.out j hj
  generalize w.alloc (.cells (V (List.replicate (u * 9) 0)) 5) = W at r0 b0 c0 ⊢
  have R0 := Lib.hid r0
  have B0 := Lib.hid b0
  have C0 := Lib.hid c0
  clear r0 b0 c0 hmk
  refine (window_z g off u _ (by omega) (by omega) W).mono ?_
  rintro e w' ⟨rfl, rfl⟩
  go_wp2_with fail
  go_loopw [5, 19] (fun av iv wr => OutInv W w.heap.size (u * 9) L u av iv wr) (fun _ iv _ => u - (intOf iv).toNat)
  case atStart => exact ⟨0, u * 9, [], Nat.zero_le _, rfl, rfl, by simp, rfl, by intro c hc; simp at hc, rfl, (setRow_self _ _ _ _ _ R0.out).symm⟩
  case round =>
    obtain ⟨i, m, D, hi, rfl, hm, rfl, hD, hd, hv, hw⟩ := hrel
    have H1 := Lib.hid hm
    have H2 := Lib.hid hD
    have H3 := Lib.hid hd
    have H4 := Lib.hid hv
    have H5 := Lib.hid hw
    clear hm hD hd hv hw
    obtain ⟨wo, rfl⟩ : ∃ wo : World, wo = wr := ⟨_, rfl⟩
    by_cases hlt : i < u
    · have hcell : wo.cell? ⟨g, off + i, none⟩ = some (.int .u32 (lg L i : Nat)) := by
        rw [H5.out, cell_setRow_other _ _ _ _ (by show g ≠ w.heap.size; omega)]; exact C0.out i (by omega)
      obtain ⟨r, hr⟩ : ∃ r, r = lg L i := ⟨_, rfl⟩
      have hrl := lg_lt sL i
      rw [← hr] at hcell hrl
      have HR := Lib.hid hr
      clear hr
      go_wp2_with fail
      go_loopw [5, 7, 23] (fun av rv jv wr => InInv W w.heap.size (u * 9) L i r av rv jv wr) (fun _ _ jv _ => 9 - (intOf jv).toNat)
      case atStart => exact ⟨0, r, by omega, rfl, rfl, hrl, m, D, H1.out, rfl, H2.out, H3.out, by rw [H4.out, B_pow, Nat.add_zero], by omega, H5.out⟩
      case round =>
        obtain ⟨j, q, hj, rfl, rfl, hq, hinv⟩ := hrel
        by_cases hj9 : j < 9
        · obtain ⟨m2, D2, k1, rfl, k3, k4, k5, k6, k7⟩ := hinv
          cases m2 with
          | zero => exfalso; have := H1.out; have := H2.out; omega
          | succ m2 =>
            have hrow : DRow wr w.heap.size (m2 + 1) D2 := by rw [k7]; exact R0.out.set _ _
            have hcw := hrow.cell
            have hfw := hrow.free m2
            have HN := Lib.hid (DigInv.step R0.out k1 k3 k4 k5 k6 k7)
            have hm2 : m2 < u * 9 := by omega
            clear k1 k3 k4 k5 k6 k7 hrow
            go_wp2_with fail
            go_roundw
            case rel => exact ⟨j + 1, q / 10, by omega, by go_num, int_congr (by omega), by omega, HN.out⟩
            case measure => simp [intOf]; omega
        · obtain rfl : j = 9 := by omega
          have HN := Lib.hid (DigInv.done hinv HR.out hrl hlt)
          clear hinv hj9
          go_wp2_with fail
          go_roundw
          case rel => exact HN.out
          case measure => simp [intOf]; omega
    · obtain rfl : i = u := by omega
      have hm0 : m = 0 := by have := H1.out; have := H2.out; omega
      subst hm0
      have hDl : D.length = i * 9 := by have := H2.out; omega
      have hrow : DRow wo w.heap.size 0 D := by rw [H5.out]; exact R0.out.set _ _
      have hcv := run_string_of wo w.heap.size D hrow (i * 9) hDl
      have HB : Hid (Below w.heap.size w wo) := by show Below _ _ _; rw [H5.out]; exact below_setRow B0.out _ _ (Nat.le_refl _)
      have HV : Hid (dval D = lval L) := by show _ = _; rw [H4.out]; exact HU.out
      have HLn : Hid (D.length ≤ 414) := by show _ ≤ _; omega
      clear hlt hDl hrow
      go_wp2_with fail
      go_ret
      exact ⟨D, rfl, H3.out, HV.out, HLn.out, HB.out⟩
end Go.Proofs.YtebadokchhnmfaaDoor
