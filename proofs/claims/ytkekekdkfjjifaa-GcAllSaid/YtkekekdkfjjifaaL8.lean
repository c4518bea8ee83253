/- One step on both heaps. -/
import Derived.Test.YtkekekdkfjjifaaZS
import Derived.Deep.CutBlock
namespace Go.Proofs.Ytkekekdkfjjifaa
open Go Go.RowKit
set_option linter.unusedVariables false
set_option linter.unusedSimpArgs false
def PaPost (t : Int) (ps ns : List Int) (os : List Ob) (m b : Nat) (G : Option Nat) (w : World) (e : Ending) (w' : World) : Prop :=
  ((fitF t ps ns = false ∨ ps.any (bey os) = true ∨ ¬ total os + sizeF ps ns ≤ m) ∧ RetV (pair2 0 false) w e w') ∨
    (fitF t ps ns = true ∧ ps.any (bey os) = false ∧ total os + sizeF ps ns ≤ m ∧ RetHp (pair2 (total os : Nat) true) b G (os ++ [newO t.toNat ps ns]) m w e w')
theorem alloc_p {w : World} {b : Nat} {G : Option Nat} {os : List Ob} {m : Nat} (h : HpO w b G os m) (t : Int) (ps ns : List Int) (pv nv : Value) (hp : IsS w pv ps) (hn : IsS w nv ns) (ap : Apart pv b G) (an : Apart nv b G) (hpl : ps.length ≤ 1000000) (hnl : ns.length ≤ 1000000)
    (hpr : ∀ p ∈ ps, -9223372036854775808 ≤ p ∧ p ≤ 9223372036854775807) : Calls Try.prog 28 #[.pointer (some ⟨b, 0, none⟩), .int .i64 t, pv, nv] w (PaPost t ps ns os m b G w) := by
  cases hf : fitF t ps ns with
  | false => exact (alloc_unfit h t ps ns pv nv hp hn hpl hnl hpr (.inl hf)).mono fun e w' hr => .inl ⟨.inl hf, hr⟩
  | true =>
    cases hb : ps.any (bey os) with
    | true => exact (alloc_unfit h t ps ns pv nv hp hn hpl hnl hpr (.inr hb)).mono fun e w' hr => .inl ⟨.inr (.inl hb), hr⟩
    | false =>
      obtain ⟨tn, rfl, _⟩ := fitF_spec hf
      by_cases hr : total os + sizeF ps ns ≤ m
      · exact (alloc_yes h tn ps ns pv nv hp hn ap an hpr hf hb hr).mono fun e w' h9 => .inr ⟨hf, hb, hr, by rw [Int.toNat_natCast]; exact h9⟩
      · exact (alloc_full h tn ps ns pv nv hp hn hpr hf hb hr).mono fun e w' h9 => .inl ⟨.inr (.inr hr), h9⟩
/-- Alloc on both. -/
theorem both_alloc {B w w1 w2 : World} {b x : Nat} {G : Option Nat} {C : Nat → Nat} {qs : List Nat} {os : List Ob} {m : Nat} {t : Int} {ps ns : List Int} {w0 : World} {e1 e2 : Ending} (h : Pr B w b x G C qs os m) (h0 : Below w.heap.size w w0)
    (h1 : PaPost t ps ns os m b G w0 e1 w1) (h2 : RaPost t ps ns os m x C (total os) (sizeF ps ns) w1 e2 w2) : ∃ (a : Int) (is : Bool), e1 = .returned (pair2 a is) ∧ e2 = .returned (pair2 a is) ∧ ∀ e, e = .returned (.bool true) → RetPr (.bool true) B b x m G C w e w2 := by
  rcases h1 with ⟨n1, r1⟩ | ⟨f1, f2, f3, r1⟩
  · rcases h2 with ⟨_, r2⟩ | ⟨g1, g2, g3, _⟩
    · refine ⟨0, false, r1.1, r2.1, fun e he => RetPr.of_below h he ?_⟩
      have s0 := h0.size
      have s1 := r1.2.size
      exact h0.trans ((r1.2.mono s0).trans (r2.2.mono (by omega)))
    · rcases n1 with n | n | n
      · rw [n] at g1; cases g1
      · rw [n] at g2; cases g2
      · exact absurd g3 n
  · rcases h2 with ⟨n2, _⟩ | ⟨g1, g2, g3, r2⟩
    · rcases n2 with n | n | n
      · rw [n] at f1; cases f1
      · rw [n] at f2; cases f2
      · exact absurd f3 n
    · exact ⟨_, true, r1.1, r2.1, fun e he => h.both h0 r1 r2 (Below.refl _ _) he⟩
theorem tdw {y d : Int} (hd : 1 ≤ d) (hy : I64 y) : IntKind.i64.wrap (y.tdiv d) = y.tdiv d ∧ wrap64 (y.tdiv d) = y.tdiv d := by
  have := tdiv_bd hd hy
  unfold I64 at this
  rw [IntKind.wrap_i64]
  unfold wrap64
  omega
theorem PaPost.fr {t : Int} {ps ns : List Int} {os : List Ob} {m b : Nat} {G : Option Nat} {w w' : World} {e : Ending} (h : PaPost t ps ns os m b G w e w') : Fr (own b G) w w' ∧ ∃ a is, e = .returned (pair2 a is) := by
  rcases h with ⟨_, h1, h2⟩ | ⟨_, _, _, h1, G', h2, h3, h4⟩
  · exact ⟨Fr.of_below h2, 0, false, h1⟩
  · exact ⟨h3, _, true, h1⟩
theorem apart_own {w wr : World} {b : Nat} {G : Option Nat} {v : Value} {n : Nat} {xs : List Value} (h : wr.ownsRow w.heap.size 3 1 v n xs) (hb : b < w.heap.size) (hG : ∀ k, G = some k → k < w.heap.size) : Apart v b G := fun ao n' c g o e hn e2 => by
  have h1 : v.ownBlock = some g := by rw [e, e2]; rfl
  have := (h.lt g h1).1
  exact ⟨by omega, fun e => by have := hG g e; omega⟩
def PtInv (W : World) (p : Nat) (v iv : Value) (wr : World) : Prop :=
  ∃ (j : Nat) (l : List Int), j ≤ p ∧ l.length = j ∧ iv = .int .i64 (j : Int) ∧ wr.ownsRow W.heap.size 3 1 v j (l.map (Value.int .i64)) ∧ (∀ y ∈ l, -3 ≤ y ∧ y ≤ 1000000) ∧ Below W.heap.size W wr
def NmInv (W : World) (q : Nat) (v1 : Value) (p : Nat) (l : List Int) (v iv : Value) (wr : World) : Prop :=
  ∃ (j : Nat) (ls : List Int), j ≤ q ∧ ls.length = j ∧ iv = .int .i64 (j : Int) ∧ wr.ownsRow W.heap.size 3 1 v j (ls.map (Value.int .i64)) ∧ wr.ownsRow W.heap.size 3 1 v1 p (l.map (Value.int .i64)) ∧ Apt v1 v ∧ Below W.heap.size W wr
theorem NmInv.step {W w9 w8 : World} {q p j : Nat} {v1 v v' : Value} {l ls : List Int} {z : Int} (h1 : j + 1 ≤ q) (h2 : ls.length = j) (hv : w8.ownsRow W.heap.size 3 1 v j (ls.map (Value.int .i64))) (hv1 : w8.ownsRow W.heap.size 3 1 v1 p (l.map (Value.int .i64))) (ha : Apt v1 v) (hb : Below W.heap.size W w8)
    (ho : w9.ownsRow W.heap.size 3 1 v' (j + 1) (ls.map (Value.int .i64) ++ [.int .i64 z])) (hg : w8.grownBy w9 v.ownBlock) (hk : ∀ k, v'.ownBlock = some k → v.ownBlock = some k ∨ w8.heap.size ≤ k) :
    w9.ownsRow W.heap.size 3 1 v' (j + 1) ((ls ++ [z]).map (Value.int .i64)) ∧ w9.ownsRow W.heap.size 3 1 v1 p (l.map (Value.int .i64)) ∧ Apt v1 v' ∧ Below W.heap.size W w9 :=
  ⟨by rw [List.map_append]; exact ho, own_grown hv1 hg ha.symm, (ha.symm.app hv1 hk).symm, below_grown hb hv hg⟩
set_option maxHeartbeats 16000000 in
set_option maxRecDepth 100000 in
theorem step_r {B w : World} {b x : Nat} {G : Option Nat} {C : Nat → Nat} {qs : List Nat} {os : List Ob} {m : Nat} (h : Pr B w b x G C qs os m) (n raw : Int) (hn : I64 n) (hraw : I64 raw) : Calls Try.prog 31 #[.pointer (some ⟨b, 0, none⟩), .pointer (some ⟨x, 0, none⟩), .int .i64 n, .int .i64 raw] w (RetPr (.bool true) B b x m G C w) := by
  have HH := Lib.hid h
  obtain ⟨k, hk⟩ : ∃ k, k = n.tdiv 16 := ⟨_, rfl⟩
  have hkb : I64 k := by rw [hk]; exact tdiv_bd (by omega) hn
  have hk60 : -1152921504606846976 ≤ k ∧ k ≤ 1152921504606846976 := by
    have h1 := Int.mul_tdiv_add_tmod n 16
    have h2 := Int.tmod_lt_of_pos n (show (0 : Int) < 16 by omega)
    have h3 := Int.lt_tmod_of_pos n (show (0 : Int) < 16 by omega)
    have h4 := hn.1
    have h5 := hn.2
    omega
  have HK60 := Lib.hid hk60
  clear hk60
  have hkw : IntKind.i64.wrap (n.tdiv 16) = k := by rw [hk]; exact (tdw (by omega) hn).1
  have hkw2 : wrap64 (n.tdiv 16) = k := by rw [hk]; exact (tdw (by omega) hn).2
  obtain ⟨s, hs, -, F⟩ := within_at n 16 hn (by omega) (by omega) w
  have F16 := Lib.hid F
  clear F h hk
  go_enter Try.func31, Try.ntmps31
  go_upto_block 0 with (refine F16.out.mono ?_; rintro e w1 ⟨rfl, rfl⟩)
  go_step
  go_step
  go_cut [25] from 26 (fun s25 wx => s25 = .bool (decide (s ≤ 8)) ∧ w = wx)
  case first =>
    by_cases h0 : s = 0
    · subst h0
      go_wp2_with fail
      go_meet
      case rel => exact ⟨rfl, rfl⟩
    have z0 : ((s : Int) == 0) = false := by simp; omega
    by_cases h1 : s = 1
    · subst h1
      go_wp2_with fail
      go_meet
      case rel => exact ⟨rfl, rfl⟩
    have z1 : ((s : Int) == 1) = false := by simp; omega
    by_cases h2 : s = 2
    · subst h2
      go_wp2_with fail
      go_meet
      case rel => exact ⟨rfl, rfl⟩
    have z2 : ((s : Int) == 2) = false := by simp; omega
    by_cases h3 : s = 3
    · subst h3
      go_wp2_with fail
      go_meet
      case rel => exact ⟨rfl, rfl⟩
    have z3 : ((s : Int) == 3) = false := by simp; omega
    by_cases h4 : s = 4
    · subst h4
      go_wp2_with fail
      go_meet
      case rel => exact ⟨rfl, rfl⟩
    have z4 : ((s : Int) == 4) = false := by simp; omega
    by_cases h5 : s = 5
    · subst h5
      go_wp2_with fail
      go_meet
      case rel => exact ⟨rfl, rfl⟩
    have z5 : ((s : Int) == 5) = false := by simp; omega
    by_cases h6 : s = 6
    · subst h6
      go_wp2_with fail
      go_meet
      case rel => exact ⟨rfl, rfl⟩
    have z6 : ((s : Int) == 6) = false := by simp; omega
    by_cases h7 : s = 7
    · subst h7
      go_wp2_with fail
      go_meet
      case rel => exact ⟨rfl, rfl⟩
    have z7 : ((s : Int) == 7) = false := by simp; omega
    by_cases h8 : s = 8
    · subst h8
      go_wp2_with fail
      go_meet
      case rel => exact ⟨rfl, rfl⟩
    have z8 : ((s : Int) == 8) = false := by simp; omega
    have e9 : decide (s ≤ 8) = false := decide_eq_false (by omega)
    go_wp2_with fail
    go_meet
    case rel => exact ⟨by rw [e9], rfl⟩
  case rest =>
    obtain ⟨rfl, rfl⟩ := hcut
    by_cases h8 : s ≤ 8
    · rw [decide_eq_true h8]
      clear h8 hkw hkw2 F16
      obtain ⟨T0, hT0, -, F⟩ := within_at k 7 hkb (by omega) (by omega) w
      have F7 := Lib.hid F
      clear F
      obtain ⟨T1, hT1⟩ : ∃ T1 : Nat, T1 = T0 + 1 := ⟨_, rfl⟩
      have hT1i : 1 + (T0 : Int) = (T1 : Int) := by omega
      have hT1b : T1 ≤ 8 := by omega
      obtain ⟨k7, hk7⟩ : ∃ k7, k7 = k.tdiv 7 := ⟨_, rfl⟩
      have hk7b : I64 k7 := by rw [hk7]; exact tdiv_bd (by omega) hkb
      have hk7w : IntKind.i64.wrap (k.tdiv 7) = k7 := by rw [hk7]; exact (tdw (by omega) hkb).1
      have hk7v : wrap64 (k.tdiv 7) = k7 := by rw [hk7]; exact (tdw (by omega) hkb).2
      obtain ⟨k28, hk28⟩ : ∃ k28, k28 = k.tdiv 28 := ⟨_, rfl⟩
      have hk28b : I64 k28 := by rw [hk28]; exact tdiv_bd (by omega) hkb
      have hk28w : IntKind.i64.wrap (k.tdiv 28) = k28 := by rw [hk28]; exact (tdw (by omega) hkb).1
      have hk28v : wrap64 (k.tdiv 28) = k28 := by rw [hk28]; exact (tdw (by omega) hkb).2
      obtain ⟨p0, hp0, -, F⟩ := within_at k7 4 hk7b (by omega) (by omega) w
      have F4 := Lib.hid F
      clear F
      obtain ⟨q0, hq0, -, F⟩ := within_at k28 3 hk28b (by omega) (by omega) w
      have F3 := Lib.hid F
      clear F hk7b hk28b hT0 hT1 hk7 hk28
      go_wp2_with fail
      refine F7.out.mono ?_
      rintro e w1 ⟨rfl, rfl⟩
      clear F7
      go_wp2_with fail
      refine F4.out.mono ?_
      rintro e w1 ⟨rfl, rfl⟩
      clear F4
      go_wp2_with fail
      refine F3.out.mono ?_
      rintro e w1 ⟨rfl, rfl⟩
      clear F3
      go_upto_block 1 with fail
      go_cut [13, 14] from 21 (fun s13 s14 wx => ∃ p q : Nat, p < 4 ∧ q < 3 ∧ s13 = .int .i64 (p : Int) ∧ s14 = .int .i64 (q : Int) ∧ w = wx)
      case first =>
        by_cases t2 : T1 = 2
        · subst t2
          go_wp2_with fail
          go_meet
          case rel => exact ⟨2, 0, by omega, by omega, rfl, rfl, rfl⟩
        have y2 : ((T1 : Int) == 2) = false := by simp; omega
        by_cases t5 : T1 = 5
        · subst t5
          go_wp2_with fail
          go_meet
          case rel => exact ⟨1, 0, by omega, by omega, rfl, rfl, rfl⟩
        have y5 : ((T1 : Int) == 5) = false := by simp; omega
        by_cases t6 : T1 = 6
        · subst t6
          go_wp2_with fail
          go_meet
          case rel => exact ⟨1, 1, by omega, by omega, rfl, rfl, rfl⟩
        have y6 : ((T1 : Int) == 6) = false := by simp; omega
        go_wp2_with fail
        go_meet
        case rel => exact ⟨p0, q0, hp0, hq0, rfl, rfl, rfl⟩
      case rest =>
        obtain ⟨p1, q, hp1, hq, rfl, rfl, rfl⟩ := hcut
        clear hk7w hk7v hk28w hk28v
        obtain ⟨r, hr, -, F⟩ := within_at k 23 hkb (by omega) (by omega) w
        have F23 := Lib.hid F
        clear F hp0 hq0
        go_wp2_with fail
        refine F23.out.mono ?_
        rintro e w1 ⟨rfl, rfl⟩
        clear F23
        go_upto_if 53 with fail
        go_cut [10, 13] from 21 (fun s10 s13 wx => ∃ T p : Nat, T ≤ 8 ∧ p ≤ 62 ∧ s10 = .int .i64 (T : Int) ∧ s13 = .int .i64 (p : Int) ∧ w = wx)
        case first =>
          by_cases hr0 : r = 0
          · subst hr0
            obtain ⟨ka, hka⟩ : ∃ ka, ka = k.tdiv 23 := ⟨_, rfl⟩
            have hkab : I64 ka := by rw [hka]; exact tdiv_bd (by omega) hkb
            have hkaw : IntKind.i64.wrap (k.tdiv 23) = ka := by rw [hka]; exact (tdw (by omega) hkb).1
            have hkav : wrap64 (k.tdiv 23) = ka := by rw [hka]; exact (tdw (by omega) hkb).2
            obtain ⟨kc, hkc⟩ : ∃ kc, kc = k.tdiv 5 := ⟨_, rfl⟩
            have hkcb : I64 kc := by rw [hkc]; exact tdiv_bd (by omega) hkb
            have hkcw : IntKind.i64.wrap (k.tdiv 5) = kc := by rw [hkc]; exact (tdw (by omega) hkb).1
            have hkcv : wrap64 (k.tdiv 5) = kc := by rw [hkc]; exact (tdw (by omega) hkb).2
            obtain ⟨T2, hT2, -, F⟩ := within_at ka 9 hkab (by omega) (by omega) w
            have F9 := Lib.hid F
            clear F
            obtain ⟨p2, hp2, -, F⟩ := within_at kc 63 hkcb (by omega) (by omega) w
            have F63 := Lib.hid F
            clear F hkab hkcb hka hkc
            go_wp2_with fail
            refine F9.out.mono ?_
            rintro e w1 ⟨rfl, rfl⟩
            clear F9
            go_wp2_with fail
            refine F63.out.mono ?_
            rintro e w1 ⟨rfl, rfl⟩
            clear F63
            go_wp2_with fail
            go_meet
            case rel => exact ⟨T2, p2, by omega, by omega, rfl, rfl, rfl⟩
          · have yr : ((r : Int) == 0) = false := by simp; omega
            go_wp2_with fail
            go_meet
            case rel => exact ⟨T1, p1, hT1b, by omega, rfl, rfl, rfl⟩
        case rest =>
          obtain ⟨T, p, hT, hp, rfl, rfl, rfl⟩ := hcut
          clear hp1 hr hT1i hT1b
          obtain ⟨k3, hk3⟩ : ∃ k3, k3 = k.tdiv 3 := ⟨_, rfl⟩
          have hk3b : -1152921504606846976 ≤ k3 ∧ k3 ≤ 1152921504606846976 := by
            have h1 := Int.mul_tdiv_add_tmod k 3
            have h2 := Int.tmod_lt_of_pos k (show (0 : Int) < 3 by omega)
            have h3 := Int.lt_tmod_of_pos k (show (0 : Int) < 3 by omega)
            have h4 := HK60.out
            rw [hk3]; omega
          have hk3w : IntKind.i64.wrap (k.tdiv 3) = k3 := by rw [hk3]; exact (tdw (by omega) hkb).1
          have hk3v : wrap64 (k.tdiv 3) = k3 := by rw [hk3]; exact (tdw (by omega) hkb).2
          obtain ⟨ka, hka⟩ : ∃ ka, ka = k.tdiv 11 := ⟨_, rfl⟩
          have hkab : I64 ka := by rw [hka]; exact tdiv_bd (by omega) hkb
          have hkaw : IntKind.i64.wrap (k.tdiv 11) = ka := by rw [hka]; exact (tdw (by omega) hkb).1
          have hkav : wrap64 (k.tdiv 11) = ka := by rw [hka]; exact (tdw (by omega) hkb).2
          clear hk3 hka
          have HB0 := Lib.hid (Below.refl w.heap.size w)
          have H0 : Hid (PtInv w p (.slice none 0 0) (.int .i64 0) w) := ⟨0, [], Nat.zero_le _, rfl, rfl, World.ownsRow_nil _ _ _ _, (fun y hy => by cases hy), Below.refl _ _⟩
          have hbw : b < w.heap.size := HH.out.hl.hp.1.lt
          have htm : total os ≤ 1000000 := by have := HH.out.hl.hp.2.2.2; omega
          go_wp2_with fail
          go_loopw [11, 15] (fun v iv wr => PtInv w p v iv wr) (fun _ iv _ => p - (intOf iv).toNat)
          case atStart => exact H0.out
          case round =>
            clear H0
            obtain ⟨j, l, hj, hl, rfl, how, hbd, hbel⟩ := hrel
            have HO := Lib.hid how
            have HB := Lib.hid hbel
            have HBD := Lib.hid hbd
            have HLJ := Lib.hid hl
            clear how hbel hbd hl
            by_cases hjp : j < p
            · have q1 : decide ((j : Int) < (p : Int)) = true := decide_eq_true (by omega)
              have F := Lib.hid (pick_r (HH.out.rh.below HB.out) (k3 + 7 * (j : Int)) (by unfold I64; omega))
              have hpb := pickF_bd (os := os) (n := k3 + 7 * (j : Int)) htm
              generalize pickF os (k3 + 7 * (j : Int)) = z at F hpb
              have hj9 : j + 1 ≤ 1000000000 := by omega
              go_wp2_with fail
              refine F.out.mono ?_
              rintro e w5 ⟨rfl, hb5⟩
              have HB5 := Lib.hid (HB.out.trans (hb5.mono HB.out.size))
              have HO5 := Lib.hid (own_below HO.out hb5)
              have HO6 := Lib.hid (HO5.out.alloc (.cells #[.int .i64 z] 3))
              have HB6 := Lib.hid (HB5.out.alloc HB5.out.size (.cells #[.int .i64 z] 3))
              have HSR := Lib.hid (srcA_one (d := .int .i64 z) (T := 3) (alloc_at w5 (.cells #[.int .i64 z] 3)) rfl 1)
              have HST : Hid (∀ (v' : Value) (w9 : World), w9.ownsRow w.heap.size 3 1 v' (j + 1) (l.map (Value.int .i64) ++ [.int .i64 z]) → Below w.heap.size w w9 → PtInv w p v' (.int .i64 ((j : Int) + 1)) w9) := fun v' w9 h1 h2 =>
                ⟨j + 1, l ++ [z], by omega, by rw [List.length_append, HLJ.out]; rfl, by go_num, by rw [List.map_append]; exact h1, fun y hy => by
                  rcases List.mem_append.1 hy with h | h
                  · exact HBD.out y h
                  · simp at h; rw [h]; exact hpb, h2⟩
              clear hb5 F HO HO5
              go_wp2_with (refine wpList_wantedR (by rfl) fun K hK => ?_; refine wp_appI (Operand.tmp 65) (Operand.tmp 73) rfl w.heap.size u11 j _ rfl HO6.out (.slice (some ⟨w5.heap.size, 0, none⟩) 1 1) rfl 1 _ HSR.out hj9 HB6.out.size ?_; intro v' w9 hown9 hg9 hv9; have HM := Lib.hid (HST.out v' w9 hown9 (below_grown HB6.out HO6.out hg9)); clear hown9 hg9 hv9 HST HO6 HSR; refine hK _ _ ?_; clear hK K)
              go_roundw
              case rel => exact HM.out
              case measure => simp [intOf]; omega
            · obtain rfl : j = p := by omega
              have q1 : decide ((j : Int) < (j : Int)) = false := decide_eq_false (by omega)
              have H0 : Hid (NmInv w q u11 j l (.slice none 0 0) (.int .i64 0) wr) := ⟨0, [], Nat.zero_le _, rfl, rfl, World.ownsRow_nil _ _ _ _, HO.out, fun k hk e => by simp [Value.ownBlock] at e, HB.out⟩
              obtain ⟨z, hz, -, -⟩ := within_at ka 2 hkab (by omega) (by omega) w
              have F2 : Hid (∃ z : Nat, z < 2 ∧ ∀ W, Calls Try.prog 57 #[.int .i64 ka, .int .i64 2] W fun e w' => e = .returned (.int .i64 (z : Int)) ∧ W = w') := by
                have h3 := Int.emod_nonneg ka (show (2 : Int) ≠ 0 by omega)
                have h4 := Int.emod_lt_of_pos ka (show (0 : Int) < 2 by omega)
                refine ⟨(ka % 2).toNat, by omega, fun W => ?_⟩
                rw [show (((ka % 2).toNat : Nat) : Int) = ka % 2 by omega]
                exact within_any _ 2 W hkab.1 hkab.2 (by omega) (by omega)
              clear z hz
              obtain ⟨z, hz, F2⟩ := F2.out
              have FZ := Lib.hid F2
              have F29 : Hid (∃ z : Nat, z < 29 ∧ ∀ W, Calls Try.prog 57 #[.int .i64 k, .int .i64 29] W fun e w' => e = .returned (.int .i64 (z : Int)) ∧ W = w') := by
                have h3 := Int.emod_nonneg k (show (29 : Int) ≠ 0 by omega)
                have h4 := Int.emod_lt_of_pos k (show (0 : Int) < 29 by omega)
                refine ⟨(k % 29).toNat, by omega, fun W => ?_⟩
                rw [show (((k % 29).toNat : Nat) : Int) = k % 29 by omega]
                exact within_any _ 29 W hkb.1 hkb.2 (by omega) (by omega)
              obtain ⟨y29, hy29, F29⟩ := F29.out
              have FY := Lib.hid F29
              clear F2 F29 HO HB hk3w hk3v hk3b
              by_cases t6 : T = 6
              · subst t6
                have e6 : ((6 : Nat) : Int) = 6 := rfl
                rw [e6]
                clear e6
                go_wp2_with fail
                go_loopw [12, 16] (fun v iv wr => NmInv w q u11 j l v iv wr) (fun _ iv _ => q - (intOf iv).toNat)
                case atStart => exact H0.out
                case round =>
                  clear H0
                  obtain ⟨i, ls, hi, hls, rfl, how, how1, hap, hbel⟩ := hrel
                  have HO := Lib.hid how
                  have HO1 := Lib.hid how1
                  have HAP := Lib.hid hap
                  have HB := Lib.hid hbel
                  have HLS := Lib.hid hls
                  clear how how1 hap hbel hls
                  by_cases hiq : i < q
                  · have q1 : decide ((i : Int) < (q : Int)) = true := decide_eq_true (by omega)
                    have hi9 : i + 1 ≤ 1000000000 := by omega
                    have HO6 := Lib.hid (HO.out.alloc (.cells #[.int .i64 (z : Nat)] 3))
                    have HO16 := Lib.hid (HO1.out.alloc (.cells #[.int .i64 (z : Nat)] 3))
                    have HB6 := Lib.hid (HB.out.alloc HB.out.size (.cells #[.int .i64 (z : Nat)] 3))
                    have HSR := Lib.hid (srcA_one (d := .int .i64 (z : Nat)) (T := 3) (alloc_at wr (.cells #[.int .i64 (z : Nat)] 3)) rfl 1)
                    have hst : (0 : Nat) < i + 1 := by omega
                    have FIN : Hid (∀ (v' : Value) (w9 : World), w9.ownsRow w.heap.size 3 1 v' (i + 1) ((ls ++ [(z : Int)]).map (Value.int .i64)) → w9.ownsRow w.heap.size 3 1 u11 j (l.map (Value.int .i64)) → Apt u11 v' → Below w.heap.size w w9 → NmInv w q u11 j l v' (.int .i64 ((i : Int) + 1)) w9) := fun v' w9 h1 h2 h3 h4 =>
                      ⟨i + 1, ls ++ [(z : Int)], by omega, by rw [List.length_append, HLS.out]; rfl, by go_num, h1, h2, h3, h4⟩
                    have FST : Hid (∀ (g c : Nat) (w9 : World), w9.ownsRow w.heap.size 3 1 (Value.slice (some ⟨g, 0, none⟩) (i + 1) c) (i + 1) ((ls ++ [(z : Int)]).map (Value.int .i64)) → w9.ownsRow w.heap.size 3 1 u11 j (l.map (Value.int .i64)) → Apt u11 (Value.slice (some ⟨g, 0, none⟩) (i + 1) c) → Below w.heap.size w w9 → NmInv w q u11 j l (Value.slice (some ⟨g, 0, none⟩) (i + 1) c) (Value.int .i64 ((i : Int) + 1)) (w9.setCell ⟨g, i, none⟩ (.int .i64 raw))) := fun g c w9 h1 h2 h3 h4 =>
                      ⟨i + 1, (ls ++ [(z : Int)]).set i raw, by omega, by rw [List.length_set, List.length_append, HLS.out]; rfl, by go_num, by rw [List.map_set]; exact own_set h1 rfl i (by rw [List.length_map, List.length_append, HLS.out]; simp) _, own_fr (F := fun k => k = g) h2 (Fr.setCell (F := fun k => k = g) (p := ⟨g, i, none⟩) (Fr.refl _ _) rfl _) (fun k hk e => h3 k hk (by rw [e]; rfl)), h3, h4.setCell (p := ⟨g, i, none⟩) (h1.lt g rfl).1 _⟩
                    have HCL : Hid (∀ (w9 : World) (v' : Value), w9.ownsRow w.heap.size 3 1 v' (i + 1) ((ls ++ [(z : Int)]).map (Value.int .i64)) → ∃ g c y, v' = .slice (some ⟨g, 0, none⟩) (i + 1) c ∧ w9.frozen? ⟨g, i, none⟩ = false ∧ w9.cell? ⟨g, i, none⟩ = some (.int .i64 y)) := fun w9 v' h => by
                      obtain ⟨g, c, e, _, _, hf, hc⟩ := own_at h hst
                      exact ⟨g, c, _, e, hf i, hc i (by rw [List.length_append, HLS.out]; simp)⟩
                    by_cases hy0 : y29 = 0
                    · have yy : ((y29 : Int) == 0) = true := by rw [hy0]; rfl
                      clear hy0
                      go_wp2_with fail
                      refine (FZ.out _).mono ?_
                      rintro e w5 ⟨rfl, rfl⟩
                      go_wp2_with (refine wpList_wantedR (by rfl) fun K hK => ?_; refine wp_appI (Operand.tmp 80) (Operand.tmp 84) rfl w.heap.size u12 i _ rfl HO6.out (.slice (some ⟨wr.heap.size, 0, none⟩) 1 1) rfl 1 _ HSR.out hi9 HB6.out.size ?_; intro v' w9 hown9 hg9 hv9; have HM := Lib.hid (NmInv.step (W := w) (q := q) (z := (z : Int)) (by omega) HLS.out HO6.out HO16.out HAP.out HB6.out hown9 hg9 hv9); obtain ⟨g9, c9, y9, hv9f, hfz9, hcl9⟩ := HCL.out w9 v' HM.out.1; subst hv9f; clear hown9 hg9 hv9 HO6 HO16 HSR HCL; refine hK _ _ ?_; clear hK K)
                      refine (FY.out _).mono ?_
                      rintro e w5 ⟨rfl, rfl⟩
                      have HREL := Lib.hid (FST.out g9 c9 w9 HM.out.1 HM.out.2.1 HM.out.2.2.1 HM.out.2.2.2)
                      go_wp2_with fail
                      go_roundw
                      case rel => exact HREL.out
                      case measure => simp [intOf]; omega
                    · have yy : ((y29 : Int) == 0) = false := by simp; omega
                      go_wp2_with fail
                      refine (FZ.out _).mono ?_
                      rintro e w5 ⟨rfl, rfl⟩
                      go_wp2_with (refine wpList_wantedR (by rfl) fun K hK => ?_; refine wp_appI (Operand.tmp 80) (Operand.tmp 84) rfl w.heap.size u12 i _ rfl HO6.out (.slice (some ⟨wr.heap.size, 0, none⟩) 1 1) rfl 1 _ HSR.out hi9 HB6.out.size ?_; intro v' w9 hown9 hg9 hv9; have HM := Lib.hid (NmInv.step (W := w) (q := q) (z := (z : Int)) (by omega) HLS.out HO6.out HO16.out HAP.out HB6.out hown9 hg9 hv9); obtain ⟨g9, c9, y9, hv9f, hfz9, hcl9⟩ := HCL.out w9 v' HM.out.1; subst hv9f; clear hown9 hg9 hv9 HO6 HO16 HSR HCL; refine hK _ _ ?_; clear hK K)
                      refine (FY.out _).mono ?_
                      rintro e w5 ⟨rfl, rfl⟩
                      have HREL := Lib.hid (FIN.out _ w9 HM.out.1 HM.out.2.1 HM.out.2.2.1 HM.out.2.2.2)
                      go_wp2_with fail
                      go_roundw
                      case rel => exact HREL.out
                      case measure => simp [intOf]; omega
                  · obtain rfl : i = q := by omega
                    have q1 : decide ((i : Int) < (i : Int)) = false := decide_eq_false (by omega)
                    have hgl := HH.out.hl.hp.1.glt
                    have IS1 := Lib.hid (own_isS HO1.out)
                    have IS2 := Lib.hid (own_isS HO.out)
                    have AP1 := Lib.hid (apart_own HO1.out hbw (fun k hk => (hgl k hk).1) : Apart u11 b G)
                    have AP2 := Lib.hid (apart_own HO.out hbw (fun k hk => (hgl k hk).1) : Apart u12 b G)
                    have HR := Lib.hid (HH.out.below HB.out)
                    have hll : l.length ≤ 1000000 := by rw [HLJ.out]; omega
                    have hsl : ls.length ≤ 1000000 := by rw [HLS.out]; omega
                    have F22 := Lib.hid (alloc_p HR.out.hl.hp (6 : Int) l ls u11 u12 IS1.out IS2.out AP1.out AP2.out hll hsl (fun y hy => by have := HBD.out y hy; omega))
                    have F33 : Hid (∀ w1, Fr (own b G) wr w1 → Calls Try.prog 59 #[.pointer (some ⟨x, 0, none⟩), .int .i64 (6 : Int), u11, u12] w1 (RaPost (6 : Int) l ls os m x C (total os) (sizeF l ls) w1)) := fun w1 hf =>
                      ralloc_r (HR.out.rh.fr hf (fun k hk => by rcases hk with rfl | hk; exact HR.out.cb; exact HR.out.cg k hk)) (6 : Int) l ls u11 u12
                        (IS1.out.fr hf (fun ao n' c g o e1 e2 e3 h => by rcases h with h | h; exact (AP1.out ao n' c g o e1 e2 e3).1 h; exact (AP1.out ao n' c g o e1 e2 e3).2 h))
                        (IS2.out.fr hf (fun ao n' c g o e1 e2 e3 h => by rcases h with h | h; exact (AP2.out ao n' c g o e1 e2 e3).1 h; exact (AP2.out ao n' c g o e1 e2 e3).2 h)) hll hsl
                    clear hgl hll hsl
                    go_wp2_with fail
                    refine F22.out.mono ?_
                    intro e w1 hpa
                    have HPA := Lib.hid hpa
                    obtain ⟨hfr, a, is, he⟩ := hpa.fr
                    have F34 := Lib.hid (F33.out w1 hfr)
                    rw [he]
                    have HE := Lib.hid he
                    clear hpa hfr he F22 F33
                    simp only [pair2]
                    go_wp2_with fail
                    refine F34.out.mono ?_
                    intro e2 w2 hra
                    obtain ⟨a', is', g1, g2, hfin⟩ := both_alloc HH.out HB.out HPA.out hra
                    rw [HE.out] at g1
                    have g3 : a = a' ∧ is = is' := by
                      simp only [pair2, Ending.returned.injEq, Value.tuple.injEq] at g1
                      simpa using g1
                    obtain ⟨rfl, rfl⟩ := g3
                    have HFIN := Lib.hid hfin
                    rw [g2]
                    clear hra g1 g2 hfin F34 HPA HE
                    simp only [pair2]
                    cases is with
                    | true =>
                      go_wp2_with fail
                      go_ret
                      exact HFIN.out _ rfl
                    | false =>
                      go_wp2_with fail
                      go_ret
                      exact HFIN.out _ rfl
              · have z6 : ((T : Int) != 6) = true := by simp; omega
                go_wp2_with fail
                go_loopw [12, 16] (fun v iv wr => NmInv w q u11 j l v iv wr) (fun _ iv _ => q - (intOf iv).toNat)
                case atStart => exact H0.out
                case round =>
                  clear H0
                  obtain ⟨i, ls, hi, hls, rfl, how, how1, hap, hbel⟩ := hrel
                  have HO := Lib.hid how
                  have HO1 := Lib.hid how1
                  have HAP := Lib.hid hap
                  have HB := Lib.hid hbel
                  have HLS := Lib.hid hls
                  clear how how1 hap hbel hls
                  by_cases hiq : i < q
                  · have q1 : decide ((i : Int) < (q : Int)) = true := decide_eq_true (by omega)
                    have hi9 : i + 1 ≤ 1000000000 := by omega
                    have HO6 := Lib.hid (HO.out.alloc (.cells #[.int .i64 (z : Nat)] 3))
                    have HO16 := Lib.hid (HO1.out.alloc (.cells #[.int .i64 (z : Nat)] 3))
                    have HB6 := Lib.hid (HB.out.alloc HB.out.size (.cells #[.int .i64 (z : Nat)] 3))
                    have HSR := Lib.hid (srcA_one (d := .int .i64 (z : Nat)) (T := 3) (alloc_at wr (.cells #[.int .i64 (z : Nat)] 3)) rfl 1)
                    have hst : (0 : Nat) < i + 1 := by omega
                    have FIN : Hid (∀ (v' : Value) (w9 : World), w9.ownsRow w.heap.size 3 1 v' (i + 1) ((ls ++ [(z : Int)]).map (Value.int .i64)) → w9.ownsRow w.heap.size 3 1 u11 j (l.map (Value.int .i64)) → Apt u11 v' → Below w.heap.size w w9 → NmInv w q u11 j l v' (.int .i64 ((i : Int) + 1)) w9) := fun v' w9 h1 h2 h3 h4 =>
                      ⟨i + 1, ls ++ [(z : Int)], by omega, by rw [List.length_append, HLS.out]; rfl, by go_num, h1, h2, h3, h4⟩
                    have FST : Hid (∀ (g c : Nat) (w9 : World), w9.ownsRow w.heap.size 3 1 (Value.slice (some ⟨g, 0, none⟩) (i + 1) c) (i + 1) ((ls ++ [(z : Int)]).map (Value.int .i64)) → w9.ownsRow w.heap.size 3 1 u11 j (l.map (Value.int .i64)) → Apt u11 (Value.slice (some ⟨g, 0, none⟩) (i + 1) c) → Below w.heap.size w w9 → NmInv w q u11 j l (Value.slice (some ⟨g, 0, none⟩) (i + 1) c) (Value.int .i64 ((i : Int) + 1)) (w9.setCell ⟨g, i, none⟩ (.int .i64 raw))) := fun g c w9 h1 h2 h3 h4 =>
                      ⟨i + 1, (ls ++ [(z : Int)]).set i raw, by omega, by rw [List.length_set, List.length_append, HLS.out]; rfl, by go_num, by rw [List.map_set]; exact own_set h1 rfl i (by rw [List.length_map, List.length_append, HLS.out]; simp) _, own_fr (F := fun k => k = g) h2 (Fr.setCell (F := fun k => k = g) (p := ⟨g, i, none⟩) (Fr.refl _ _) rfl _) (fun k hk e => h3 k hk (by rw [e]; rfl)), h3, h4.setCell (p := ⟨g, i, none⟩) (h1.lt g rfl).1 _⟩
                    have HCL : Hid (∀ (w9 : World) (v' : Value), w9.ownsRow w.heap.size 3 1 v' (i + 1) ((ls ++ [(z : Int)]).map (Value.int .i64)) → ∃ g c y, v' = .slice (some ⟨g, 0, none⟩) (i + 1) c ∧ w9.frozen? ⟨g, i, none⟩ = false ∧ w9.cell? ⟨g, i, none⟩ = some (.int .i64 y)) := fun w9 v' h => by
                      obtain ⟨g, c, e, _, _, hf, hc⟩ := own_at h hst
                      exact ⟨g, c, _, e, hf i, hc i (by rw [List.length_append, HLS.out]; simp)⟩
                    have HRELF := Lib.hid FST.out
                    go_wp2_with fail
                    refine (FZ.out _).mono ?_
                    rintro e w5 ⟨rfl, rfl⟩
                    go_wp2_with (refine wpList_wantedR (by rfl) fun K hK => ?_; refine wp_appI (Operand.tmp 80) (Operand.tmp 84) rfl w.heap.size u12 i _ rfl HO6.out (.slice (some ⟨wr.heap.size, 0, none⟩) 1 1) rfl 1 _ HSR.out hi9 HB6.out.size ?_; intro v' w9 hown9 hg9 hv9; have HM := Lib.hid (NmInv.step (W := w) (q := q) (z := (z : Int)) (by omega) HLS.out HO6.out HO16.out HAP.out HB6.out hown9 hg9 hv9); obtain ⟨g9, c9, y9, hv9f, hfz9, hcl9⟩ := HCL.out w9 v' HM.out.1; subst hv9f; clear hown9 hg9 hv9 HO6 HO16 HSR HCL; refine hK _ _ ?_; clear hK K)
                    go_roundw
                    case rel => exact HRELF.out g9 c9 w9 HM.out.1 HM.out.2.1 HM.out.2.2.1 HM.out.2.2.2
                    case measure => simp [intOf]; omega
                  · obtain rfl : i = q := by omega
                    have q1 : decide ((i : Int) < (i : Int)) = false := decide_eq_false (by omega)
                    have hgl := HH.out.hl.hp.1.glt
                    have IS1 := Lib.hid (own_isS HO1.out)
                    have IS2 := Lib.hid (own_isS HO.out)
                    have AP1 := Lib.hid (apart_own HO1.out hbw (fun k hk => (hgl k hk).1) : Apart u11 b G)
                    have AP2 := Lib.hid (apart_own HO.out hbw (fun k hk => (hgl k hk).1) : Apart u12 b G)
                    have HR := Lib.hid (HH.out.below HB.out)
                    have hll : l.length ≤ 1000000 := by rw [HLJ.out]; omega
                    have hsl : ls.length ≤ 1000000 := by rw [HLS.out]; omega
                    have F22 := Lib.hid (alloc_p HR.out.hl.hp (T : Int) l ls u11 u12 IS1.out IS2.out AP1.out AP2.out hll hsl (fun y hy => by have := HBD.out y hy; omega))
                    have F33 : Hid (∀ w1, Fr (own b G) wr w1 → Calls Try.prog 59 #[.pointer (some ⟨x, 0, none⟩), .int .i64 (T : Int), u11, u12] w1 (RaPost (T : Int) l ls os m x C (total os) (sizeF l ls) w1)) := fun w1 hf =>
                      ralloc_r (HR.out.rh.fr hf (fun k hk => by rcases hk with rfl | hk; exact HR.out.cb; exact HR.out.cg k hk)) (T : Int) l ls u11 u12
                        (IS1.out.fr hf (fun ao n' c g o e1 e2 e3 h => by rcases h with h | h; exact (AP1.out ao n' c g o e1 e2 e3).1 h; exact (AP1.out ao n' c g o e1 e2 e3).2 h))
                        (IS2.out.fr hf (fun ao n' c g o e1 e2 e3 h => by rcases h with h | h; exact (AP2.out ao n' c g o e1 e2 e3).1 h; exact (AP2.out ao n' c g o e1 e2 e3).2 h)) hll hsl
                    clear hgl hll hsl
                    go_wp2_with fail
                    refine F22.out.mono ?_
                    intro e w1 hpa
                    have HPA := Lib.hid hpa
                    obtain ⟨hfr, a, is, he⟩ := hpa.fr
                    have F34 := Lib.hid (F33.out w1 hfr)
                    rw [he]
                    have HE := Lib.hid he
                    clear hpa hfr he F22 F33
                    simp only [pair2]
                    go_wp2_with fail
                    refine F34.out.mono ?_
                    intro e2 w2 hra
                    obtain ⟨a', is', g1, g2, hfin⟩ := both_alloc HH.out HB.out HPA.out hra
                    rw [HE.out] at g1
                    have g3 : a = a' ∧ is = is' := by
                      simp only [pair2, Ending.returned.injEq, Value.tuple.injEq] at g1
                      simpa using g1
                    obtain ⟨rfl, rfl⟩ := g3
                    have HFIN := Lib.hid hfin
                    rw [g2]
                    clear hra g1 g2 hfin F34 HPA HE
                    simp only [pair2]
                    cases is with
                    | true =>
                      go_wp2_with fail
                      go_ret
                      exact HFIN.out _ rfl
                    | false =>
                      go_wp2_with fail
                      go_ret
                      exact HFIN.out _ rfl
    · rw [decide_eq_false h8]
      have hk7b : I64 (k.tdiv 7) := tdiv_bd (by omega) hkb
      obtain ⟨k7, hk7⟩ : ∃ k7, k7 = k.tdiv 7 := ⟨_, rfl⟩
      have hk7w : IntKind.i64.wrap (k.tdiv 7) = k7 := by rw [hk7]; exact (tdw (by omega) hkb).1
      have hk7v : wrap64 (k.tdiv 7) = k7 := by rw [hk7]; exact (tdw (by omega) hkb).2
      rw [← hk7] at hk7b
      obtain ⟨k5, hk5⟩ : ∃ k5, k5 = k.tdiv 5 := ⟨_, rfl⟩
      have hk5b : I64 k5 := by rw [hk5]; exact tdiv_bd (by omega) hkb
      have hk5w : IntKind.i64.wrap (k.tdiv 5) = k5 := by rw [hk5]; exact (tdw (by omega) hkb).1
      have hk5v : wrap64 (k.tdiv 5) = k5 := by rw [hk5]; exact (tdw (by omega) hkb).2
      have htm : total os ≤ 1000000 := by have := HH.out.hl.hp.2.2.2; omega
      have hpa := pickF_bd (os := os) (n := k) htm
      have hpb := pickF_bd (os := os) (n := k5) htm
      have FA : Hid (∀ W, Rh W x C qs os m → Calls Try.prog 58 #[.pointer (some ⟨x, 0, none⟩), .int .i64 k] W (RetV (.int .i64 (pickF os k)) W)) := fun W h => pick_r h k hkb
      have FB : Hid (∀ W, Rh W x C qs os m → Calls Try.prog 58 #[.pointer (some ⟨x, 0, none⟩), .int .i64 k5] W (RetV (.int .i64 (pickF os k5)) W)) := fun W h => pick_r h k5 hk5b
      generalize pickF os k = pa at FA hpa
      generalize pickF os k5 = pb at FB hpb
      have F4 : Hid (∃ z : Nat, z < 4 ∧ ∀ W, Calls Try.prog 57 #[.int .i64 k7, .int .i64 4] W fun e w' => e = .returned (.int .i64 (z : Int)) ∧ W = w') := by
        have h3 := Int.emod_nonneg k7 (show (4 : Int) ≠ 0 by omega)
        have h4 := Int.emod_lt_of_pos k7 (show (0 : Int) < 4 by omega)
        refine ⟨(k7 % 4).toNat, by omega, fun W => ?_⟩
        rw [show (((k7 % 4).toNat : Nat) : Int) = k7 % 4 by omega]
        exact within_any _ 4 W hk7b.1 hk7b.2 (by omega) (by omega)
      obtain ⟨v4, hv4, F⟩ := F4.out
      have FV := Lib.hid F
      have HR0 := Lib.hid HH.out.rh
      clear F F4 hk7 hk5 hkw hkw2
      by_cases hs9 : s = 9
      · subst hs9
        obtain ⟨iv, hiv⟩ : ∃ iv : Int, iv = (v4 : Int) - 1 := ⟨_, rfl⟩
        have hiv2 : (v4 : Int) - 1 = iv := hiv.symm
        have hivb : -1 ≤ iv ∧ iv ≤ 3 := by omega
        clear hiv
        go_wp2_with fail
        refine (FA.out w HR0.out).mono ?_
        rintro e w1 ⟨rfl, hb1⟩
        have HB1 := Lib.hid hb1
        have HR1 := Lib.hid (HR0.out.below hb1)
        clear hb1
        go_wp2_with fail
        refine (FV.out _).mono ?_
        rintro e w9 ⟨rfl, rfl⟩
        go_wp2_with fail
        refine (FB.out w1 HR1.out).mono ?_
        rintro e w2 ⟨rfl, hb2⟩
        have HB2 := Lib.hid (HB1.out.trans (hb2.mono HB1.out.size))
        clear hb2 HB1
        have HP2 := Lib.hid (HH.out.below HB2.out)
        have F31 := Lib.hid (set_p HP2.out.hl.hp pa iv pb (by omega) (by omega) (by omega) (by omega) (by omega) (by omega))
        go_wp2_with fail
        refine F31.out.mono ?_
        intro e w3 hr
        have HTP := Lib.hid hr
        obtain ⟨hfr, is, he⟩ := hr.fr
        have HR3 := Lib.hid (HP2.out.rh.fr hfr (fun k hk => by rcases hk with rfl | hk; exact HP2.out.cb; exact HP2.out.cg k hk))
        rw [he]
        have HE := Lib.hid he
        clear hfr hr he F31
        go_wp2_with fail
        refine (FA.out w3 HR3.out).mono ?_
        rintro e4 w4 ⟨rfl, hb4⟩
        have HB4 := Lib.hid hb4
        have HR4 := Lib.hid (HR3.out.below hb4)
        clear hb4
        go_wp2_with fail
        refine (FV.out _).mono ?_
        rintro e w9 ⟨rfl, rfl⟩
        go_wp2_with fail
        refine (FB.out w4 HR4.out).mono ?_
        rintro e5 w5 ⟨rfl, hb5⟩
        have HB5 := Lib.hid (HB4.out.trans (hb5.mono HB4.out.size))
        have HR5 := Lib.hid (HR4.out.below hb5)
        clear hb5 HB4
        have F34 := Lib.hid (rset_p HR5.out pa iv pb)
        go_wp2_with fail
        refine F34.out.mono ?_
        intro e6 w6 hr
        obtain ⟨is', g1, g2, hfin⟩ := both_two HH.out HB2.out HTP.out HB5.out hr
        rw [HE.out] at g1
        have g3 : is = is' := by
          simp only [Ending.returned.injEq, Value.bool.injEq] at g1
          exact g1
        subst g3
        have HFIN := Lib.hid hfin
        rw [g2]
        clear hr g1 g2 hfin F34 HTP HE
        cases is with
        | true =>
          go_wp2_with fail
          go_ret
          exact HFIN.out _ rfl
        | false =>
          go_wp2_with fail
          go_ret
          exact HFIN.out _ rfl
      by_cases hs10 : s = 10
      · subst hs10
        obtain ⟨iv, hiv⟩ : ∃ iv : Int, iv = (v4 : Int) - 1 := ⟨_, rfl⟩
        have hiv2 : (v4 : Int) - 1 = iv := hiv.symm
        have hivb : -1 ≤ iv ∧ iv ≤ 3 := by omega
        clear hiv
        go_wp2_with fail
        refine (FA.out w HR0.out).mono ?_
        rintro e w1 ⟨rfl, hb1⟩
        have HB1 := Lib.hid hb1
        have HR1 := Lib.hid (HR0.out.below hb1)
        clear hb1
        go_wp2_with fail
        refine (FV.out _).mono ?_
        rintro e w9 ⟨rfl, rfl⟩
        go_wp2_with fail
        refine (FB.out w1 HR1.out).mono ?_
        rintro e w2 ⟨rfl, hb2⟩
        have HB2 := Lib.hid (HB1.out.trans (hb2.mono HB1.out.size))
        clear hb2 HB1
        have HP2 := Lib.hid (HH.out.below HB2.out)
        have F31 := Lib.hid (set_p HP2.out.hl.hp pa iv pb (by omega) (by omega) (by omega) (by omega) (by omega) (by omega))
        go_wp2_with fail
        refine F31.out.mono ?_
        intro e w3 hr
        have HTP := Lib.hid hr
        obtain ⟨hfr, is, he⟩ := hr.fr
        have HR3 := Lib.hid (HP2.out.rh.fr hfr (fun k hk => by rcases hk with rfl | hk; exact HP2.out.cb; exact HP2.out.cg k hk))
        rw [he]
        have HE := Lib.hid he
        clear hfr hr he F31
        go_wp2_with fail
        refine (FA.out w3 HR3.out).mono ?_
        rintro e4 w4 ⟨rfl, hb4⟩
        have HB4 := Lib.hid hb4
        have HR4 := Lib.hid (HR3.out.below hb4)
        clear hb4
        go_wp2_with fail
        refine (FV.out _).mono ?_
        rintro e w9 ⟨rfl, rfl⟩
        go_wp2_with fail
        refine (FB.out w4 HR4.out).mono ?_
        rintro e5 w5 ⟨rfl, hb5⟩
        have HB5 := Lib.hid (HB4.out.trans (hb5.mono HB4.out.size))
        have HR5 := Lib.hid (HR4.out.below hb5)
        clear hb5 HB4
        have F34 := Lib.hid (rset_p HR5.out pa iv pb)
        go_wp2_with fail
        refine F34.out.mono ?_
        intro e6 w6 hr
        obtain ⟨is', g1, g2, hfin⟩ := both_two HH.out HB2.out HTP.out HB5.out hr
        rw [HE.out] at g1
        have g3 : is = is' := by
          simp only [Ending.returned.injEq, Value.bool.injEq] at g1
          exact g1
        subst g3
        have HFIN := Lib.hid hfin
        rw [g2]
        clear hr g1 g2 hfin F34 HTP HE
        cases is with
        | true =>
          go_wp2_with fail
          go_ret
          exact HFIN.out _ rfl
        | false =>
          go_wp2_with fail
          go_ret
          exact HFIN.out _ rfl
      by_cases hs11 : s = 11
      · subst hs11
        obtain ⟨iv, hiv⟩ : ∃ iv : Int, iv = (v4 : Int) - 1 := ⟨_, rfl⟩
        have hiv2 : (v4 : Int) - 1 = iv := hiv.symm
        have hivb : -1 ≤ iv ∧ iv ≤ 3 := by omega
        clear hiv
        go_wp2_with fail
        refine (FA.out w HR0.out).mono ?_
        rintro e w1 ⟨rfl, hb1⟩
        have HB1 := Lib.hid hb1
        have HR1 := Lib.hid (HR0.out.below hb1)
        clear hb1
        go_wp2_with fail
        refine (FV.out _).mono ?_
        rintro e w9 ⟨rfl, rfl⟩
        go_wp2_with fail
        refine (FB.out w1 HR1.out).mono ?_
        rintro e w2 ⟨rfl, hb2⟩
        have HB2 := Lib.hid (HB1.out.trans (hb2.mono HB1.out.size))
        clear hb2 HB1
        have HP2 := Lib.hid (HH.out.below HB2.out)
        have F31 := Lib.hid (set_p HP2.out.hl.hp pa iv pb (by omega) (by omega) (by omega) (by omega) (by omega) (by omega))
        go_wp2_with fail
        refine F31.out.mono ?_
        intro e w3 hr
        have HTP := Lib.hid hr
        obtain ⟨hfr, is, he⟩ := hr.fr
        have HR3 := Lib.hid (HP2.out.rh.fr hfr (fun k hk => by rcases hk with rfl | hk; exact HP2.out.cb; exact HP2.out.cg k hk))
        rw [he]
        have HE := Lib.hid he
        clear hfr hr he F31
        go_wp2_with fail
        refine (FA.out w3 HR3.out).mono ?_
        rintro e4 w4 ⟨rfl, hb4⟩
        have HB4 := Lib.hid hb4
        have HR4 := Lib.hid (HR3.out.below hb4)
        clear hb4
        go_wp2_with fail
        refine (FV.out _).mono ?_
        rintro e w9 ⟨rfl, rfl⟩
        go_wp2_with fail
        refine (FB.out w4 HR4.out).mono ?_
        rintro e5 w5 ⟨rfl, hb5⟩
        have HB5 := Lib.hid (HB4.out.trans (hb5.mono HB4.out.size))
        have HR5 := Lib.hid (HR4.out.below hb5)
        clear hb5 HB4
        have F34 := Lib.hid (rset_p HR5.out pa iv pb)
        go_wp2_with fail
        refine F34.out.mono ?_
        intro e6 w6 hr
        obtain ⟨is', g1, g2, hfin⟩ := both_two HH.out HB2.out HTP.out HB5.out hr
        rw [HE.out] at g1
        have g3 : is = is' := by
          simp only [Ending.returned.injEq, Value.bool.injEq] at g1
          exact g1
        subst g3
        have HFIN := Lib.hid hfin
        rw [g2]
        clear hr g1 g2 hfin F34 HTP HE
        cases is with
        | true =>
          go_wp2_with fail
          go_ret
          exact HFIN.out _ rfl
        | false =>
          go_wp2_with fail
          go_ret
          exact HFIN.out _ rfl
      by_cases hs12 : s = 12
      · subst hs12
        go_wp2_with fail
        refine (FA.out w HR0.out).mono ?_
        rintro e w1 ⟨rfl, hb1⟩
        have HB1 := Lib.hid hb1
        have HR1 := Lib.hid (HR0.out.below hb1)
        clear hb1
        go_wp2_with fail
        refine (FB.out w1 HR1.out).mono ?_
        rintro e w2 ⟨rfl, hb2⟩
        have HB2 := Lib.hid (HB1.out.trans (hb2.mono HB1.out.size))
        clear hb2 HB1
        have HP2 := Lib.hid (HH.out.below HB2.out)
        have F31 := Lib.hid (over_p HP2.out.hl.hp pa pb (by omega) (by omega) (by omega) (by omega))
        go_wp2_with fail
        refine F31.out.mono ?_
        intro e w3 hr
        have HTP := Lib.hid hr
        obtain ⟨hfr, is, he⟩ := hr.fr
        have HR3 := Lib.hid (HP2.out.rh.fr hfr (fun k hk => by rcases hk with rfl | hk; exact HP2.out.cb; exact HP2.out.cg k hk))
        rw [he]
        have HE := Lib.hid he
        clear hfr hr he F31
        go_wp2_with fail
        refine (FA.out w3 HR3.out).mono ?_
        rintro e4 w4 ⟨rfl, hb4⟩
        have HB4 := Lib.hid hb4
        have HR4 := Lib.hid (HR3.out.below hb4)
        clear hb4
        go_wp2_with fail
        refine (FB.out w4 HR4.out).mono ?_
        rintro e5 w5 ⟨rfl, hb5⟩
        have HB5 := Lib.hid (HB4.out.trans (hb5.mono HB4.out.size))
        have HR5 := Lib.hid (HR4.out.below hb5)
        clear hb5 HB4
        have F34 := Lib.hid (rover_p HR5.out pa pb)
        go_wp2_with fail
        refine F34.out.mono ?_
        intro e6 w6 hr
        obtain ⟨is', g1, g2, hfin⟩ := both_two HH.out HB2.out HTP.out HB5.out hr
        rw [HE.out] at g1
        have g3 : is = is' := by
          simp only [Ending.returned.injEq, Value.bool.injEq] at g1
          exact g1
        subst g3
        have HFIN := Lib.hid hfin
        rw [g2]
        clear hr g1 g2 hfin F34 HTP HE
        cases is with
        | true =>
          go_wp2_with fail
          go_ret
          exact HFIN.out _ rfl
        | false =>
          go_wp2_with fail
          go_ret
          exact HFIN.out _ rfl
      by_cases hs13 : s = 13
      · subst hs13
        go_wp2_with fail
        refine (FA.out w HR0.out).mono ?_
        rintro e w1 ⟨rfl, hb1⟩
        have HB1 := Lib.hid hb1
        have HR1 := Lib.hid (HR0.out.below hb1)
        clear hb1
        go_wp2_with fail
        refine (FB.out w1 HR1.out).mono ?_
        rintro e w2 ⟨rfl, hb2⟩
        have HB2 := Lib.hid (HB1.out.trans (hb2.mono HB1.out.size))
        clear hb2 HB1
        have HP2 := Lib.hid (HH.out.below HB2.out)
        have F31 := Lib.hid (over_p HP2.out.hl.hp pa pb (by omega) (by omega) (by omega) (by omega))
        go_wp2_with fail
        refine F31.out.mono ?_
        intro e w3 hr
        have HTP := Lib.hid hr
        obtain ⟨hfr, is, he⟩ := hr.fr
        have HR3 := Lib.hid (HP2.out.rh.fr hfr (fun k hk => by rcases hk with rfl | hk; exact HP2.out.cb; exact HP2.out.cg k hk))
        rw [he]
        have HE := Lib.hid he
        clear hfr hr he F31
        go_wp2_with fail
        refine (FA.out w3 HR3.out).mono ?_
        rintro e4 w4 ⟨rfl, hb4⟩
        have HB4 := Lib.hid hb4
        have HR4 := Lib.hid (HR3.out.below hb4)
        clear hb4
        go_wp2_with fail
        refine (FB.out w4 HR4.out).mono ?_
        rintro e5 w5 ⟨rfl, hb5⟩
        have HB5 := Lib.hid (HB4.out.trans (hb5.mono HB4.out.size))
        have HR5 := Lib.hid (HR4.out.below hb5)
        clear hb5 HB4
        have F34 := Lib.hid (rover_p HR5.out pa pb)
        go_wp2_with fail
        refine F34.out.mono ?_
        intro e6 w6 hr
        obtain ⟨is', g1, g2, hfin⟩ := both_two HH.out HB2.out HTP.out HB5.out hr
        rw [HE.out] at g1
        have g3 : is = is' := by
          simp only [Ending.returned.injEq, Value.bool.injEq] at g1
          exact g1
        subst g3
        have HFIN := Lib.hid hfin
        rw [g2]
        clear hr g1 g2 hfin F34 HTP HE
        cases is with
        | true =>
          go_wp2_with fail
          go_ret
          exact HFIN.out _ rfl
        | false =>
          go_wp2_with fail
          go_ret
          exact HFIN.out _ rfl
      have hs14 : s = 14 ∨ s = 15 := by omega
      have FF : Hid (∀ W, Below w.heap.size w W → Calls Try.prog 25 #[.pointer (some ⟨b, 0, none⟩), .int .i64 pa] W (RetV (.int .i64 (folOf os pa)) W)) := fun W hb => follow_o (HH.out.below hb).hl.hp pa (by omega) (by omega)
      have FG : Hid (∀ W, Below w.heap.size w W → Calls Try.prog 43 #[.pointer (some ⟨x, 0, none⟩), .int .i64 pa] W (RetV (.int .i64 (folOf os pa)) W)) := fun W hb => rfollow_r (HH.out.below hb).rh pa
      generalize folOf os pa = fv at FF FG
      rcases hs14 with rfl | rfl
      · go_wp2_with fail
        refine (FA.out w HR0.out).mono ?_
        rintro e w1 ⟨rfl, hb1⟩
        have HB1 := Lib.hid hb1
        clear hb1
        go_wp2_with fail
        refine (FF.out w1 HB1.out).mono ?_
        rintro e w2 ⟨rfl, hb2⟩
        have HB2 := Lib.hid (HB1.out.trans (hb2.mono HB1.out.size))
        clear hb2 HB1
        go_wp2_with fail
        refine (FA.out w2 (HR0.out.below HB2.out)).mono ?_
        rintro e w3 ⟨rfl, hb3⟩
        have HB3 := Lib.hid (HB2.out.trans (hb3.mono HB2.out.size))
        clear hb3 HB2
        go_wp2_with fail
        refine (FG.out w3 HB3.out).mono ?_
        rintro e w4 ⟨rfl, hb4⟩
        have HB4 := Lib.hid (HB3.out.trans (hb4.mono HB3.out.size))
        clear hb4 HB3
        go_wp2_with fail
        go_ret
        exact RetPr.of_below HH.out rfl HB4.out
      · go_wp2_with fail
        refine (FA.out w HR0.out).mono ?_
        rintro e w1 ⟨rfl, hb1⟩
        have HB1 := Lib.hid hb1
        clear hb1
        go_wp2_with fail
        refine (FF.out w1 HB1.out).mono ?_
        rintro e w2 ⟨rfl, hb2⟩
        have HB2 := Lib.hid (HB1.out.trans (hb2.mono HB1.out.size))
        clear hb2 HB1
        go_wp2_with fail
        refine (FA.out w2 (HR0.out.below HB2.out)).mono ?_
        rintro e w3 ⟨rfl, hb3⟩
        have HB3 := Lib.hid (HB2.out.trans (hb3.mono HB2.out.size))
        clear hb3 HB2
        go_wp2_with fail
        refine (FG.out w3 HB3.out).mono ?_
        rintro e w4 ⟨rfl, hb4⟩
        have HB4 := Lib.hid (HB3.out.trans (hb4.mono HB3.out.size))
        clear hb4 HB3
        go_wp2_with fail
        go_ret
        exact RetPr.of_below HH.out rfl HB4.out
end Go.Proofs.Ytkekekdkfjjifaa
