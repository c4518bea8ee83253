/- Values are laid into words. -/
import Derived.Test.YtjecjlnkpbbanaaP10
namespace Go.Proofs.Ytjecjlnkpbbanaa
open Go Go.RowKit
set_option linter.unusedVariables false
set_option linter.unusedSimpArgs false
/-- Words with these values from place f on. -/
def filled (l : List Wd) (f : Nat) : List Int → List Wd
  | [] => l
  | v :: r => filled (l.set f { l.getD f ⟨0, 0, 0, 0, 0⟩ with v := v }) (f + 1) r
theorem filled_len : ∀ (r : List Int) (l : List Wd) (f : Nat), (filled l f r).length = l.length
  | [], l, f => rfl
  | v :: r, l, f => by unfold filled; rw [filled_len r]; simp
theorem filled_snoc : ∀ (r : List Int) (l : List Wd) (f : Nat) (v : Int), filled l f (r ++ [v]) = (filled l f r).set (f + r.length) { (filled l f r).getD (f + r.length) ⟨0, 0, 0, 0, 0⟩ with v := v }
  | [], l, f, v => by simp [filled]
  | u :: r, l, f, v => by
    show filled _ (f + 1) (r ++ [v]) = _
    rw [filled_snoc r _ (f + 1) v]
    have e : f + 1 + r.length = f + (u :: r).length := by simp; omega
    rw [e]; rfl
theorem filled_append : ∀ (r q : List Int) (l : List Wd) (f : Nat), filled l f (r ++ q) = filled (filled l f r) (f + r.length) q
  | [], q, l, f => rfl
  | u :: r, q, l, f => by
    show filled _ (f + 1) (r ++ q) = filled (filled _ (f + 1) r) _ q
    rw [filled_append r q _ (f + 1), show f + 1 + r.length = f + (u :: r).length by simp; omega]
theorem filled_new : ∀ (r : List Int) (l m : List Wd), filled (l ++ List.replicate r.length ⟨0, 0, 0, 0, 0⟩ ++ m) l.length r = l ++ r.map (fun v => (⟨0, 0, 0, 0, v⟩ : Wd)) ++ m
  | [], l, m => by simp [filled]
  | v :: r, l, m => by
    unfold filled
    have e1 : l ++ List.replicate (v :: r).length (⟨0, 0, 0, 0, 0⟩ : Wd) ++ m = l ++ (⟨0, 0, 0, 0, 0⟩ :: (List.replicate r.length ⟨0, 0, 0, 0, 0⟩ ++ m)) := by simp [List.replicate_succ]
    rw [e1]
    have e2 : (l ++ ((⟨0, 0, 0, 0, 0⟩ : Wd) :: (List.replicate r.length ⟨0, 0, 0, 0, 0⟩ ++ m))).getD l.length ⟨0, 0, 0, 0, 0⟩ = ⟨0, 0, 0, 0, 0⟩ := by simp
    rw [e2]
    have e3 : (l ++ ((⟨0, 0, 0, 0, 0⟩ : Wd) :: (List.replicate r.length ⟨0, 0, 0, 0, 0⟩ ++ m))).set l.length ⟨0, 0, 0, 0, v⟩ = (l ++ [⟨0, 0, 0, 0, v⟩]) ++ List.replicate r.length ⟨0, 0, 0, 0, 0⟩ ++ m := by
      rw [List.set_append_right _ _ (by omega)]; simp
    rw [e3]
    have := filled_new r (l ++ [⟨0, 0, 0, 0, v⟩]) m
    simp only [List.length_append, List.length_cons, List.length_nil] at this
    rw [this]; simp
/-- A slice's cells lie elsewhere. -/
def Apart (xv : Value) (b : Nat) (G : Option Nat) : Prop := ∀ ao n c g o, xv = .slice ao n c → 0 < n → ao = some ⟨g, o, none⟩ → g ≠ b ∧ G ≠ some g
def FillInv (b : Nat) (G : Option Nat) (l : List Wd) (m f : Nat) (xs : List Int) (w : World) (iv : Value) (wr : World) : Prop :=
  ∃ j : Nat, j ≤ xs.length ∧ iv = .int .i64 (j : Int) ∧ Hp wr b G (filled l f (xs.take j)) m ∧ Fr (own b G) w wr
set_option maxHeartbeats 8000000 in
set_option maxRecDepth 100000 in
theorem fill_any {w : World} {b : Nat} {G : Option Nat} {l : List Wd} {m : Nat} (h : Hp w b G l m) (f : Nat) (xv : Value) (xs : List Int) (hx : IsS w xv xs)
    (hxo : Apart xv b G) (hfl : f + xs.length ≤ l.length) :
    Calls Try.prog 71 #[.pointer (some ⟨b, 0, none⟩), .int .i64 f, xv] w fun e w' => e = .returned (.tuple #[]) ∧ Hp w' b G (filled l f xs) m ∧ Fr (own b G) w w' := by
  have HX := Lib.hid hx
  obtain ⟨ao, cap, rfl, hcap, _⟩ := hx
  have hbl := h.lt
  have hll : l.length ≤ 1000000 := by obtain ⟨_, _, _, _, h, _⟩ := h; exact h
  have HXO := Lib.hid hxo
  have H0 : Hid (FillInv b G l m f xs w (.int .i64 0) w) := ⟨0, Nat.zero_le _, rfl, by simpa [filled] using h, Fr.refl _ _⟩
  clear h hxo
  obtain ⟨n, hn⟩ : ∃ n, n = xs.length := ⟨_, rfl⟩
  rw [← hn] at hcap hfl ⊢
  have HN := Lib.hid hn
  clear hn
  obtain ⟨L, hL⟩ : ∃ L, L = l.length := ⟨_, rfl⟩
  rw [← hL] at hfl hll
  have HLL := Lib.hid hL
  clear hL
  go_enter Try.func71, Try.ntmps71
  go_wp2_with fail
  go_loopw [10] (fun iv wr => FillInv b G l m f xs w iv wr) (fun iv _ => n - (intOf iv).toNat)
  case atStart => exact H0.out
  case round =>
    clear H0
    obtain ⟨j, hj, rfl, hHp, hfr⟩ := hrel
    rw [← HN.out] at hj
    have HH := Lib.hid hHp
    have HFR := Lib.hid hfr
    clear hHp hfr
    by_cases hjn : j < n
    · have q1 : decide ((j : Int) < (n : Int)) = true := decide_eq_true (by omega)
      have hjl : j < xs.length := by rw [← HN.out]; exact hjn
      obtain ⟨ao', cap', e1, _, hr⟩ := HX.out
      injection e1 with e1 e2 e3
      rcases hr with ⟨_, e⟩ | ⟨g, o, e4, hc⟩
      · have := HN.out; rw [e] at this; simp at this; omega
      · rw [← e1] at e4
        subst e4
        have c0 := hc j hjl
        have hgl : g < w.heap.size := World.block_lt_of_cell? w _ c0
        obtain ⟨hgb, hgG⟩ := HXO.out _ _ _ g o rfl (by omega) rfl
        have c1 : wr.cell? ⟨g, o + j, none⟩ = some (.int .i64 xs[j]) := by
          rw [← c0]
          exact World.cell?_of_block (w := w) (HFR.out.block g hgl (fun hh => by rcases hh with hh | hh; exact hgb hh; exact hgG hh))
        obtain ⟨k, hk⟩ : ∃ k, k = f + j := ⟨_, rfl⟩
        have hkL : k < L := by omega
        have hfj : (f : Int) + (j : Int) = (k : Int) := by omega
        have hFL : (filled l f (xs.take j)).length = L := by rw [filled_len, HLL.out]
        obtain ⟨aw, capw, hc0, -, -, hcapw, hcw⟩ := HH.out.cell
        have hkF : k < (filled l f (xs.take j)).length := by rw [hFL]; exact hkL
        obtain ⟨gw, rfl, hGw, ⟨cc, hcc⟩, -, -, -, -, d4⟩ := hcw k hkF
        have hfz := frozen_of_row wr gw (k * 5 + 4) _ _ hcc
        have hnx : filled l f (xs.take (j + 1)) = (filled l f (xs.take j)).set k { (filled l f (xs.take j))[k] with v := xs[j] } := by
          rw [List.take_succ_eq_append_getElem hjl, filled_snoc]
          have e : f + (xs.take j).length = k := by rw [List.length_take]; omega
          rw [e, List.getD_eq_getElem?_getD, List.getElem?_eq_getElem hkF]; rfl
        have hput := HH.out.putv hGw k hkF xs[j]
        rw [← hnx] at hput
        have hfr := HFR.out.setCell (p := ⟨gw, k * 5 + 4, none⟩) (.inr hGw) (.int .i64 xs[j])
        generalize xs[j] = p at c1 hput hfr
        have HREL : Hid (FillInv b G l m f xs w (.int .i64 ((j : Int) + 1)) (wr.setCell ⟨gw, k * 5 + 4, none⟩ (.int .i64 p))) :=
          ⟨j + 1, by rw [← HN.out]; omega, by go_num, hput, hfr⟩
        generalize ((filled l f (xs.take j))[k]).v = v0 at d4
        rw [hFL] at hc0 hcapw
        have hkLi : (k : Int) < (L : Int) := by omega
        clear e1 e2 e3 hc c0 hgb hgG hkF hcw hcc hGw hnx hput hfr hFL hk
        go_wp2_with fail
        go_roundw
        case rel => exact HREL.out
        case measure => simp [intOf]; omega
    · have hjn2 : j = n := by omega
      subst hjn2
      have q1 : decide ((j : Int) < (j : Int)) = false := decide_eq_false (by omega)
      have HR : Hid (Hp wr b G (filled l f xs) m) := by
        have := HH.out
        rw [HN.out, List.take_length] at this
        exact this
      go_wp2_with fail
      go_end0
      exact ⟨rfl, HR.out, HFR.out⟩
end Go.Proofs.Ytjecjlnkpbbanaa
