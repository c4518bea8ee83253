/- The walk of ReadPlaces. -/
import Derived.Test.YtkjcbaikebdmmaaDoorRP
namespace Go.Proofs.YtkjcbaikebdmmaaDoor
open Go.RowKit Go.BigM
set_option linter.unusedVariables false
set_option linter.unusedSimpArgs false
def pcL : List ByteArray := [⟨#[97, 32]⟩, ⟨#[40, 98, 32, 99, 41, 32]⟩, ⟨#[49, 50, 32]⟩, ⟨#[39, 100, 32]⟩, ⟨#[10]⟩, ⟨#[40, 40, 101, 41, 41, 32]⟩, ⟨#[35, 116, 32]⟩]
/-- The data of a piece, from a place on. -/
def pcD (p : Nat) : Nat → List Dt
  | 0 => [.mk 3 ⟨#[97]⟩ [] [] p]
  | 1 => [.mk 4 ⟨#[]⟩ [] [.mk 3 ⟨#[98]⟩ [] [] (p + 1 : Nat), .mk 3 ⟨#[99]⟩ [] [] (p + 3 : Nat)] p]
  | 2 => [.mk 1 ⟨#[49, 50]⟩ [] [] p]
  | 3 => [.mk 4 ⟨#[]⟩ [] [.mk 3 qT [] [] p, .mk 3 ⟨#[100]⟩ [] [] (p + 1 : Nat)] p]
  | 4 => []
  | 5 => [.mk 4 ⟨#[]⟩ [] [.mk 4 ⟨#[]⟩ [] [.mk 3 ⟨#[101]⟩ [] [] (p + 2 : Nat)] (p + 1 : Nat)] p]
  | _ => [.mk 2 ⟨#[35, 116]⟩ [] [] p]
def pcT : Nat → List UInt8
  | 0 => [97, 32] | 1 => [40, 98, 32, 99, 41, 32] | 2 => [49, 50, 32] | 3 => [39, 100, 32] | 4 => [10] | 5 => [40, 40, 101, 41, 41, 32] | _ => [35, 116, 32]
theorem pc_text (k : Nat) (hk : k < 7) : (pcL.getD k ⟨#[]⟩).data.toList = pcT k := by
  have : k = 0 ∨ k = 1 ∨ k = 2 ∨ k = 3 ∨ k = 4 ∨ k = 5 ∨ k = 6 := by omega
  rcases this with rfl | rfl | rfl | rfl | rfl | rfl | rfl <;> rfl
def allT : List Nat → List UInt8
  | [] => []
  | k :: ks => pcT k ++ allT ks
def allD (p : Nat) : List Nat → List Dt
  | [] => []
  | k :: ks => pcD p k ++ allD (p + (pcT k).length) ks
theorem allT_snoc : ∀ (ks : List Nat) (k : Nat), allT (ks ++ [k]) = allT ks ++ pcT k
  | [], k => by simp [allT]
  | j :: ks, k => by simp only [List.cons_append, allT]; rw [allT_snoc ks k, List.append_assoc]
theorem pcT_len : ∀ k, 1 ≤ (pcT k).length ∧ (pcT k).length ≤ 6
  | 0 => by decide
  | 1 => by decide
  | 2 => by decide
  | 3 => by decide
  | 4 => by decide
  | 5 => by decide
  | n + 6 => by show 1 ≤ 3 ∧ 3 ≤ 6; omega
theorem allT_len : ∀ (ks : List Nat), (allT ks).length ≤ 6 * ks.length
  | [] => by simp [allT]
  | k :: ks => by have := allT_len ks; have := pcT_len k; simp only [allT, List.length_append, List.length_cons]; omega
theorem w1 {p : Nat} {k : Int} {c : UInt8} {u : ByteArray} (h : Leaf u.data.toList k u) : Wrs p [.mk k u [] [] p] u.data.toList := by
  have := Wrs.cons (p := p) (g := []) Gap.nil (.leaf (p := p) h) (.nil Gap.nil) NoSign.nil
  simpa using this
theorem lf (u : ByteArray) (k : Int) (h : u.data.toList.all sset.contains = true) (h0 : u.data.toList ≠ []) (hw : (wordOf u.data.toList).map (fun x => (x.1, x.2.1.data.toList, x.2.2)) = some (k, u.data.toList, u.data.toList.length)) (h32 : u.data.toList.contains 32 = false) : Leaf u.data.toList k u := (okW_word h h0 hw h32).2
theorem lf_a : Leaf [97] 3 ⟨#[97]⟩ := lf ⟨#[97]⟩ 3 (by decide) (by decide) (by decide +kernel) (by decide)
theorem lf_b : Leaf [98] 3 ⟨#[98]⟩ := lf ⟨#[98]⟩ 3 (by decide) (by decide) (by decide +kernel) (by decide)
theorem lf_c : Leaf [99] 3 ⟨#[99]⟩ := lf ⟨#[99]⟩ 3 (by decide) (by decide) (by decide +kernel) (by decide)
theorem lf_d : Leaf [100] 3 ⟨#[100]⟩ := lf ⟨#[100]⟩ 3 (by decide) (by decide) (by decide +kernel) (by decide)
theorem lf_e : Leaf [101] 3 ⟨#[101]⟩ := lf ⟨#[101]⟩ 3 (by decide) (by decide) (by decide +kernel) (by decide)
theorem lf_12 : Leaf [49, 50] 1 ⟨#[49, 50]⟩ := lf ⟨#[49, 50]⟩ 1 (by decide) (by decide) (by decide +kernel) (by decide)
theorem wr_1 {p : Nat} {d : Dt} {t : List UInt8} (h : Wr p d t) : Wrs p [d] t := by
  have := Wrs.cons (p := p) (g := []) Gap.nil h (.nil Gap.nil) NoSign.nil
  simpa using this
theorem pc_wrs (p : Nat) : ∀ (k : Nat) (l : List Dt) (b : List UInt8), Wrs (p + (pcT k).length) l b → Wrs p (pcD p k ++ l) (pcT k ++ b)
  | 0, l, b, h => Wrs.append (a := [97]) (b := 32 :: b) (wr_1 (.leaf lf_a)) (Wrs.gap (g := [32]) (Gap.blank (by simp)) h) (NoSign.cons (by decide))
  | 1, l, b, h => by
    have h1 := Wrs.append (p := p + 1) (a := [98]) (b := [32, 99]) (wr_1 (.leaf lf_b)) (Wrs.gap (g := [32]) (Gap.blank (by simp)) (wr_1 (.leaf (p := p + 3) lf_c))) (NoSign.cons (by decide))
    exact Wrs.append (a := [40, 98, 32, 99, 41]) (b := 32 :: b) (wr_1 (.list h1)) (Wrs.gap (g := [32]) (Gap.blank (by simp)) h) (NoSign.cons (by decide))
  | 2, l, b, h => Wrs.append (a := [49, 50]) (b := 32 :: b) (wr_1 (.leaf lf_12)) (Wrs.gap (g := [32]) (Gap.blank (by simp)) h) (NoSign.cons (by decide))
  | 3, l, b, h => by
    have h1 := Wr.quote (p := p) (g := []) Gap.nil (.leaf (p := p + 1) lf_d)
    exact Wrs.append (a := [39, 100]) (b := 32 :: b) (wr_1 h1) (Wrs.gap (g := [32]) (Gap.blank (by simp)) h) (NoSign.cons (by decide))
  | 4, l, b, h => Wrs.gap (g := [10]) (Gap.blank (by simp)) h
  | 5, l, b, h => by
    have h1 := Wr.list (p := p) (wr_1 (Wr.list (p := p + 1) (wr_1 (.leaf (p := p + 2) lf_e))))
    exact Wrs.append (a := [40, 40, 101, 41, 41]) (b := 32 :: b) (wr_1 h1) (Wrs.gap (g := [32]) (Gap.blank (by simp)) h) (NoSign.cons (by decide))
  | n + 6, l, b, h => Wrs.append (a := [35, 116]) (b := 32 :: b) (wr_1 (.leaf leaf_true)) (Wrs.gap (g := [32]) (Gap.blank (by simp)) h) (NoSign.cons (by decide))
theorem all_wrs : ∀ (ks : List Nat) (p : Nat), Wrs p (allD p ks) (allT ks)
  | [], p => .nil Gap.nil
  | k :: ks, p => pc_wrs p k _ _ (all_wrs ks _)
theorem pc_dep (p : Nat) : ∀ k, Dt.deps (pcD p k) ≤ 2
  | 0 => by simp [pcD, Dt.deps, Dt.dep]
  | 1 => by simp [pcD, Dt.deps, Dt.dep]
  | 2 => by simp [pcD, Dt.deps, Dt.dep]
  | 3 => by simp [pcD, Dt.deps, Dt.dep]
  | 4 => by simp [pcD, Dt.deps]
  | 5 => by simp [pcD, Dt.deps, Dt.dep]
  | n + 6 => by simp [pcD, Dt.deps, Dt.dep]
theorem deps_app (a b : List Dt) : Dt.deps (a ++ b) = max (Dt.deps a) (Dt.deps b) := by
  induction a with
  | nil => simp [Dt.deps]
  | cons d a ih => simp only [List.cons_append, Dt.deps, ih]; omega
theorem all_dep : ∀ (ks : List Nat) (p : Nat), Dt.deps (allD p ks) ≤ 2
  | [], p => by simp [allD, Dt.deps]
  | k :: ks, p => by have := pc_dep p k; have := all_dep ks (p + (pcT k).length); simp only [allD, deps_app]; omega
theorem pc_size (p : Nat) : ∀ k, ∀ d ∈ pcD p k, d.size ≤ 3
  | 0 => by simp [pcD, Dt.size, Dt.sizes]
  | 1 => by simp [pcD, Dt.size, Dt.sizes]
  | 2 => by simp [pcD, Dt.size, Dt.sizes]
  | 3 => by simp [pcD, Dt.size, Dt.sizes]
  | 4 => by simp [pcD]
  | 5 => by simp [pcD, Dt.size, Dt.sizes]
  | n + 6 => by simp [pcD, Dt.size, Dt.sizes]
theorem all_size : ∀ (ks : List Nat) (p : Nat), ∀ d ∈ allD p ks, d.size ≤ 3
  | [], p, d, h => by simp [allD] at h
  | k :: ks, p, d, h => by
    simp only [allD, List.mem_append] at h
    rcases h with h | h
    · exact pc_size p k d h
    · exact all_size ks _ d h
theorem pc_form (p : Nat) : ∀ k, pcD p k = [] ∨ ∃ d, pcD p k = [d] ∧ d.place = p
  | 0 => .inr ⟨_, rfl, rfl⟩
  | 1 => .inr ⟨_, rfl, rfl⟩
  | 2 => .inr ⟨_, rfl, rfl⟩
  | 3 => .inr ⟨_, rfl, rfl⟩
  | 4 => .inl rfl
  | 5 => .inr ⟨_, rfl, rfl⟩
  | n + 6 => .inr ⟨_, rfl, rfl⟩
theorem all_len : ∀ (ks : List Nat) (p : Nat), (allD p ks).length ≤ ks.length
  | [], p => by simp [allD]
  | k :: ks, p => by
    have := all_len ks (p + (pcT k).length)
    rcases pc_form p k with h | ⟨d, h, _⟩ <;> simp only [allD, h, List.length_append, List.length_cons, List.length_nil] <;> omega
theorem all_inc : ∀ (ks : List Nat) (p : Nat), (∀ i (h : i < (allD p ks).length), (p : Int) ≤ (allD p ks)[i].place) ∧ ∀ i (h : i + 1 < (allD p ks).length), (allD p ks)[i].place < (allD p ks)[i + 1].place
  | [], p => ⟨fun i h => by simp [allD] at h, fun i h => by simp [allD] at h⟩
  | k :: ks, p => by
    obtain ⟨h1, h2⟩ := all_inc ks (p + (pcT k).length)
    have hl := (pcT_len k).1
    rcases pc_form p k with h | ⟨d, h, hd⟩
    · simp only [allD, h, List.nil_append]
      exact ⟨fun i hi => by have := h1 i hi; omega, h2⟩
    · simp only [allD, h, List.cons_append, List.nil_append]
      refine ⟨fun i hi => ?_, fun i hi => ?_⟩
      · cases i with
        | zero => simp only [List.getElem_cons_zero]; omega
        | succ i => have := h1 i (by simpa using hi); simp only [List.getElem_cons_succ]; omega
      · cases i with
        | zero => have := h1 0 (by simpa using hi); simp only [List.getElem_cons_zero, List.getElem_cons_succ]; omega
        | succ i => simp only [List.getElem_cons_succ]; exact h2 i (by simpa using hi)
theorem at_drop {s : ByteArray} {n : Nat} {c : UInt8} {rest : List UInt8} (h : s.data.toList.drop n = c :: rest) : n < s.size ∧ s.data.toList[n]? = some c := by
  refine ⟨?_, get_drop h⟩
  have := congrArg List.length h
  rw [List.length_drop, ← Lib.size_eq] at this
  simp at this; omega
theorem stp_leaf {s : ByteArray} {n : Nat} {k : Int} {t : ByteArray} {c : UInt8} {r rest : List UInt8} (ht : t.data.toList = c :: r) (hk : k ≠ 4) (hq : t ≠ qT) (h : s.data.toList.drop n = t.data.toList ++ rest) : StP s (.mk k t [] [] n) := by
  unfold StP
  refine ⟨n, rfl, (at_drop (c := c) (rest := r ++ rest) (by rw [h, ht]; rfl)).1, .inr ⟨hk, .inr ⟨hq, rest, h⟩⟩⟩
theorem stp_list {s : ByteArray} {n : Nat} {l : List Dt} {rest : List UInt8} (h : s.data.toList.drop n = 40 :: rest) (hl : StPs s n l) : StP s (.mk 4 ⟨#[]⟩ [] l n) := by
  unfold StP
  exact ⟨n, rfl, (at_drop h).1, .inl ⟨rfl, .inl (at_drop h).2, hl⟩⟩
theorem stp_quote {s : ByteArray} {n : Nat} {d : Dt} {rest : List UInt8} (h : s.data.toList.drop n = 39 :: rest) (hd : StP s d) (hp : (n : Int) ≤ d.place) : StP s (.mk 4 ⟨#[]⟩ [] [.mk 3 qT [] [] n, d] n) := by
  unfold StP
  refine ⟨n, rfl, (at_drop h).1, .inl ⟨rfl, .inr (at_drop h).2, ?_⟩⟩
  unfold StPs
  refine ⟨⟨?_, Int.le_refl _⟩, ?_⟩
  · unfold StP
    exact ⟨n, rfl, (at_drop h).1, .inr ⟨by decide, .inl ⟨rfl, (at_drop h).2⟩⟩⟩
  · unfold StPs
    exact ⟨⟨hd, hp⟩, trivial⟩
theorem ne_q (t : ByteArray) (h : t.data.toList ≠ qT.data.toList) : t ≠ qT := fun e => h (by rw [e])
theorem pc_stp (s : ByteArray) (p : Nat) : ∀ (k : Nat) (rest : List UInt8), s.data.toList.drop p = pcT k ++ rest → ∀ d ∈ pcD p k, StP s d
  | 0, rest, h, d, hd => by
    simp only [pcD, List.mem_singleton] at hd; subst hd
    exact stp_leaf (c := 97) (r := []) rfl (by decide) (ne_q _ (by decide)) (rest := 32 :: rest) h
  | 1, rest, h, d, hd => by
    simp only [pcD, List.mem_singleton] at hd; subst hd
    refine stp_list (rest := [98, 32, 99, 41, 32] ++ rest) (by rw [h]; rfl) ?_
    have h1 : s.data.toList.drop (p + 1) = [98] ++ ([32, 99, 41, 32] ++ rest) := drop_next (c := 40) (by rw [h]; rfl)
    have h3 : s.data.toList.drop (p + 3) = [99] ++ ([41, 32] ++ rest) := drop_more (t := [40, 98, 32]) (by rw [h]; rfl)
    unfold StPs
    refine ⟨⟨stp_leaf (c := 98) (r := []) rfl (by decide) (ne_q _ (by decide)) h1, by show (p : Int) ≤ ((p + 1 : Nat) : Int); omega⟩, ?_⟩
    unfold StPs
    refine ⟨⟨stp_leaf (c := 99) (r := []) rfl (by decide) (ne_q _ (by decide)) h3, by show (p : Int) ≤ ((p + 3 : Nat) : Int); omega⟩, trivial⟩
  | 2, rest, h, d, hd => by
    simp only [pcD, List.mem_singleton] at hd; subst hd
    exact stp_leaf (c := 49) (r := [50]) rfl (by decide) (ne_q _ (by decide)) (rest := 32 :: rest) h
  | 3, rest, h, d, hd => by
    simp only [pcD, List.mem_singleton] at hd; subst hd
    have h1 : s.data.toList.drop (p + 1) = [100] ++ (32 :: rest) := drop_next (c := 39) (by rw [h]; rfl)
    exact stp_quote (rest := [100, 32] ++ rest) (by rw [h]; rfl) (stp_leaf (c := 100) (r := []) rfl (by decide) (ne_q _ (by decide)) h1) (by show (p : Int) ≤ ((p + 1 : Nat) : Int); omega)
  | 4, rest, h, d, hd => by simp [pcD] at hd
  | 5, rest, h, d, hd => by
    simp only [pcD, List.mem_singleton] at hd; subst hd
    have h1 : s.data.toList.drop (p + 1) = 40 :: ([101, 41, 41, 32] ++ rest) := drop_next (c := 40) (by rw [h]; rfl)
    have h2 : s.data.toList.drop (p + 2) = [101] ++ ([41, 41, 32] ++ rest) := drop_more (t := [40, 40]) (by rw [h]; rfl)
    refine stp_list (rest := [40, 101, 41, 41, 32] ++ rest) (by rw [h]; rfl) ?_
    unfold StPs
    refine ⟨⟨stp_list h1 ?_, by show (p : Int) ≤ ((p + 1 : Nat) : Int); omega⟩, trivial⟩
    unfold StPs
    exact ⟨⟨stp_leaf (c := 101) (r := []) rfl (by decide) (ne_q _ (by decide)) h2, by show ((p + 1 : Nat) : Int) ≤ ((p + 2 : Nat) : Int); omega⟩, trivial⟩
  | n + 6, rest, h, d, hd => by
    simp only [pcD, List.mem_singleton] at hd; subst hd
    exact stp_leaf (c := 35) (r := [116]) rfl (by decide) (ne_q _ (by decide)) (rest := 32 :: rest) h
theorem all_stp (s : ByteArray) : ∀ (ks : List Nat) (p : Nat), s.data.toList.drop p = allT ks → ∀ d ∈ allD p ks, StP s d
  | [], p, h, d, hd => by simp [allD] at hd
  | k :: ks, p, h, d, hd => by
    simp only [allD, List.mem_append] at hd
    simp only [allT] at h
    rcases hd with hd | hd
    · exact pc_stp s p k _ h d hd
    · exact all_stp s ks _ (drop_more h) d hd
theorem rd_all (ks : List Nat) : ∃ n, rd (allT ks) n .next 0 ⟨0, false, []⟩ [] = some (.ok (allD 0 ks)) := rd_wrs (all_wrs ks 0) (by have := all_dep ks 0; omega)
theorem all_ex (ks : List Nat) (s : ByteArray) (h : s.data.toList = allT ks) : ∃ ds, (∃ n, rd s.data.toList n .next 0 ⟨0, false, []⟩ [] = some (.ok ds)) ∧ (∀ d ∈ ds, StP s d) ∧ (∀ d ∈ ds, d.size ≤ 3) ∧ (∀ i (h : i + 1 < ds.length), ds[i].place < ds[i + 1].place) ∧ ds.length ≤ ks.length :=
  ⟨allD 0 ks, by rw [h]; exact rd_all ks, all_stp s ks 0 (by rw [List.drop_zero]; exact h), all_size ks 0, (all_inc ks 0).2, all_len ks 0⟩
/-- The loop that lays pieces side by side. -/
def PcInv (len : Nat) (w : World) (sv iv : Value) (wr : World) : Prop :=
  ∃ (ks : List Nat), ks.length ≤ len ∧ ks.length ≤ 40 ∧ iv = .int .i64 ks.length ∧ sv = .string ⟨(allT ks).toArray⟩ ∧ Below w.heap.size w wr
theorem pc_cell (w : World) (r : Nat) (hr : r < 7) : (w.alloc (.cells (tcells pcL) 9)).cell? ⟨w.heap.size, r, none⟩ = some (.string (pcL.getD r ⟨#[]⟩)) := tcells_get _ _ pcL (alloc_at w _) r hr
set_option maxHeartbeats 8000000 in
set_option maxRecDepth 100000 in
theorem places_walk (ao : Option Addr) (len cap : Nat) (zs : List Int) (w : World) (hz : IsRow .i64 w ao len cap zs) : Calls Tryd.prog 7 #[.slice ao len cap] w (RetBool true w) := by
  have BB := Lib.hid (Below.refl w.heap.size w)
  have HZ := Lib.hid hz
  have hlen : len ≤ 9223372036854775807 := by rcases hz with ⟨_, h, _⟩ | ⟨_, _, h1, h2, _⟩ <;> unfold maxLen at * <;> omega
  clear hz
  go_enter Tryd.func7, Tryd.ntmps7
  go_wp2_with (go_at_call 13; refine (known_any _).mono ?_; rintro e w1 ⟨rfl, hb⟩; replace BB := Lib.hid (BB.out.trans (hb.mono BB.out.size)); clear hb)
  go_loopw [3, 4] (fun sv iv wr => PcInv len w sv iv wr) (fun _ iv _ => len - (intOf iv).toNat)
  case atStart => exact ⟨[], Nat.zero_le _, Nat.zero_le _, rfl, rfl, BB.out⟩
  case round =>
    obtain ⟨ks, hj, hj40, rfl, rfl, hb⟩ := hrel
    have HB := Lib.hid hb
    obtain ⟨X, hX⟩ : ∃ X : ByteArray, X = ⟨(allT ks).toArray⟩ := ⟨_, rfl⟩
    obtain ⟨j, hjk⟩ : ∃ j, ks.length = j := ⟨_, rfl⟩
    have hal := allT_len ks
    have hXl : X.data.toList = allT ks := by rw [hX]
    have hXs : X.size ≤ 240 := by rw [Lib.size_eq, hXl]; omega
    rw [← hX]
    rw [hjk] at hj hj40
    simp only [hjk]
    have HX := Lib.hid hXl
    have HJ := Lib.hid hjk
    clear hb hX hXl hal hjk BB
    by_cases hlt : j < len
    · have q1 : decide ((j : Int) < (len : Int)) = true := decide_eq_true (by omega)
      by_cases h40 : j < 40
      · have q2 : decide ((j : Int) < 40) = true := decide_eq_true (by omega)
        obtain ⟨x, z, rfl, hcell, hI⟩ := row_get HZ.out HB.out hlt
        obtain ⟨r, hr⟩ : ∃ r : Nat, z % 7 = r := ⟨(z % 7).toNat, by omega⟩
        have hr7 : r < 7 := by omega
        have FW := Lib.hid (fun w => within_any z 7 w hI.1 hI.2 (by omega) (by omega))
        rw [hr] at FW
        have hbW : Below wr.heap.size wr (wr.alloc (.cells #[.string ⟨#[97, 32]⟩, .string ⟨#[40, 98, 32, 99, 41, 32]⟩, .string ⟨#[49, 50, 32]⟩, .string ⟨#[39, 100, 32]⟩, .string ⟨#[10]⟩, .string ⟨#[40, 40, 101, 41, 41, 32]⟩, .string ⟨#[35, 116, 32]⟩] 9)) := (Below.refl _ _).alloc (Nat.le_refl _) _
        have hsc : (wr.alloc (.cells #[.string ⟨#[97, 32]⟩, .string ⟨#[40, 98, 32, 99, 41, 32]⟩, .string ⟨#[49, 50, 32]⟩, .string ⟨#[39, 100, 32]⟩, .string ⟨#[10]⟩, .string ⟨#[40, 40, 101, 41, 41, 32]⟩, .string ⟨#[35, 116, 32]⟩] 9)).cell? ⟨wr.heap.size, r, none⟩ = some (.string (pcL.getD r ⟨#[]⟩)) := pc_cell wr r hr7
        have hcell2 := (hbW.cell (p := x.add j) (World.block_lt_of_cell? wr _ hcell)).trans hcell
        have hbl2 := HB.out.trans (hbW.mono HB.out.size)
        have HREL : Hid (PcInv len w (.string (X ++ pcL.getD r ⟨#[]⟩)) (.int .i64 ((j : Int) + 1)) (wr.alloc (.cells #[.string ⟨#[97, 32]⟩, .string ⟨#[40, 98, 32, 99, 41, 32]⟩, .string ⟨#[49, 50, 32]⟩, .string ⟨#[39, 100, 32]⟩, .string ⟨#[10]⟩, .string ⟨#[40, 40, 101, 41, 41, 32]⟩, .string ⟨#[35, 116, 32]⟩] 9))) := by
          have h1 := HJ.out
          refine ⟨ks ++ [r], by simp; omega, by simp; omega, by simp [h1], ?_, hbl2⟩
          congr 1
          apply ByteArray.ext
          apply Array.toList_inj.1
          rw [ByteArray.data_append, Array.toList_append, HX.out, pc_text r hr7, allT_snoc]
        have hp6 : (pcL.getD r ⟨#[]⟩).size ≤ 6 := by rw [Lib.size_eq, pc_text r hr7]; exact (pcT_len r).2
        obtain ⟨F, hF⟩ : ∃ F, F = pcL.getD r ⟨#[]⟩ := ⟨_, rfl⟩
        rw [← hF] at hsc HREL hp6
        have hbW2 := Lib.hid hbW
        clear hr hF hbW hbl2 hI
        go_wp2_with fail
        refine (FW.out _).mono ?_
        rintro e w6 ⟨rfl, rfl⟩
        go_wp2_with fail
        go_roundw
        case rel => exact HREL.out
        case measure => simp [intOf]; omega
      · have q2 : decide ((j : Int) < 40) = false := decide_eq_false (by omega)
        obtain ⟨ds, ⟨n, hn⟩, hstp, hsz3, hinc, hdl⟩ := all_ex ks X HX.out
        have FR := Lib.hid (read_any X wr (by omega) n _ hn)
        clear hn
        have HSTP := Lib.hid hstp
        have HSZ := Lib.hid hsz3
        have HINC := Lib.hid hinc
        clear hstp hsz3 hinc
        rw [HJ.out] at hdl
        have hds40 : ds.length ≤ 40 := by omega
        clear hdl
        go_wp2_with fail
        refine FR.out.mono ?_
        rintro e w6 ⟨hb6, v, rfl, hv⟩
        have HB6 := Lib.hid (HB.out.trans (hb6.mono HB.out.size))
        obtain ⟨o6, c6, rfl⟩ := hv.form
        have HV := Lib.hid hv
        obtain ⟨nd, hnd⟩ : ∃ nd, ds.length = nd := ⟨_, rfl⟩
        rw [hnd] at hds40 HV
        simp only [hnd]
        have HND := Lib.hid hnd
        clear hb6 hv FR hnd
        go_wp2_with fail
        go_loopw [8] (fun iv wr => PlInv nd w6 iv wr) (fun iv _ => nd - (intOf iv).toNat)
        case atStart => exact ⟨0, Nat.zero_le _, rfl, Below.refl _ _⟩
        case round =>
          clear HB
          obtain ⟨i, hi, rfl, hbw⟩ := hrel
          have HB := Lib.hid hbw
          have hsr := hbw.size
          clear hbw
          by_cases hlt2 : i < nd
          · have q3 : decide ((i : Int) < (nd : Int)) = true := decide_eq_true (by omega)
            have hid : i < ds.length := by rw [HND.out]; exact hlt2
            obtain ⟨g, o, k5, t5, mv5, lv5, p5, rfl, hS, -, hat, e0, e1, e2, e3, e4, o5, o7⟩ := (HV.out.keeps (Keeps.of_below HB.out)).get i hid
            have hg : g < wr.heap.size := World.block_lt_of_cell? wr _ e0
            have hsj := HSZ.out ds[i] (List.getElem_mem hid)
            have hst5 := HSTP.out ds[i] (List.getElem_mem hid)
            have hp5 := At_place hat
            have HX' := stands_any X (by omega) 1000000 (by decide) ds[i] (by omega) hst5 _ _ wr.drew (Dt.At.keeps (Keeps.of_below (Below.refl _ _).drew) _ _ hat)
            have HX2 := Lib.hid HX'
            by_cases hi0 : i = 0
            · subst hi0
              simp only [Nat.zero_mul, Nat.add_zero] at e0 e1 e2 e3 e4
              have E0 := Lib.hid e0
              have E1 := Lib.hid e1
              have E2 := Lib.hid e2
              have E3 := Lib.hid e3
              have E4 := Lib.hid e4
              clear HX' hat hS e0 e1 e2 e3 e4 hst5 hsj hp5
              go_upto_region 14 with fail
              clear q3
              refine wp_region_noPanic ?_
              refine wp_region_held_drew (S := Below wr.heap.size wr) (by kernel_rfl) ((Below.refl _ _).drew) (fun hHeld => ?_)
              refine wpAnyH_take (i := 0) (v := Value.string X) rfl (by kernel_rfl) (by kernel_rfl) (by kernel_rfl) (fun _ _ _ h => h) (Or.inl ⟨rfl, fun w' hw' => ?_⟩) hHeld ?_
              · go_simp
              simp only [List.getElem_toArray, List.getElem_cons_succ, List.getElem_cons_zero, Act.put, List.setIfInBounds_toArray, List.set_cons_zero, List.set_cons_succ]
              refine wpAnyH_take (i := 1) (v := Value.slice (some ⟨g, o, none⟩) nd c6) rfl (by kernel_rfl) (by kernel_rfl) (by kernel_rfl) (fun _ _ _ h => h) (Or.inl ⟨rfl, fun w' hw' => ?_⟩) hHeld ?_
              · go_simp
              simp only [List.getElem_toArray, List.getElem_cons_succ, List.getElem_cons_zero, Act.put, List.setIfInBounds_toArray, List.set_cons_zero, List.set_cons_succ]
              refine wpAnyH_take (i := 2) (v := Value.int .i64 0) rfl (by kernel_rfl) (by kernel_rfl) (by kernel_rfl) (fun _ _ _ h => h) (Or.inl ⟨rfl, fun w' hw' => ?_⟩) hHeld ?_
              · go_simp
              simp only [List.getElem_toArray, List.getElem_cons_succ, List.getElem_cons_zero, Act.put, List.setIfInBounds_toArray, List.set_cons_zero, List.set_cons_succ]
              refine wpAnyH_take (i := 3) (v := Value.pointer (some ⟨g, o, none⟩)) rfl (by kernel_rfl) (by kernel_rfl) (by kernel_rfl) (fun _ _ _ h => h) (Or.inl ⟨rfl, fun w' hw' => ?_⟩) hHeld ?_
              · go_simp
              simp only [List.getElem_toArray, List.getElem_cons_succ, List.getElem_cons_zero, Act.put, List.setIfInBounds_toArray, List.set_cons_zero, List.set_cons_succ]
              refine wpAnyH_take (i := 4) (v := Value.agg #[.int .i64 k5, .string t5, mv5, lv5, .int .i64 p5]) rfl (by kernel_rfl) (by kernel_rfl) (by kernel_rfl) (fun _ _ _ h => h) (Or.inl ⟨rfl, fun w' hw' => ?_⟩) hHeld ?_
              · have qE0 := (hw'.cell (p := ⟨g, o, none⟩) (by show g < wr.heap.size; omega)).trans E0.out; have qE1 := (hw'.cell (p := ⟨g, o + 1, none⟩) (by show g < wr.heap.size; omega)).trans E1.out; have qE2 := (hw'.cell (p := ⟨g, o + 2, none⟩) (by show g < wr.heap.size; omega)).trans E2.out; have qE3 := (hw'.cell (p := ⟨g, o + 3, none⟩) (by show g < wr.heap.size; omega)).trans E3.out; have qE4 := (hw'.cell (p := ⟨g, o + 4, none⟩) (by show g < wr.heap.size; omega)).trans E4.out; go_simp
              simp only [List.getElem_toArray, List.getElem_cons_succ, List.getElem_cons_zero, Act.put, List.setIfInBounds_toArray, List.set_cons_zero, List.set_cons_succ]
              refine wpAnyH_ready (rs := [5]) (by kernel_rfl) (by simp) ?_
              refine (AllReadyH.cons rfl (fun K hK => ?_) AllReadyH.nil)
              go_simp
              refine HX2.out.mono ?_
              rintro e w7 ⟨rfl, hb⟩
              have hS7 : Below wr.heap.size wr w7 := (Below.refl wr.heap.size wr).drew.trans hb
              have HS7 := Lib.hid hS7
              refine hK.out _ _ hS7 (fun hHeld => ?_)
              clear hK K hb hS7
              try simp only [List.getElem_toArray, List.getElem_cons_succ, List.getElem_cons_zero, Act.put, List.setIfInBounds_toArray, List.set_cons_zero, List.set_cons_succ]
              refine wpAnyH_take (i := 6) (v := Value.bool false) rfl (by kernel_rfl) (by kernel_rfl) (by kernel_rfl) (fun _ _ _ h => h) (Or.inl ⟨rfl, fun w' hw' => ?_⟩) hHeld ?_
              · go_simp
              simp only [List.getElem_toArray, List.getElem_cons_succ, List.getElem_cons_zero, Act.put, List.setIfInBounds_toArray, List.set_cons_zero, List.set_cons_succ]
              refine wpAnyH_take (i := 7) (v := Value.bool false) rfl (by kernel_rfl) (by kernel_rfl) (by kernel_rfl) (fun _ _ _ h => h) (Or.inl ⟨rfl, fun w' hw' => ?_⟩) hHeld ?_
              · go_simp
              simp only [List.getElem_toArray, List.getElem_cons_succ, List.getElem_cons_zero, Act.put, List.setIfInBounds_toArray, List.set_cons_zero, List.set_cons_succ]
              refine wpAnyH_take (i := 8) (v := Value.int .i64 0) rfl (by kernel_rfl) (by kernel_rfl) (by kernel_rfl) (fun _ _ _ h => h) (Or.inl ⟨rfl, fun w' hw' => ?_⟩) hHeld ?_
              · go_simp
              simp only [List.getElem_toArray, List.getElem_cons_succ, List.getElem_cons_zero, Act.put, List.setIfInBounds_toArray, List.set_cons_zero, List.set_cons_succ]
              refine wpAnyH_take (i := 9) (v := Value.bool false) rfl (by kernel_rfl) (by kernel_rfl) (by kernel_rfl) (fun _ _ _ h => h) (Or.inl ⟨rfl, fun w' hw' => ?_⟩) hHeld ?_
              · go_simp <;> omega
              simp only [List.getElem_toArray, List.getElem_cons_succ, List.getElem_cons_zero, Act.put, List.setIfInBounds_toArray, List.set_cons_zero, List.set_cons_succ]
              refine wpAnyH_take (i := 10) (v := Value.bool false) rfl (by kernel_rfl) (by kernel_rfl) (by kernel_rfl) (fun _ _ _ h => h) (Or.inl ⟨rfl, fun w' hw' => ?_⟩) hHeld ?_
              · go_simp
              simp only [List.getElem_toArray, List.getElem_cons_succ, List.getElem_cons_zero, Act.put, List.setIfInBounds_toArray, List.set_cons_zero, List.set_cons_succ]
              refine wpAnyH_take (i := 11) (v := undef) rfl (by kernel_rfl) (by kernel_rfl) (by kernel_rfl) (fun _ _ _ h => h) (Or.inr ⟨rfl, rfl⟩) hHeld ?_
              simp only [List.getElem_toArray, List.getElem_cons_succ, List.getElem_cons_zero, Act.put, List.setIfInBounds_toArray, List.set_cons_zero, List.set_cons_succ]
              refine wpAnyH_take (i := 12) (v := undef) rfl (by kernel_rfl) (by kernel_rfl) (by kernel_rfl) (fun _ _ _ h => h) (Or.inr ⟨rfl, rfl⟩) hHeld ?_
              simp only [List.getElem_toArray, List.getElem_cons_succ, List.getElem_cons_zero, Act.put, List.setIfInBounds_toArray, List.set_cons_zero, List.set_cons_succ]
              refine wpAnyH_take (i := 13) (v := undef) rfl (by kernel_rfl) (by kernel_rfl) (by kernel_rfl) (fun _ _ _ h => h) (Or.inr ⟨rfl, rfl⟩) hHeld ?_
              simp only [List.getElem_toArray, List.getElem_cons_succ, List.getElem_cons_zero, Act.put, List.setIfInBounds_toArray, List.set_cons_zero, List.set_cons_succ]
              refine wpAnyH_take (i := 14) (v := undef) rfl (by kernel_rfl) (by kernel_rfl) (by kernel_rfl) (fun _ _ _ h => h) (Or.inr ⟨rfl, rfl⟩) hHeld ?_
              simp only [List.getElem_toArray, List.getElem_cons_succ, List.getElem_cons_zero, Act.put, List.setIfInBounds_toArray, List.set_cons_zero, List.set_cons_succ]
              refine wpAnyH_take (i := 15) (v := undef) rfl (by kernel_rfl) (by kernel_rfl) (by kernel_rfl) (fun _ _ _ h => h) (Or.inr ⟨rfl, rfl⟩) hHeld ?_
              simp only [List.getElem_toArray, List.getElem_cons_succ, List.getElem_cons_zero, Act.put, List.setIfInBounds_toArray, List.set_cons_zero, List.set_cons_succ]
              refine wpAnyH_take (i := 16) (v := undef) rfl (by kernel_rfl) (by kernel_rfl) (by kernel_rfl) (fun _ _ _ h => h) (Or.inr ⟨rfl, rfl⟩) hHeld ?_
              simp only [List.getElem_toArray, List.getElem_cons_succ, List.getElem_cons_zero, Act.put, List.setIfInBounds_toArray, List.set_cons_zero, List.set_cons_succ]
              refine wpAnyH_take (i := 17) (v := undef) rfl (by kernel_rfl) (by kernel_rfl) (by kernel_rfl) (fun _ _ _ h => h) (Or.inr ⟨rfl, rfl⟩) hHeld ?_
              simp only [List.getElem_toArray, List.getElem_cons_succ, List.getElem_cons_zero, Act.put, List.setIfInBounds_toArray, List.set_cons_zero, List.set_cons_succ]
              refine wpAnyH_take (i := 18) (v := undef) rfl (by kernel_rfl) (by kernel_rfl) (by kernel_rfl) (fun _ _ _ h => h) (Or.inr ⟨rfl, rfl⟩) hHeld ?_
              simp only [List.getElem_toArray, List.getElem_cons_succ, List.getElem_cons_zero, Act.put, List.setIfInBounds_toArray, List.set_cons_zero, List.set_cons_succ]
              refine wpAnyH_take (i := 19) (v := undef) rfl (by kernel_rfl) (by kernel_rfl) (by kernel_rfl) (fun _ _ _ h => h) (Or.inr ⟨rfl, rfl⟩) hHeld ?_
              simp only [List.getElem_toArray, List.getElem_cons_succ, List.getElem_cons_zero, Act.put, List.setIfInBounds_toArray, List.set_cons_zero, List.set_cons_succ]
              refine wpAnyH_take (i := 20) (v := undef) rfl (by kernel_rfl) (by kernel_rfl) (by kernel_rfl) (fun _ _ _ h => h) (Or.inr ⟨rfl, rfl⟩) hHeld ?_
              simp only [List.getElem_toArray, List.getElem_cons_succ, List.getElem_cons_zero, Act.put, List.setIfInBounds_toArray, List.set_cons_zero, List.set_cons_succ]
              refine wpAnyH_take (i := 21) (v := undef) rfl (by kernel_rfl) (by kernel_rfl) (by kernel_rfl) (fun _ _ _ h => h) (Or.inr ⟨rfl, rfl⟩) hHeld ?_
              simp only [List.getElem_toArray, List.getElem_cons_succ, List.getElem_cons_zero, Act.put, List.setIfInBounds_toArray, List.set_cons_zero, List.set_cons_succ]
              refine wpAnyH_take (i := 22) (v := undef) rfl (by kernel_rfl) (by kernel_rfl) (by kernel_rfl) (fun _ _ _ h => h) (Or.inr ⟨rfl, rfl⟩) hHeld ?_
              simp only [List.getElem_toArray, List.getElem_cons_succ, List.getElem_cons_zero, Act.put, List.setIfInBounds_toArray, List.set_cons_zero, List.set_cons_succ]
              refine wpAnyH_take (i := 23) (v := Value.bool false) rfl (by kernel_rfl) (by kernel_rfl) (by kernel_rfl) (fun _ _ _ h => h) (Or.inl ⟨rfl, fun w' hw' => ?_⟩) hHeld ?_
              · go_simp
              simp only [List.getElem_toArray, List.getElem_cons_succ, List.getElem_cons_zero, Act.put, List.setIfInBounds_toArray, List.set_cons_zero, List.set_cons_succ]
              refine wpAnyH_take (i := 24) (v := Value.bool false) rfl (by kernel_rfl) (by kernel_rfl) (by kernel_rfl) (fun _ _ _ h => h) (Or.inl ⟨rfl, fun w' hw' => ?_⟩) hHeld ?_
              · go_simp
              simp only [List.getElem_toArray, List.getElem_cons_succ, List.getElem_cons_zero, Act.put, List.setIfInBounds_toArray, List.set_cons_zero, List.set_cons_succ]
              refine wpAnyH_done (by kernel_rfl) ?_ _
              refine NoPanic.normal ?_
              clear hHeld
              have HN := Lib.hid (HB.out.trans (HS7.out.mono HB.out.size))
              go_wp2_with fail
              go_roundw
              case rel => exact ⟨1, by omega, rfl, HN.out⟩
              case measure => simp [intOf]; omega
            · obtain ⟨m, hm⟩ : ∃ m, i = m + 1 := ⟨i - 1, by omega⟩
              obtain ⟨k6, t6, mv6, lv6, p6, hat6, f0, f1, f2, f3, f4⟩ := (HV.out.keeps (Keeps.of_below HB.out)).at m (by omega)
              have hp6 := At_place hat6
              have hin := HINC.out m (by omega)
              have hlt6 : p6 < p5 := by rw [hp5, hp6]; subst hm; exact hin
              have F4 := Lib.hid f4
              have HIM : Hid (((i : Int) - 1) = (m : Int)) := by show _ = _; omega
              have hmi : m < nd := by omega
              have E0 := Lib.hid e0
              have E1 := Lib.hid e1
              have E2 := Lib.hid e2
              have E3 := Lib.hid e3
              have E4 := Lib.hid e4
              clear HX' hat hS e0 e1 e2 e3 e4 hst5 hsj hat6 f0 f1 f2 f3 f4 hp5 hp6 hin hm
              go_upto_region 14 with fail
              clear q3
              refine wp_region_noPanic ?_
              refine wp_region_held_drew (S := Below wr.heap.size wr) (by kernel_rfl) ((Below.refl _ _).drew) (fun hHeld => ?_)
              refine wpAnyH_take (i := 0) (v := Value.string X) rfl (by kernel_rfl) (by kernel_rfl) (by kernel_rfl) (fun _ _ _ h => h) (Or.inl ⟨rfl, fun w' hw' => ?_⟩) hHeld ?_
              · go_simp
              simp only [List.getElem_toArray, List.getElem_cons_succ, List.getElem_cons_zero, Act.put, List.setIfInBounds_toArray, List.set_cons_zero, List.set_cons_succ]
              refine wpAnyH_take (i := 1) (v := Value.slice (some ⟨g, o, none⟩) nd c6) rfl (by kernel_rfl) (by kernel_rfl) (by kernel_rfl) (fun _ _ _ h => h) (Or.inl ⟨rfl, fun w' hw' => ?_⟩) hHeld ?_
              · go_simp
              simp only [List.getElem_toArray, List.getElem_cons_succ, List.getElem_cons_zero, Act.put, List.setIfInBounds_toArray, List.set_cons_zero, List.set_cons_succ]
              refine wpAnyH_take (i := 2) (v := Value.int .i64 i) rfl (by kernel_rfl) (by kernel_rfl) (by kernel_rfl) (fun _ _ _ h => h) (Or.inl ⟨rfl, fun w' hw' => ?_⟩) hHeld ?_
              · go_simp
              simp only [List.getElem_toArray, List.getElem_cons_succ, List.getElem_cons_zero, Act.put, List.setIfInBounds_toArray, List.set_cons_zero, List.set_cons_succ]
              refine wpAnyH_take (i := 3) (v := Value.pointer (some ⟨g, o + i * 5, none⟩)) rfl (by kernel_rfl) (by kernel_rfl) (by kernel_rfl) (fun _ _ _ h => h) (Or.inl ⟨rfl, fun w' hw' => ?_⟩) hHeld ?_
              · go_simp
              simp only [List.getElem_toArray, List.getElem_cons_succ, List.getElem_cons_zero, Act.put, List.setIfInBounds_toArray, List.set_cons_zero, List.set_cons_succ]
              refine wpAnyH_take (i := 4) (v := Value.agg #[.int .i64 k5, .string t5, mv5, lv5, .int .i64 p5]) rfl (by kernel_rfl) (by kernel_rfl) (by kernel_rfl) (fun _ _ _ h => h) (Or.inl ⟨rfl, fun w' hw' => ?_⟩) hHeld ?_
              · have qE0 := (hw'.cell (p := ⟨g, o + i * 5, none⟩) (by show g < wr.heap.size; omega)).trans E0.out; have qE1 := (hw'.cell (p := ⟨g, o + i * 5 + 1, none⟩) (by show g < wr.heap.size; omega)).trans E1.out; have qE2 := (hw'.cell (p := ⟨g, o + i * 5 + 2, none⟩) (by show g < wr.heap.size; omega)).trans E2.out; have qE3 := (hw'.cell (p := ⟨g, o + i * 5 + 3, none⟩) (by show g < wr.heap.size; omega)).trans E3.out; have qE4 := (hw'.cell (p := ⟨g, o + i * 5 + 4, none⟩) (by show g < wr.heap.size; omega)).trans E4.out; go_simp
              simp only [List.getElem_toArray, List.getElem_cons_succ, List.getElem_cons_zero, Act.put, List.setIfInBounds_toArray, List.set_cons_zero, List.set_cons_succ]
              refine wpAnyH_ready (rs := [5]) (by kernel_rfl) (by simp) ?_
              refine (AllReadyH.cons rfl (fun K hK => ?_) AllReadyH.nil)
              go_simp
              refine HX2.out.mono ?_
              rintro e w7 ⟨rfl, hb⟩
              have hS7 : Below wr.heap.size wr w7 := (Below.refl wr.heap.size wr).drew.trans hb
              have HS7 := Lib.hid hS7
              refine hK.out _ _ hS7 (fun hHeld => ?_)
              clear hK K hb hS7
              try simp only [List.getElem_toArray, List.getElem_cons_succ, List.getElem_cons_zero, Act.put, List.setIfInBounds_toArray, List.set_cons_zero, List.set_cons_succ]
              refine wpAnyH_take (i := 6) (v := Value.bool false) rfl (by kernel_rfl) (by kernel_rfl) (by kernel_rfl) (fun _ _ _ h => h) (Or.inl ⟨rfl, fun w' hw' => ?_⟩) hHeld ?_
              · go_simp
              simp only [List.getElem_toArray, List.getElem_cons_succ, List.getElem_cons_zero, Act.put, List.setIfInBounds_toArray, List.set_cons_zero, List.set_cons_succ]
              refine wpAnyH_take (i := 7) (v := Value.bool false) rfl (by kernel_rfl) (by kernel_rfl) (by kernel_rfl) (fun _ _ _ h => h) (Or.inl ⟨rfl, fun w' hw' => ?_⟩) hHeld ?_
              · go_simp
              simp only [List.getElem_toArray, List.getElem_cons_succ, List.getElem_cons_zero, Act.put, List.setIfInBounds_toArray, List.set_cons_zero, List.set_cons_succ]
              refine wpAnyH_take (i := 8) (v := Value.int .i64 i) rfl (by kernel_rfl) (by kernel_rfl) (by kernel_rfl) (fun _ _ _ h => h) (Or.inl ⟨rfl, fun w' hw' => ?_⟩) hHeld ?_
              · go_simp
              simp only [List.getElem_toArray, List.getElem_cons_succ, List.getElem_cons_zero, Act.put, List.setIfInBounds_toArray, List.set_cons_zero, List.set_cons_succ]
              refine wpAnyH_take (i := 9) (v := Value.bool true) rfl (by kernel_rfl) (by kernel_rfl) (by kernel_rfl) (fun _ _ _ h => h) (Or.inl ⟨rfl, fun w' hw' => ?_⟩) hHeld ?_
              · go_simp <;> omega
              simp only [List.getElem_toArray, List.getElem_cons_succ, List.getElem_cons_zero, Act.put, List.setIfInBounds_toArray, List.set_cons_zero, List.set_cons_succ]
              refine wpAnyH_take (i := 10) (v := Value.bool true) rfl (by kernel_rfl) (by kernel_rfl) (by kernel_rfl) (fun _ _ _ h => h) (Or.inl ⟨rfl, fun w' hw' => ?_⟩) hHeld ?_
              · go_simp
              simp only [List.getElem_toArray, List.getElem_cons_succ, List.getElem_cons_zero, Act.put, List.setIfInBounds_toArray, List.set_cons_zero, List.set_cons_succ]
              refine wpAnyH_take (i := 11) (v := Value.slice (some ⟨g, o, none⟩) nd c6) rfl (by kernel_rfl) (by kernel_rfl) (by kernel_rfl) (fun _ _ _ h => h) (Or.inl ⟨rfl, fun w' hw' => ?_⟩) hHeld ?_
              · go_simp
              simp only [List.getElem_toArray, List.getElem_cons_succ, List.getElem_cons_zero, Act.put, List.setIfInBounds_toArray, List.set_cons_zero, List.set_cons_succ]
              refine wpAnyH_take (i := 12) (v := Value.int .i64 i) rfl (by kernel_rfl) (by kernel_rfl) (by kernel_rfl) (fun _ _ _ h => h) (Or.inl ⟨rfl, fun w' hw' => ?_⟩) hHeld ?_
              · go_simp
              simp only [List.getElem_toArray, List.getElem_cons_succ, List.getElem_cons_zero, Act.put, List.setIfInBounds_toArray, List.set_cons_zero, List.set_cons_succ]
              refine wpAnyH_take (i := 13) (v := Value.int .i64 (m : Int)) rfl (by kernel_rfl) (by kernel_rfl) (by kernel_rfl) (fun _ _ _ h => h) (Or.inl ⟨rfl, fun w' hw' => ?_⟩) hHeld ?_
              · go_simp; exact (IntWalk.i64_in _ ⟨by omega, by omega⟩).trans HIM.out
              simp only [List.getElem_toArray, List.getElem_cons_succ, List.getElem_cons_zero, Act.put, List.setIfInBounds_toArray, List.set_cons_zero, List.set_cons_succ]
              refine wpAnyH_take (i := 14) (v := Value.pointer (some ⟨g, o + m * 5, none⟩)) rfl (by kernel_rfl) (by kernel_rfl) (by kernel_rfl) (fun _ _ _ h => h) (Or.inl ⟨rfl, fun w' hw' => ?_⟩) hHeld ?_
              · go_simp
              simp only [List.getElem_toArray, List.getElem_cons_succ, List.getElem_cons_zero, Act.put, List.setIfInBounds_toArray, List.set_cons_zero, List.set_cons_succ]
              refine wpAnyH_take (i := 15) (v := Value.pointer (some ⟨g, o + m * 5 + 4, none⟩)) rfl (by kernel_rfl) (by kernel_rfl) (by kernel_rfl) (fun _ _ _ h => h) (Or.inl ⟨rfl, fun w' hw' => ?_⟩) hHeld ?_
              · go_simp
              simp only [List.getElem_toArray, List.getElem_cons_succ, List.getElem_cons_zero, Act.put, List.setIfInBounds_toArray, List.set_cons_zero, List.set_cons_succ]
              refine wpAnyH_take (i := 16) (v := Value.int .i64 p6) rfl (by kernel_rfl) (by kernel_rfl) (by kernel_rfl) (fun _ _ _ h => h) (Or.inl ⟨rfl, fun w' hw' => ?_⟩) hHeld ?_
              · have q9 := (hw'.cell (p := ⟨g, o + m * 5 + 4, none⟩) (by show g < wr.heap.size; omega)).trans F4.out; go_simp
              simp only [List.getElem_toArray, List.getElem_cons_succ, List.getElem_cons_zero, Act.put, List.setIfInBounds_toArray, List.set_cons_zero, List.set_cons_succ]
              refine wpAnyH_take (i := 17) (v := Value.slice (some ⟨g, o, none⟩) nd c6) rfl (by kernel_rfl) (by kernel_rfl) (by kernel_rfl) (fun _ _ _ h => h) (Or.inl ⟨rfl, fun w' hw' => ?_⟩) hHeld ?_
              · go_simp
              simp only [List.getElem_toArray, List.getElem_cons_succ, List.getElem_cons_zero, Act.put, List.setIfInBounds_toArray, List.set_cons_zero, List.set_cons_succ]
              refine wpAnyH_take (i := 18) (v := Value.int .i64 i) rfl (by kernel_rfl) (by kernel_rfl) (by kernel_rfl) (fun _ _ _ h => h) (Or.inl ⟨rfl, fun w' hw' => ?_⟩) hHeld ?_
              · go_simp
              simp only [List.getElem_toArray, List.getElem_cons_succ, List.getElem_cons_zero, Act.put, List.setIfInBounds_toArray, List.set_cons_zero, List.set_cons_succ]
              refine wpAnyH_take (i := 19) (v := Value.pointer (some ⟨g, o + i * 5, none⟩)) rfl (by kernel_rfl) (by kernel_rfl) (by kernel_rfl) (fun _ _ _ h => h) (Or.inl ⟨rfl, fun w' hw' => ?_⟩) hHeld ?_
              · go_simp
              simp only [List.getElem_toArray, List.getElem_cons_succ, List.getElem_cons_zero, Act.put, List.setIfInBounds_toArray, List.set_cons_zero, List.set_cons_succ]
              refine wpAnyH_take (i := 20) (v := Value.pointer (some ⟨g, o + i * 5 + 4, none⟩)) rfl (by kernel_rfl) (by kernel_rfl) (by kernel_rfl) (fun _ _ _ h => h) (Or.inl ⟨rfl, fun w' hw' => ?_⟩) hHeld ?_
              · go_simp
              simp only [List.getElem_toArray, List.getElem_cons_succ, List.getElem_cons_zero, Act.put, List.setIfInBounds_toArray, List.set_cons_zero, List.set_cons_succ]
              refine wpAnyH_take (i := 21) (v := Value.int .i64 p5) rfl (by kernel_rfl) (by kernel_rfl) (by kernel_rfl) (fun _ _ _ h => h) (Or.inl ⟨rfl, fun w' hw' => ?_⟩) hHeld ?_
              · have q9 := (hw'.cell (p := ⟨g, o + i * 5 + 4, none⟩) (by show g < wr.heap.size; omega)).trans E4.out; go_simp
              simp only [List.getElem_toArray, List.getElem_cons_succ, List.getElem_cons_zero, Act.put, List.setIfInBounds_toArray, List.set_cons_zero, List.set_cons_succ]
              refine wpAnyH_take (i := 22) (v := Value.bool false) rfl (by kernel_rfl) (by kernel_rfl) (by kernel_rfl) (fun _ _ _ h => h) (Or.inl ⟨rfl, fun w' hw' => ?_⟩) hHeld ?_
              · go_simp <;> omega
              simp only [List.getElem_toArray, List.getElem_cons_succ, List.getElem_cons_zero, Act.put, List.setIfInBounds_toArray, List.set_cons_zero, List.set_cons_succ]
              refine wpAnyH_take (i := 23) (v := Value.bool false) rfl (by kernel_rfl) (by kernel_rfl) (by kernel_rfl) (fun _ _ _ h => h) (Or.inl ⟨rfl, fun w' hw' => ?_⟩) hHeld ?_
              · go_simp
              simp only [List.getElem_toArray, List.getElem_cons_succ, List.getElem_cons_zero, Act.put, List.setIfInBounds_toArray, List.set_cons_zero, List.set_cons_succ]
              refine wpAnyH_take (i := 24) (v := Value.bool false) rfl (by kernel_rfl) (by kernel_rfl) (by kernel_rfl) (fun _ _ _ h => h) (Or.inl ⟨rfl, fun w' hw' => ?_⟩) hHeld ?_
              · go_simp
              simp only [List.getElem_toArray, List.getElem_cons_succ, List.getElem_cons_zero, Act.put, List.setIfInBounds_toArray, List.set_cons_zero, List.set_cons_succ]
              refine wpAnyH_done (by kernel_rfl) ?_ _
              refine NoPanic.normal ?_
              clear hHeld
              have HN := Lib.hid (HB.out.trans (HS7.out.mono HB.out.size))
              go_wp2_with fail
              go_roundw
              case rel => exact ⟨i + 1, by omega, by go_num, HN.out⟩
              case measure => simp [intOf]; omega
          · obtain rfl : i = nd := by omega
            have q3 : decide ((i : Int) < (i : Int)) = false := decide_eq_false (by omega)
            go_wp2_with fail
            go_ret
            exact ⟨rfl, HB6.out.trans (HB.out.mono HB6.out.size)⟩
    · have q1 : decide ((j : Int) < (len : Int)) = false := decide_eq_false (by omega)
      obtain ⟨ds, ⟨n, hn⟩, hstp, hsz3, hinc, hdl⟩ := all_ex ks X HX.out
      have FR := Lib.hid (read_any X wr (by omega) n _ hn)
      clear hn
      have HSTP := Lib.hid hstp
      have HSZ := Lib.hid hsz3
      have HINC := Lib.hid hinc
      clear hstp hsz3 hinc
      rw [HJ.out] at hdl
      have hds40 : ds.length ≤ 40 := by omega
      clear hdl
      go_wp2_with fail
      refine FR.out.mono ?_
      rintro e w6 ⟨hb6, v, rfl, hv⟩
      have HB6 := Lib.hid (HB.out.trans (hb6.mono HB.out.size))
      obtain ⟨o6, c6, rfl⟩ := hv.form
      have HV := Lib.hid hv
      obtain ⟨nd, hnd⟩ : ∃ nd, ds.length = nd := ⟨_, rfl⟩
      rw [hnd] at hds40 HV
      simp only [hnd]
      have HND := Lib.hid hnd
      clear hb6 hv FR hnd
      go_wp2_with fail
      go_loopw [8] (fun iv wr => PlInv nd w6 iv wr) (fun iv _ => nd - (intOf iv).toNat)
      case atStart => exact ⟨0, Nat.zero_le _, rfl, Below.refl _ _⟩
      case round =>
        clear HB
        obtain ⟨i, hi, rfl, hbw⟩ := hrel
        have HB := Lib.hid hbw
        have hsr := hbw.size
        clear hbw
        by_cases hlt2 : i < nd
        · have q3 : decide ((i : Int) < (nd : Int)) = true := decide_eq_true (by omega)
          have hid : i < ds.length := by rw [HND.out]; exact hlt2
          obtain ⟨g, o, k5, t5, mv5, lv5, p5, rfl, hS, -, hat, e0, e1, e2, e3, e4, o5, o7⟩ := (HV.out.keeps (Keeps.of_below HB.out)).get i hid
          have hg : g < wr.heap.size := World.block_lt_of_cell? wr _ e0
          have hsj := HSZ.out ds[i] (List.getElem_mem hid)
          have hst5 := HSTP.out ds[i] (List.getElem_mem hid)
          have hp5 := At_place hat
          have HX' := stands_any X (by omega) 1000000 (by decide) ds[i] (by omega) hst5 _ _ wr.drew (Dt.At.keeps (Keeps.of_below (Below.refl _ _).drew) _ _ hat)
          have HX2 := Lib.hid HX'
          by_cases hi0 : i = 0
          · subst hi0
            simp only [Nat.zero_mul, Nat.add_zero] at e0 e1 e2 e3 e4
            have E0 := Lib.hid e0
            have E1 := Lib.hid e1
            have E2 := Lib.hid e2
            have E3 := Lib.hid e3
            have E4 := Lib.hid e4
            clear HX' hat hS e0 e1 e2 e3 e4 hst5 hsj hp5
            go_upto_region 14 with fail
            clear q3
            refine wp_region_noPanic ?_
            refine wp_region_held_drew (S := Below wr.heap.size wr) (by kernel_rfl) ((Below.refl _ _).drew) (fun hHeld => ?_)
            refine wpAnyH_take (i := 0) (v := Value.string X) rfl (by kernel_rfl) (by kernel_rfl) (by kernel_rfl) (fun _ _ _ h => h) (Or.inl ⟨rfl, fun w' hw' => ?_⟩) hHeld ?_
            · go_simp
            simp only [List.getElem_toArray, List.getElem_cons_succ, List.getElem_cons_zero, Act.put, List.setIfInBounds_toArray, List.set_cons_zero, List.set_cons_succ]
            refine wpAnyH_take (i := 1) (v := Value.slice (some ⟨g, o, none⟩) nd c6) rfl (by kernel_rfl) (by kernel_rfl) (by kernel_rfl) (fun _ _ _ h => h) (Or.inl ⟨rfl, fun w' hw' => ?_⟩) hHeld ?_
            · go_simp
            simp only [List.getElem_toArray, List.getElem_cons_succ, List.getElem_cons_zero, Act.put, List.setIfInBounds_toArray, List.set_cons_zero, List.set_cons_succ]
            refine wpAnyH_take (i := 2) (v := Value.int .i64 0) rfl (by kernel_rfl) (by kernel_rfl) (by kernel_rfl) (fun _ _ _ h => h) (Or.inl ⟨rfl, fun w' hw' => ?_⟩) hHeld ?_
            · go_simp
            simp only [List.getElem_toArray, List.getElem_cons_succ, List.getElem_cons_zero, Act.put, List.setIfInBounds_toArray, List.set_cons_zero, List.set_cons_succ]
            refine wpAnyH_take (i := 3) (v := Value.pointer (some ⟨g, o, none⟩)) rfl (by kernel_rfl) (by kernel_rfl) (by kernel_rfl) (fun _ _ _ h => h) (Or.inl ⟨rfl, fun w' hw' => ?_⟩) hHeld ?_
            · go_simp
            simp only [List.getElem_toArray, List.getElem_cons_succ, List.getElem_cons_zero, Act.put, List.setIfInBounds_toArray, List.set_cons_zero, List.set_cons_succ]
            refine wpAnyH_take (i := 4) (v := Value.agg #[.int .i64 k5, .string t5, mv5, lv5, .int .i64 p5]) rfl (by kernel_rfl) (by kernel_rfl) (by kernel_rfl) (fun _ _ _ h => h) (Or.inl ⟨rfl, fun w' hw' => ?_⟩) hHeld ?_
            · have qE0 := (hw'.cell (p := ⟨g, o, none⟩) (by show g < wr.heap.size; omega)).trans E0.out; have qE1 := (hw'.cell (p := ⟨g, o + 1, none⟩) (by show g < wr.heap.size; omega)).trans E1.out; have qE2 := (hw'.cell (p := ⟨g, o + 2, none⟩) (by show g < wr.heap.size; omega)).trans E2.out; have qE3 := (hw'.cell (p := ⟨g, o + 3, none⟩) (by show g < wr.heap.size; omega)).trans E3.out; have qE4 := (hw'.cell (p := ⟨g, o + 4, none⟩) (by show g < wr.heap.size; omega)).trans E4.out; go_simp
            simp only [List.getElem_toArray, List.getElem_cons_succ, List.getElem_cons_zero, Act.put, List.setIfInBounds_toArray, List.set_cons_zero, List.set_cons_succ]
            refine wpAnyH_ready (rs := [5]) (by kernel_rfl) (by simp) ?_
            refine (AllReadyH.cons rfl (fun K hK => ?_) AllReadyH.nil)
            go_simp
            refine HX2.out.mono ?_
            rintro e w7 ⟨rfl, hb⟩
            have hS7 : Below wr.heap.size wr w7 := (Below.refl wr.heap.size wr).drew.trans hb
            have HS7 := Lib.hid hS7
            refine hK.out _ _ hS7 (fun hHeld => ?_)
            clear hK K hb hS7
            try simp only [List.getElem_toArray, List.getElem_cons_succ, List.getElem_cons_zero, Act.put, List.setIfInBounds_toArray, List.set_cons_zero, List.set_cons_succ]
            refine wpAnyH_take (i := 6) (v := Value.bool false) rfl (by kernel_rfl) (by kernel_rfl) (by kernel_rfl) (fun _ _ _ h => h) (Or.inl ⟨rfl, fun w' hw' => ?_⟩) hHeld ?_
            · go_simp
            simp only [List.getElem_toArray, List.getElem_cons_succ, List.getElem_cons_zero, Act.put, List.setIfInBounds_toArray, List.set_cons_zero, List.set_cons_succ]
            refine wpAnyH_take (i := 7) (v := Value.bool false) rfl (by kernel_rfl) (by kernel_rfl) (by kernel_rfl) (fun _ _ _ h => h) (Or.inl ⟨rfl, fun w' hw' => ?_⟩) hHeld ?_
            · go_simp
            simp only [List.getElem_toArray, List.getElem_cons_succ, List.getElem_cons_zero, Act.put, List.setIfInBounds_toArray, List.set_cons_zero, List.set_cons_succ]
            refine wpAnyH_take (i := 8) (v := Value.int .i64 0) rfl (by kernel_rfl) (by kernel_rfl) (by kernel_rfl) (fun _ _ _ h => h) (Or.inl ⟨rfl, fun w' hw' => ?_⟩) hHeld ?_
            · go_simp
            simp only [List.getElem_toArray, List.getElem_cons_succ, List.getElem_cons_zero, Act.put, List.setIfInBounds_toArray, List.set_cons_zero, List.set_cons_succ]
            refine wpAnyH_take (i := 9) (v := Value.bool false) rfl (by kernel_rfl) (by kernel_rfl) (by kernel_rfl) (fun _ _ _ h => h) (Or.inl ⟨rfl, fun w' hw' => ?_⟩) hHeld ?_
            · go_simp <;> omega
            simp only [List.getElem_toArray, List.getElem_cons_succ, List.getElem_cons_zero, Act.put, List.setIfInBounds_toArray, List.set_cons_zero, List.set_cons_succ]
            refine wpAnyH_take (i := 10) (v := Value.bool false) rfl (by kernel_rfl) (by kernel_rfl) (by kernel_rfl) (fun _ _ _ h => h) (Or.inl ⟨rfl, fun w' hw' => ?_⟩) hHeld ?_
            · go_simp
            simp only [List.getElem_toArray, List.getElem_cons_succ, List.getElem_cons_zero, Act.put, List.setIfInBounds_toArray, List.set_cons_zero, List.set_cons_succ]
            refine wpAnyH_take (i := 11) (v := undef) rfl (by kernel_rfl) (by kernel_rfl) (by kernel_rfl) (fun _ _ _ h => h) (Or.inr ⟨rfl, rfl⟩) hHeld ?_
            simp only [List.getElem_toArray, List.getElem_cons_succ, List.getElem_cons_zero, Act.put, List.setIfInBounds_toArray, List.set_cons_zero, List.set_cons_succ]
            refine wpAnyH_take (i := 12) (v := undef) rfl (by kernel_rfl) (by kernel_rfl) (by kernel_rfl) (fun _ _ _ h => h) (Or.inr ⟨rfl, rfl⟩) hHeld ?_
            simp only [List.getElem_toArray, List.getElem_cons_succ, List.getElem_cons_zero, Act.put, List.setIfInBounds_toArray, List.set_cons_zero, List.set_cons_succ]
            refine wpAnyH_take (i := 13) (v := undef) rfl (by kernel_rfl) (by kernel_rfl) (by kernel_rfl) (fun _ _ _ h => h) (Or.inr ⟨rfl, rfl⟩) hHeld ?_
            simp only [List.getElem_toArray, List.getElem_cons_succ, List.getElem_cons_zero, Act.put, List.setIfInBounds_toArray, List.set_cons_zero, List.set_cons_succ]
            refine wpAnyH_take (i := 14) (v := undef) rfl (by kernel_rfl) (by kernel_rfl) (by kernel_rfl) (fun _ _ _ h => h) (Or.inr ⟨rfl, rfl⟩) hHeld ?_
            simp only [List.getElem_toArray, List.getElem_cons_succ, List.getElem_cons_zero, Act.put, List.setIfInBounds_toArray, List.set_cons_zero, List.set_cons_succ]
            refine wpAnyH_take (i := 15) (v := undef) rfl (by kernel_rfl) (by kernel_rfl) (by kernel_rfl) (fun _ _ _ h => h) (Or.inr ⟨rfl, rfl⟩) hHeld ?_
            simp only [List.getElem_toArray, List.getElem_cons_succ, List.getElem_cons_zero, Act.put, List.setIfInBounds_toArray, List.set_cons_zero, List.set_cons_succ]
            refine wpAnyH_take (i := 16) (v := undef) rfl (by kernel_rfl) (by kernel_rfl) (by kernel_rfl) (fun _ _ _ h => h) (Or.inr ⟨rfl, rfl⟩) hHeld ?_
            simp only [List.getElem_toArray, List.getElem_cons_succ, List.getElem_cons_zero, Act.put, List.setIfInBounds_toArray, List.set_cons_zero, List.set_cons_succ]
            refine wpAnyH_take (i := 17) (v := undef) rfl (by kernel_rfl) (by kernel_rfl) (by kernel_rfl) (fun _ _ _ h => h) (Or.inr ⟨rfl, rfl⟩) hHeld ?_
            simp only [List.getElem_toArray, List.getElem_cons_succ, List.getElem_cons_zero, Act.put, List.setIfInBounds_toArray, List.set_cons_zero, List.set_cons_succ]
            refine wpAnyH_take (i := 18) (v := undef) rfl (by kernel_rfl) (by kernel_rfl) (by kernel_rfl) (fun _ _ _ h => h) (Or.inr ⟨rfl, rfl⟩) hHeld ?_
            simp only [List.getElem_toArray, List.getElem_cons_succ, List.getElem_cons_zero, Act.put, List.setIfInBounds_toArray, List.set_cons_zero, List.set_cons_succ]
            refine wpAnyH_take (i := 19) (v := undef) rfl (by kernel_rfl) (by kernel_rfl) (by kernel_rfl) (fun _ _ _ h => h) (Or.inr ⟨rfl, rfl⟩) hHeld ?_
            simp only [List.getElem_toArray, List.getElem_cons_succ, List.getElem_cons_zero, Act.put, List.setIfInBounds_toArray, List.set_cons_zero, List.set_cons_succ]
            refine wpAnyH_take (i := 20) (v := undef) rfl (by kernel_rfl) (by kernel_rfl) (by kernel_rfl) (fun _ _ _ h => h) (Or.inr ⟨rfl, rfl⟩) hHeld ?_
            simp only [List.getElem_toArray, List.getElem_cons_succ, List.getElem_cons_zero, Act.put, List.setIfInBounds_toArray, List.set_cons_zero, List.set_cons_succ]
            refine wpAnyH_take (i := 21) (v := undef) rfl (by kernel_rfl) (by kernel_rfl) (by kernel_rfl) (fun _ _ _ h => h) (Or.inr ⟨rfl, rfl⟩) hHeld ?_
            simp only [List.getElem_toArray, List.getElem_cons_succ, List.getElem_cons_zero, Act.put, List.setIfInBounds_toArray, List.set_cons_zero, List.set_cons_succ]
            refine wpAnyH_take (i := 22) (v := undef) rfl (by kernel_rfl) (by kernel_rfl) (by kernel_rfl) (fun _ _ _ h => h) (Or.inr ⟨rfl, rfl⟩) hHeld ?_
            simp only [List.getElem_toArray, List.getElem_cons_succ, List.getElem_cons_zero, Act.put, List.setIfInBounds_toArray, List.set_cons_zero, List.set_cons_succ]
            refine wpAnyH_take (i := 23) (v := Value.bool false) rfl (by kernel_rfl) (by kernel_rfl) (by kernel_rfl) (fun _ _ _ h => h) (Or.inl ⟨rfl, fun w' hw' => ?_⟩) hHeld ?_
            · go_simp
            simp only [List.getElem_toArray, List.getElem_cons_succ, List.getElem_cons_zero, Act.put, List.setIfInBounds_toArray, List.set_cons_zero, List.set_cons_succ]
            refine wpAnyH_take (i := 24) (v := Value.bool false) rfl (by kernel_rfl) (by kernel_rfl) (by kernel_rfl) (fun _ _ _ h => h) (Or.inl ⟨rfl, fun w' hw' => ?_⟩) hHeld ?_
            · go_simp
            simp only [List.getElem_toArray, List.getElem_cons_succ, List.getElem_cons_zero, Act.put, List.setIfInBounds_toArray, List.set_cons_zero, List.set_cons_succ]
            refine wpAnyH_done (by kernel_rfl) ?_ _
            refine NoPanic.normal ?_
            clear hHeld
            have HN := Lib.hid (HB.out.trans (HS7.out.mono HB.out.size))
            go_wp2_with fail
            go_roundw
            case rel => exact ⟨1, by omega, rfl, HN.out⟩
            case measure => simp [intOf]; omega
          · obtain ⟨m, hm⟩ : ∃ m, i = m + 1 := ⟨i - 1, by omega⟩
            obtain ⟨k6, t6, mv6, lv6, p6, hat6, f0, f1, f2, f3, f4⟩ := (HV.out.keeps (Keeps.of_below HB.out)).at m (by omega)
            have hp6 := At_place hat6
            have hin := HINC.out m (by omega)
            have hlt6 : p6 < p5 := by rw [hp5, hp6]; subst hm; exact hin
            have F4 := Lib.hid f4
            have HIM : Hid (((i : Int) - 1) = (m : Int)) := by show _ = _; omega
            have hmi : m < nd := by omega
            have E0 := Lib.hid e0
            have E1 := Lib.hid e1
            have E2 := Lib.hid e2
            have E3 := Lib.hid e3
            have E4 := Lib.hid e4
            clear HX' hat hS e0 e1 e2 e3 e4 hst5 hsj hat6 f0 f1 f2 f3 f4 hp5 hp6 hin hm
            go_upto_region 14 with fail
            clear q3
            refine wp_region_noPanic ?_
            refine wp_region_held_drew (S := Below wr.heap.size wr) (by kernel_rfl) ((Below.refl _ _).drew) (fun hHeld => ?_)
            refine wpAnyH_take (i := 0) (v := Value.string X) rfl (by kernel_rfl) (by kernel_rfl) (by kernel_rfl) (fun _ _ _ h => h) (Or.inl ⟨rfl, fun w' hw' => ?_⟩) hHeld ?_
            · go_simp
            simp only [List.getElem_toArray, List.getElem_cons_succ, List.getElem_cons_zero, Act.put, List.setIfInBounds_toArray, List.set_cons_zero, List.set_cons_succ]
            refine wpAnyH_take (i := 1) (v := Value.slice (some ⟨g, o, none⟩) nd c6) rfl (by kernel_rfl) (by kernel_rfl) (by kernel_rfl) (fun _ _ _ h => h) (Or.inl ⟨rfl, fun w' hw' => ?_⟩) hHeld ?_
            · go_simp
            simp only [List.getElem_toArray, List.getElem_cons_succ, List.getElem_cons_zero, Act.put, List.setIfInBounds_toArray, List.set_cons_zero, List.set_cons_succ]
            refine wpAnyH_take (i := 2) (v := Value.int .i64 i) rfl (by kernel_rfl) (by kernel_rfl) (by kernel_rfl) (fun _ _ _ h => h) (Or.inl ⟨rfl, fun w' hw' => ?_⟩) hHeld ?_
            · go_simp
            simp only [List.getElem_toArray, List.getElem_cons_succ, List.getElem_cons_zero, Act.put, List.setIfInBounds_toArray, List.set_cons_zero, List.set_cons_succ]
            refine wpAnyH_take (i := 3) (v := Value.pointer (some ⟨g, o + i * 5, none⟩)) rfl (by kernel_rfl) (by kernel_rfl) (by kernel_rfl) (fun _ _ _ h => h) (Or.inl ⟨rfl, fun w' hw' => ?_⟩) hHeld ?_
            · go_simp
            simp only [List.getElem_toArray, List.getElem_cons_succ, List.getElem_cons_zero, Act.put, List.setIfInBounds_toArray, List.set_cons_zero, List.set_cons_succ]
            refine wpAnyH_take (i := 4) (v := Value.agg #[.int .i64 k5, .string t5, mv5, lv5, .int .i64 p5]) rfl (by kernel_rfl) (by kernel_rfl) (by kernel_rfl) (fun _ _ _ h => h) (Or.inl ⟨rfl, fun w' hw' => ?_⟩) hHeld ?_
            · have qE0 := (hw'.cell (p := ⟨g, o + i * 5, none⟩) (by show g < wr.heap.size; omega)).trans E0.out; have qE1 := (hw'.cell (p := ⟨g, o + i * 5 + 1, none⟩) (by show g < wr.heap.size; omega)).trans E1.out; have qE2 := (hw'.cell (p := ⟨g, o + i * 5 + 2, none⟩) (by show g < wr.heap.size; omega)).trans E2.out; have qE3 := (hw'.cell (p := ⟨g, o + i * 5 + 3, none⟩) (by show g < wr.heap.size; omega)).trans E3.out; have qE4 := (hw'.cell (p := ⟨g, o + i * 5 + 4, none⟩) (by show g < wr.heap.size; omega)).trans E4.out; go_simp
            simp only [List.getElem_toArray, List.getElem_cons_succ, List.getElem_cons_zero, Act.put, List.setIfInBounds_toArray, List.set_cons_zero, List.set_cons_succ]
            refine wpAnyH_ready (rs := [5]) (by kernel_rfl) (by simp) ?_
            refine (AllReadyH.cons rfl (fun K hK => ?_) AllReadyH.nil)
            go_simp
            refine HX2.out.mono ?_
            rintro e w7 ⟨rfl, hb⟩
            have hS7 : Below wr.heap.size wr w7 := (Below.refl wr.heap.size wr).drew.trans hb
            have HS7 := Lib.hid hS7
            refine hK.out _ _ hS7 (fun hHeld => ?_)
            clear hK K hb hS7
            try simp only [List.getElem_toArray, List.getElem_cons_succ, List.getElem_cons_zero, Act.put, List.setIfInBounds_toArray, List.set_cons_zero, List.set_cons_succ]
            refine wpAnyH_take (i := 6) (v := Value.bool false) rfl (by kernel_rfl) (by kernel_rfl) (by kernel_rfl) (fun _ _ _ h => h) (Or.inl ⟨rfl, fun w' hw' => ?_⟩) hHeld ?_
            · go_simp
            simp only [List.getElem_toArray, List.getElem_cons_succ, List.getElem_cons_zero, Act.put, List.setIfInBounds_toArray, List.set_cons_zero, List.set_cons_succ]
            refine wpAnyH_take (i := 7) (v := Value.bool false) rfl (by kernel_rfl) (by kernel_rfl) (by kernel_rfl) (fun _ _ _ h => h) (Or.inl ⟨rfl, fun w' hw' => ?_⟩) hHeld ?_
            · go_simp
            simp only [List.getElem_toArray, List.getElem_cons_succ, List.getElem_cons_zero, Act.put, List.setIfInBounds_toArray, List.set_cons_zero, List.set_cons_succ]
            refine wpAnyH_take (i := 8) (v := Value.int .i64 i) rfl (by kernel_rfl) (by kernel_rfl) (by kernel_rfl) (fun _ _ _ h => h) (Or.inl ⟨rfl, fun w' hw' => ?_⟩) hHeld ?_
            · go_simp
            simp only [List.getElem_toArray, List.getElem_cons_succ, List.getElem_cons_zero, Act.put, List.setIfInBounds_toArray, List.set_cons_zero, List.set_cons_succ]
            refine wpAnyH_take (i := 9) (v := Value.bool true) rfl (by kernel_rfl) (by kernel_rfl) (by kernel_rfl) (fun _ _ _ h => h) (Or.inl ⟨rfl, fun w' hw' => ?_⟩) hHeld ?_
            · go_simp <;> omega
            simp only [List.getElem_toArray, List.getElem_cons_succ, List.getElem_cons_zero, Act.put, List.setIfInBounds_toArray, List.set_cons_zero, List.set_cons_succ]
            refine wpAnyH_take (i := 10) (v := Value.bool true) rfl (by kernel_rfl) (by kernel_rfl) (by kernel_rfl) (fun _ _ _ h => h) (Or.inl ⟨rfl, fun w' hw' => ?_⟩) hHeld ?_
            · go_simp
            simp only [List.getElem_toArray, List.getElem_cons_succ, List.getElem_cons_zero, Act.put, List.setIfInBounds_toArray, List.set_cons_zero, List.set_cons_succ]
            refine wpAnyH_take (i := 11) (v := Value.slice (some ⟨g, o, none⟩) nd c6) rfl (by kernel_rfl) (by kernel_rfl) (by kernel_rfl) (fun _ _ _ h => h) (Or.inl ⟨rfl, fun w' hw' => ?_⟩) hHeld ?_
            · go_simp
            simp only [List.getElem_toArray, List.getElem_cons_succ, List.getElem_cons_zero, Act.put, List.setIfInBounds_toArray, List.set_cons_zero, List.set_cons_succ]
            refine wpAnyH_take (i := 12) (v := Value.int .i64 i) rfl (by kernel_rfl) (by kernel_rfl) (by kernel_rfl) (fun _ _ _ h => h) (Or.inl ⟨rfl, fun w' hw' => ?_⟩) hHeld ?_
            · go_simp
            simp only [List.getElem_toArray, List.getElem_cons_succ, List.getElem_cons_zero, Act.put, List.setIfInBounds_toArray, List.set_cons_zero, List.set_cons_succ]
            refine wpAnyH_take (i := 13) (v := Value.int .i64 (m : Int)) rfl (by kernel_rfl) (by kernel_rfl) (by kernel_rfl) (fun _ _ _ h => h) (Or.inl ⟨rfl, fun w' hw' => ?_⟩) hHeld ?_
            · go_simp; exact (IntWalk.i64_in _ ⟨by omega, by omega⟩).trans HIM.out
            simp only [List.getElem_toArray, List.getElem_cons_succ, List.getElem_cons_zero, Act.put, List.setIfInBounds_toArray, List.set_cons_zero, List.set_cons_succ]
            refine wpAnyH_take (i := 14) (v := Value.pointer (some ⟨g, o + m * 5, none⟩)) rfl (by kernel_rfl) (by kernel_rfl) (by kernel_rfl) (fun _ _ _ h => h) (Or.inl ⟨rfl, fun w' hw' => ?_⟩) hHeld ?_
            · go_simp
            simp only [List.getElem_toArray, List.getElem_cons_succ, List.getElem_cons_zero, Act.put, List.setIfInBounds_toArray, List.set_cons_zero, List.set_cons_succ]
            refine wpAnyH_take (i := 15) (v := Value.pointer (some ⟨g, o + m * 5 + 4, none⟩)) rfl (by kernel_rfl) (by kernel_rfl) (by kernel_rfl) (fun _ _ _ h => h) (Or.inl ⟨rfl, fun w' hw' => ?_⟩) hHeld ?_
            · go_simp
            simp only [List.getElem_toArray, List.getElem_cons_succ, List.getElem_cons_zero, Act.put, List.setIfInBounds_toArray, List.set_cons_zero, List.set_cons_succ]
            refine wpAnyH_take (i := 16) (v := Value.int .i64 p6) rfl (by kernel_rfl) (by kernel_rfl) (by kernel_rfl) (fun _ _ _ h => h) (Or.inl ⟨rfl, fun w' hw' => ?_⟩) hHeld ?_
            · have q9 := (hw'.cell (p := ⟨g, o + m * 5 + 4, none⟩) (by show g < wr.heap.size; omega)).trans F4.out; go_simp
            simp only [List.getElem_toArray, List.getElem_cons_succ, List.getElem_cons_zero, Act.put, List.setIfInBounds_toArray, List.set_cons_zero, List.set_cons_succ]
            refine wpAnyH_take (i := 17) (v := Value.slice (some ⟨g, o, none⟩) nd c6) rfl (by kernel_rfl) (by kernel_rfl) (by kernel_rfl) (fun _ _ _ h => h) (Or.inl ⟨rfl, fun w' hw' => ?_⟩) hHeld ?_
            · go_simp
            simp only [List.getElem_toArray, List.getElem_cons_succ, List.getElem_cons_zero, Act.put, List.setIfInBounds_toArray, List.set_cons_zero, List.set_cons_succ]
            refine wpAnyH_take (i := 18) (v := Value.int .i64 i) rfl (by kernel_rfl) (by kernel_rfl) (by kernel_rfl) (fun _ _ _ h => h) (Or.inl ⟨rfl, fun w' hw' => ?_⟩) hHeld ?_
            · go_simp
            simp only [List.getElem_toArray, List.getElem_cons_succ, List.getElem_cons_zero, Act.put, List.setIfInBounds_toArray, List.set_cons_zero, List.set_cons_succ]
            refine wpAnyH_take (i := 19) (v := Value.pointer (some ⟨g, o + i * 5, none⟩)) rfl (by kernel_rfl) (by kernel_rfl) (by kernel_rfl) (fun _ _ _ h => h) (Or.inl ⟨rfl, fun w' hw' => ?_⟩) hHeld ?_
            · go_simp
            simp only [List.getElem_toArray, List.getElem_cons_succ, List.getElem_cons_zero, Act.put, List.setIfInBounds_toArray, List.set_cons_zero, List.set_cons_succ]
            refine wpAnyH_take (i := 20) (v := Value.pointer (some ⟨g, o + i * 5 + 4, none⟩)) rfl (by kernel_rfl) (by kernel_rfl) (by kernel_rfl) (fun _ _ _ h => h) (Or.inl ⟨rfl, fun w' hw' => ?_⟩) hHeld ?_
            · go_simp
            simp only [List.getElem_toArray, List.getElem_cons_succ, List.getElem_cons_zero, Act.put, List.setIfInBounds_toArray, List.set_cons_zero, List.set_cons_succ]
            refine wpAnyH_take (i := 21) (v := Value.int .i64 p5) rfl (by kernel_rfl) (by kernel_rfl) (by kernel_rfl) (fun _ _ _ h => h) (Or.inl ⟨rfl, fun w' hw' => ?_⟩) hHeld ?_
            · have q9 := (hw'.cell (p := ⟨g, o + i * 5 + 4, none⟩) (by show g < wr.heap.size; omega)).trans E4.out; go_simp
            simp only [List.getElem_toArray, List.getElem_cons_succ, List.getElem_cons_zero, Act.put, List.setIfInBounds_toArray, List.set_cons_zero, List.set_cons_succ]
            refine wpAnyH_take (i := 22) (v := Value.bool false) rfl (by kernel_rfl) (by kernel_rfl) (by kernel_rfl) (fun _ _ _ h => h) (Or.inl ⟨rfl, fun w' hw' => ?_⟩) hHeld ?_
            · go_simp <;> omega
            simp only [List.getElem_toArray, List.getElem_cons_succ, List.getElem_cons_zero, Act.put, List.setIfInBounds_toArray, List.set_cons_zero, List.set_cons_succ]
            refine wpAnyH_take (i := 23) (v := Value.bool false) rfl (by kernel_rfl) (by kernel_rfl) (by kernel_rfl) (fun _ _ _ h => h) (Or.inl ⟨rfl, fun w' hw' => ?_⟩) hHeld ?_
            · go_simp
            simp only [List.getElem_toArray, List.getElem_cons_succ, List.getElem_cons_zero, Act.put, List.setIfInBounds_toArray, List.set_cons_zero, List.set_cons_succ]
            refine wpAnyH_take (i := 24) (v := Value.bool false) rfl (by kernel_rfl) (by kernel_rfl) (by kernel_rfl) (fun _ _ _ h => h) (Or.inl ⟨rfl, fun w' hw' => ?_⟩) hHeld ?_
            · go_simp
            simp only [List.getElem_toArray, List.getElem_cons_succ, List.getElem_cons_zero, Act.put, List.setIfInBounds_toArray, List.set_cons_zero, List.set_cons_succ]
            refine wpAnyH_done (by kernel_rfl) ?_ _
            refine NoPanic.normal ?_
            clear hHeld
            have HN := Lib.hid (HB.out.trans (HS7.out.mono HB.out.size))
            go_wp2_with fail
            go_roundw
            case rel => exact ⟨i + 1, by omega, by go_num, HN.out⟩
            case measure => simp [intOf]; omega
        · obtain rfl : i = nd := by omega
          have q3 : decide ((i : Int) < (i : Int)) = false := decide_eq_false (by omega)
          go_wp2_with fail
          go_ret
          exact ⟨rfl, HB6.out.trans (HB.out.mono HB6.out.size)⟩

end Go.Proofs.YtkjcbaikebdmmaaDoor
