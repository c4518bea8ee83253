/- The contract of both, of two numbers' texts. -/
import Derived.Test.YtebadokchhnmfaaDoorD1
namespace Go.Proofs.YtebadokchhnmfaaDoor
open Go.RowKit Go.BigM
set_option linter.unusedVariables false

section
variable {P : Program}
theorem results_cells3 {fn : Func} {p1 p2 u : Tmp} {t1 t2 : TypeId} (h : fn.results = #[.cell p1 t1, .cell p2 t2, .tmp u]) (tmps : Array Value) (w : World) (g1 g2 : Nat) (T1 T2 : TypeId) (cs1 cs2 : Array Value) (d1 d2 : TypeDesc)
    (hp1 : tmps.getD p1 undef = .pointer (some ⟨g1, 0, none⟩)) (hp2 : tmps.getD p2 undef = .pointer (some ⟨g2, 0, none⟩)) (hg1 : w.heap[g1]? = some (.cells cs1 T1 (0, 0))) (hg2 : w.heap[g2]? = some (.cells cs2 T2 (0, 0)))
    (hu1 : P.underlying t1 = some d1) (hu2 : P.underlying t2 = some d2) (hd1 : (match d1 with | .struct _ | .array _ _ => true | _ => false) = true) (hd2 : (match d2 with | .struct _ | .array _ _ => true | _ => false) = true)
    (hi1 : (P.info? t1).map (·.size) = some cs1.size) (hi2 : (P.info? t2).map (·.size) = some cs2.size) :
    (results fn tmps).run P w = .ok (.tuple #[.agg cs1, .agg cs2, tmps.getD u undef]) w := by
  have hp1' : tmps[p1]?.getD undef = .pointer (some ⟨g1, 0, none⟩) := by simpa using hp1
  have hp2' : tmps[p2]?.getD undef = .pointer (some ⟨g2, 0, none⟩) := by simpa using hp2
  simp [results, h, hp1', hp2', asAddr, run_loadVar_row w g1 T1 t1 cs1 _ d1 hg1 hu1 hd1 hi1, run_loadVar_row w g2 T2 t2 cs2 _ d2 hg2 hu2 hd2 hi2]
theorem results_cells2 {fn : Func} {p1 p2 : Tmp} {t1 t2 : TypeId} (h : fn.results = #[.cell p1 t1, .cell p2 t2]) (tmps : Array Value) (w : World) (g1 g2 : Nat) (T1 T2 : TypeId) (cs1 cs2 : Array Value) (d1 d2 : TypeDesc)
    (hp1 : tmps.getD p1 undef = .pointer (some ⟨g1, 0, none⟩)) (hp2 : tmps.getD p2 undef = .pointer (some ⟨g2, 0, none⟩)) (hg1 : w.heap[g1]? = some (.cells cs1 T1 (0, 0))) (hg2 : w.heap[g2]? = some (.cells cs2 T2 (0, 0)))
    (hu1 : P.underlying t1 = some d1) (hu2 : P.underlying t2 = some d2) (hd1 : (match d1 with | .struct _ | .array _ _ => true | _ => false) = true) (hd2 : (match d2 with | .struct _ | .array _ _ => true | _ => false) = true)
    (hi1 : (P.info? t1).map (·.size) = some cs1.size) (hi2 : (P.info? t2).map (·.size) = some cs2.size) :
    (results fn tmps).run P w = .ok (.tuple #[.agg cs1, .agg cs2]) w := by
  have hp1' : tmps[p1]?.getD undef = .pointer (some ⟨g1, 0, none⟩) := by simpa using hp1
  have hp2' : tmps[p2]?.getD undef = .pointer (some ⟨g2, 0, none⟩) := by simpa using hp2
  simp [results, h, hp1', hp2', asAddr, run_loadVar_row w g1 T1 t1 cs1 _ d1 hg1 hu1 hd1 hi1, run_loadVar_row w g2 T2 t2 cs2 _ d2 hg2 hu2 hd2 hi2]
end

/-- It returns a number of this sign and this size; nothing that was there has turned. -/
def RetN (w : World) (b : Bool) (v : Nat) (e : Ending) (w' : World) : Prop :=
  ∃ L, e = .returned (.agg (Nm b L)) ∧ L.length = 46 ∧ Small L ∧ lval L = v ∧ Below w.heap.size w w'

theorem right_yes (s : ByteArray) (h : Canon s.data.toList) (w : World) (hs : s.size ≤ 5000) :
    Calls Tryd.prog 16 #[.string s] w fun e w' => e = .returned (.bool true) ∧ w = w' := by
  have := right_any s w hs
  rw [decide_eq_true h] at this
  exact this

theorem canon_size (s : ByteArray) (h : Canon s.data.toList) : s.size ≤ 201 := by
  obtain ⟨_, h2, _⟩ := h
  rw [Lib.size_eq]
  cases hb : low s.data.toList with
  | true => rw [strip_low _ hb, List.length_tail] at h2; omega
  | false => rw [strip_high _ hb] at h2; omega

theorem read_canon (s : ByteArray) (h : Canon s.data.toList) (w : World) : Calls Tryd.prog 43 #[.string s] w (RetN w (low s.data.toList) (dval (strip s.data.toList))) := by
  have hs := canon_size s h
  obtain ⟨h1, h2, h3, h4⟩ := h
  refine (read_any s ⟨(strip s.data.toList).toArray⟩ rfl (by omega) (by rw [Lib.size_mk]; exact h2) h3 (low s.data.toList) ?_ w).mono fun _ _ h => h
  rw [Lib.size_mk, Lib.size_eq]
  cases hb : low s.data.toList with
  | true =>
    rw [strip_low _ hb, List.length_tail]
    rw [strip_low _ hb, List.length_tail] at h1
    exact decide_eq_true (by omega)
  | false => rw [strip_high _ hb]; exact decide_eq_false (Nat.lt_irrefl _)

/-- What both answers of two numbers' texts. -/
def RetB (w : World) (b c : Bool) (v u : Nat) (e : Ending) (w' : World) : Prop :=
  ∃ L M, e = .returned (.tuple #[.agg (Nm b L), .agg (Nm c M), .bool true]) ∧ L.length = 46 ∧ Small L ∧ lval L = v ∧ M.length = 46 ∧ Small M ∧ lval M = u ∧ Below w.heap.size w w'

set_option maxHeartbeats 1000000 in
set_option maxRecDepth 100000 in
theorem both_any (s t : ByteArray) (hs : Canon s.data.toList) (ht : Canon t.data.toList) (w : World) :
    Calls Tryd.prog 30 #[.string s, .string t] w (RetB w (low s.data.toList) (low t.data.toList) (dval (strip s.data.toList)) (dval (strip t.data.toList))) := by
  have hs1 := canon_size s hs
  have ht1 := canon_size t ht
  obtain ⟨b, hb⟩ : ∃ b, b = low s.data.toList := ⟨_, rfl⟩
  obtain ⟨c, hc⟩ : ∃ c, c = low t.data.toList := ⟨_, rfl⟩
  obtain ⟨v, hv⟩ : ∃ v, v = dval (strip s.data.toList) := ⟨_, rfl⟩
  obtain ⟨u, hu⟩ : ∃ u, u = dval (strip t.data.toList) := ⟨_, rfl⟩
  have rs := read_canon s hs
  have rt := read_canon t ht
  rw [← hb, ← hv] at rs
  rw [← hc, ← hu] at rt
  rw [← hb, ← hc, ← hv, ← hu]
  have RS := Lib.hid rs
  have RT := Lib.hid rt
  have HS := Lib.hid hs
  have HT := Lib.hid ht
  clear rs rt hb hc hv hu hs ht
  go_enter Tryd.func30, Tryd.ntmps30
  go_wp2_with fail
  rw [Nm_zeros]
  have r1 : NRow ((w.alloc (.cells (Nm false Z46) 49)).alloc (.cells (Nm false Z46) 49)) w.heap.size false Z46 := (NRow.new w false Z46 _ rfl).alloc _
  have r2 : NRow ((w.alloc (.cells (Nm false Z46) 49)).alloc (.cells (Nm false Z46) 49)) (w.heap.size + 1) false Z46 := NRow.new _ false Z46 _ (by simp)
  have hB := ((Below.refl w.heap.size w).alloc (Nat.le_refl _) (.cells (Nm false Z46) 49)).alloc (by simp) (.cells (Nm false Z46) 49)
  have hZ : w.heap.size + 1 < ((w.alloc (.cells (Nm false Z46) 49)).alloc (.cells (Nm false Z46) 49)).heap.size := by simp
  generalize (w.alloc (.cells (Nm false Z46) 49)).alloc (.cells (Nm false Z46) 49) = W at r1 r2 hB hZ ⊢
  have R1 := Lib.hid r1
  have R2 := Lib.hid r2
  have HB := Lib.hid hB
  clear r1 r2 hB
  refine (right_yes s HS.out _ (by omega)).mono ?_
  rintro e w' ⟨rfl, rfl⟩
  go_wp2_with fail
  refine (right_yes t HT.out _ (by omega)).mono ?_
  rintro e w' ⟨rfl, rfl⟩
  go_wp2_with fail
  refine (RS.out _).mono ?_
  rintro e w1 ⟨L, rfl, hL, sL, vL, b1⟩
  have K1 := Lib.hid hL
  have K2 := Lib.hid vL
  have B1 := Lib.hid b1
  clear hL vL b1
  go_wp2_with fail
  refine (RT.out _).mono ?_
  rintro e w2 ⟨M, rfl, hM, sM, vM, b2⟩
  have K3 := Lib.hid hM
  have K4 := Lib.hid vM
  have BB : Hid (Below W.heap.size W w2) := B1.out.trans (b2.mono B1.out.size)
  have A1 : Hid (NRow w2 w.heap.size false Z46) := R1.out.below BB.out (by omega)
  have A2 : Hid (NRow w2 (w.heap.size + 1) false Z46) := R2.out.below BB.out (by omega)
  have AB : Hid (Below w.heap.size w w2) := HB.out.trans (BB.out.mono HB.out.size)
  clear hM vM b2
  go_wp2_with (first | (refine wpList_store_row rfl 49 _ _ rfl w.heap.size (Nm b L) rfl rfl 49 (Nm false Z46) A1.out (by rw [Nm_size, K1.out]; exact info49) (by rw [Nm_size, Nm_size, K1.out]; rfl) (Nm_one b L) ?_) | (refine wpList_store_row rfl 49 _ _ rfl (w.heap.size + 1) (Nm c M) rfl rfl 49 (Nm false Z46) (A2.out.other _ (by omega)) (by rw [Nm_size, K3.out]; exact info49) (by rw [Nm_size, Nm_size, K3.out]; rfl) (Nm_one c M) ?_))
  have A3 := Lib.hid (((A1.out.set b L).other (Nm c M) (show w.heap.size ≠ w.heap.size + 1 by omega)))
  have A4 := Lib.hid ((A2.out.other (Nm b L) (show w.heap.size + 1 ≠ w.heap.size by omega)).set c M)
  have AC := Lib.hid (below_setRow (below_setRow AB.out w.heap.size (Nm b L) (Nat.le_refl _)) (w.heap.size + 1) (Nm c M) (by omega))
  generalize (w2.setRow w.heap.size (Nm b L)).setRow (w.heap.size + 1) (Nm c M) = W'' at A3 A4 AC ⊢
  go_wp2
  refine bodyPost_ret (results_cells3 rfl _ _ w.heap.size (w.heap.size + 1) 49 49 (Nm b L) (Nm c M) _ _ rfl rfl A3.out A4.out Tryd.underlying49 Tryd.underlying49 rfl rfl (by rw [Nm_size, K1.out]; exact info49) (by rw [Nm_size, K3.out]; exact info49)) rfl ?_
  exact ⟨L, M, rfl, K1.out, sL, K2.out, K3.out, sM, K4.out, AC.out⟩
end Go.Proofs.YtebadokchhnmfaaDoor
