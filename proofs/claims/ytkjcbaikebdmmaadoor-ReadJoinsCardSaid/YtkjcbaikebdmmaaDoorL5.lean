/- The contract of boolean. -/
import Derived.Test.YtkjcbaikebdmmaaDoorL4
import Derived.Laws.ResultCell
import Derived.Laws.Rows
namespace Go.Proofs.YtkjcbaikebdmmaaDoor
open Go.RowKit Go.BigM
set_option linter.unusedVariables false
set_option linter.unusedSimpArgs false

def Z5 : Array Value := #[.int .i64 0, .string ⟨#[]⟩, .slice none 0 0, .slice none 0 0, .int .i64 0]
theorem info40 : (Tryd.prog.info? 40).map (·.size) = some 5 := by kernel_rfl
theorem alloc_at (w : World) (o : Obj) : (w.alloc o).heap[w.heap.size]? = some o := heap_alloc_new w o
def bAt (l t : List UInt8) : Bool := Lib.hasPrefix l t && (rowOf sset (Lib.trimPrefix l t) == 0)
/-- The #t or #f that a text begins with. -/
def boolOf (l : List UInt8) : Option ByteArray := if bAt l [35, 116] then some ⟨#[35, 116]⟩ else if bAt l [35, 102] then some ⟨#[35, 102]⟩ else none
/-- A datum that is no list, and how long it is there. -/
def tokCells : Option (Int × ByteArray × Nat) → Array Value
  | some (k, t, _) => #[.int .i64 k, .string t, .slice none 0 0, .slice none 0 0, .int .i64 0]
  | none => Z5
def tokLong : Option (Int × ByteArray × Nat) → Nat
  | some (_, _, n) => n
  | none => 0
def RetTok (r : Option (Int × ByteArray × Nat)) (w : World) (e : Ending) (w' : World) : Prop := e = .returned (.tuple #[.agg (tokCells r), .int .i64 (tokLong r)]) ∧ Below w.heap.size w w'
theorem below_setRowB {B : Nat} {v w : World} (h : Below B v w) (g : Nat) (cs : Array Value) (hg : B ≤ g) : Below B v (w.setRow g cs) := by
  refine ⟨h.os, h.tape, h.output, by simpa [World.setRow] using h.size, fun k hk => ?_⟩
  rw [← h.block k hk]
  unfold World.setRow
  simp only [Array.getElem?_modify]
  rw [if_neg (by omega)]
theorem results_row2 {P : Program} {fn : Func} {p u : Tmp} {ty : TypeId} (h : fn.results = #[.cell p ty, .tmp u]) (tmps : Array Value) (w : World) (g : Nat) (t : TypeId) (cs : Array Value) (fr : Nat × Nat) (d : TypeDesc) (r : Value)
    (hp : tmps.getD p undef = .pointer (some ⟨g, 0, none⟩)) (hg : w.heap[g]? = some (.cells cs t fr))
    (hu : P.underlying ty = some d) (hd : (match d with | .struct _ | .array _ _ => true | _ => false) = true) (hi : (P.info? ty).map (·.size) = some cs.size) (hr : tmps.getD u undef = r) :
    (results fn tmps).run P w = .ok (.tuple #[.agg cs, r]) w := by
  rw [results_cell_tmp h, hp, hr]
  simp [asAddr, run_loadVar_row w g t ty cs fr d hg hu hd hi]
theorem idx86_0 (a b : ByteArray) (w : World) : (Instr.index 86 (.agg #[.string a, .string b]) (.int .i64 0)).run Tryd.prog w = .ok (.string a) w := by kernel_rfl
theorem idx86_1 (a b : ByteArray) (w : World) : (Instr.index 86 (.agg #[.string a, .string b]) (.int .i64 1)).run Tryd.prog w = .ok (.string b) w := by kernel_rfl
def BoInv (l : List UInt8) (W iw : World) (iv : Value) : Prop := iw = W ∧ ((iv = .int .i64 0) ∨ (iv = .int .i64 1 ∧ bAt l [35, 116] = false) ∨ (iv = .int .i64 2 ∧ bAt l [35, 116] = false ∧ bAt l [35, 102] = false))

set_option maxHeartbeats 4000000 in
set_option maxRecDepth 100000 in
theorem boolean_any (s : ByteArray) (w : World) (hs : s.size ≤ 8000) :
    Calls Tryd.prog 44 #[.string s] w (RetTok ((boolOf s.data.toList).map (fun t => (2, t, 2))) w) := by
  have hW := alloc_at w (.cells Z5 40)
  have hB : Below w.heap.size w (w.alloc (.cells Z5 40)) := (Below.refl _ _).alloc (Nat.le_refl _) _
  have cut : ∀ (t : ByteArray), ∃ T : ByteArray, T.size ≤ 8000 ∧ T.data.toList = Lib.trimPrefix s.data.toList t.data.toList ∧ ∀ w, Calls Tryd.prog 56 #[.string s, .string t] w fun e w' => e = .returned (.tuple #[.string T, .bool (Lib.hasPrefix s.data.toList t.data.toList)]) ∧ w = w' := by
    intro t
    refine ⟨⟨(Lib.trimPrefix s.data.toList t.data.toList).toArray⟩, ?_, rfl, fun w => cut_any s t w⟩
    have h1 : (Lib.trimPrefix s.data.toList t.data.toList).length ≤ s.data.toList.length := by
      unfold Lib.trimPrefix
      split
      · simp
      · exact Nat.le_refl _
    rw [← Lib.size_eq] at h1
    simp only [ByteArray.size, List.size_toArray]
    simp only [ByteArray.size] at hs h1
    omega
  obtain ⟨T1, hz1, hl1, FC1⟩ := cut ⟨#[35, 116]⟩
  obtain ⟨T2, hz2, hl2, FC2⟩ := cut ⟨#[35, 102]⟩
  have FC1 := Lib.hid FC1
  have FC2 := Lib.hid FC2
  have FR1 := Lib.hid (fun w => row_any T1 ⟨sset.toArray⟩ w hz1)
  have FR2 := Lib.hid (fun w => row_any T2 ⟨sset.toArray⟩ w hz2)
  have a1 : bAt s.data.toList [35, 116] = (Lib.hasPrefix s.data.toList [35, 116] && (rowOf sset T1.data.toList == 0)) := by unfold bAt; rw [hl1]
  have a2 : bAt s.data.toList [35, 102] = (Lib.hasPrefix s.data.toList [35, 102] && (rowOf sset T2.data.toList == 0)) := by unfold bAt; rw [hl2]
  change Hid (∀ w, Calls Tryd.prog 56 #[.string s, .string ⟨#[35, 116]⟩] w fun e w' => e = .returned (.tuple #[.string T1, .bool (Lib.hasPrefix s.data.toList [35, 116])]) ∧ w = w') at FC1
  change Hid (∀ w, Calls Tryd.prog 56 #[.string s, .string ⟨#[35, 102]⟩] w fun e w' => e = .returned (.tuple #[.string T2, .bool (Lib.hasPrefix s.data.toList [35, 102])]) ∧ w = w') at FC2
  change Hid (∀ w, Calls Tryd.prog 45 #[.string T1, .string ⟨sset.toArray⟩] w fun e w' => e = .returned (.int .i64 (rowOf sset T1.data.toList)) ∧ w = w') at FR1
  change Hid (∀ w, Calls Tryd.prog 45 #[.string T2, .string ⟨sset.toArray⟩] w fun e w' => e = .returned (.int .i64 (rowOf sset T2.data.toList)) ∧ w = w') at FR2
  obtain ⟨p1, hp1⟩ : ∃ p, p = Lib.hasPrefix s.data.toList [35, 116] := ⟨_, rfl⟩
  obtain ⟨p2, hp2⟩ : ∃ p, p = Lib.hasPrefix s.data.toList [35, 102] := ⟨_, rfl⟩
  obtain ⟨r1, hr1⟩ : ∃ p, p = rowOf sset T1.data.toList := ⟨_, rfl⟩
  obtain ⟨r2, hr2⟩ : ∃ p, p = rowOf sset T2.data.toList := ⟨_, rfl⟩
  rw [← hp1] at FC1 a1
  rw [← hp2] at FC2 a2
  rw [← hr1] at FR1 a1
  rw [← hr2] at FR2 a2
  have A1 := Lib.hid a1
  have A2 := Lib.hid a2
  clear cut hl1 hl2 hz1 hz2 a1 a2 hp1 hp2 hr1 hr2
  go_enter Tryd.func44, Tryd.ntmps44
  go_wp2_with fail
  change Code.wp Tryd.prog _ _ _ (w.alloc (.cells Z5 40))
  generalize w.alloc (.cells Z5 40) = W at hW hB ⊢
  have HW := Lib.hid hW
  have HB := Lib.hid hB
  clear hW hB
  go_loopw [9] (fun iv wr => BoInv s.data.toList W wr iv) (fun iv _ => 2 - (intOf iv).toNat)
  case atStart => exact ⟨rfl, .inl rfl⟩
  case round =>
    obtain ⟨rfl, hrel⟩ := hrel
    rcases hrel with rfl | ⟨rfl, hf1⟩ | ⟨rfl, hf1, hf2⟩
    · have hI := idx86_0 ⟨#[35, 116]⟩ ⟨#[35, 102]⟩ wr
      go_wp2_with fail
      clear hI
      refine (FC1.out _).mono ?_
      rintro e w' ⟨rfl, rfl⟩
      cases p1 with
      | false =>
        go_wp2_with fail
        go_roundw
        case rel => exact ⟨rfl, .inr (.inl ⟨by go_num, by rw [A1.out]; simp⟩)⟩
        case measure => simp [intOf]
      | true =>
        go_wp2_with fail
        refine (FR1.out _).mono ?_
        rintro e w' ⟨rfl, rfl⟩
        by_cases hr : r1 = 0
        · have q : ((r1 : Int) == 0) = true := by rw [beq_iff_eq]; omega
          have z1 : (#[.int .i64 2, .string ⟨#[35, 116]⟩, .slice none 0 0, .slice none 0 0, .int .i64 0] : Array Value).all (·.oneCell') = true := by simp [Value.oneCell']
          have HE : Hid (boolOf s.data.toList = some ⟨#[35, 116]⟩) := by show _ = _; unfold boolOf; rw [A1.out, hr]; simp
          have HX := Lib.hid (setRow_heap wr w.heap.size _ #[.int .i64 2, .string ⟨#[35, 116]⟩, .slice none 0 0, .slice none 0 0, .int .i64 0] 40 _ HW.out)
          clear hr
          go_wp2_with (refine wpList_store_row rfl 40 _ _ rfl w.heap.size #[.int .i64 2, .string ⟨#[35, 116]⟩, .slice none 0 0, .slice none 0 0, .int .i64 0] rfl rfl 40 Z5 HW.out info40 rfl z1 ?_)
          refine bodyPost_ret (results_row2 rfl _ _ w.heap.size 40 #[.int .i64 2, .string ⟨#[35, 116]⟩, .slice none 0 0, .slice none 0 0, .int .i64 0] (0, 0) _ (.int .i64 2) rfl HX.out Tryd.underlying40 rfl info40 rfl) rfl ?_
          exact ⟨by rw [HE.out]; rfl, below_setRowB HB.out _ _ (Nat.le_refl _)⟩
        · have q : ((r1 : Int) == 0) = false := by rw [beq_eq_false_iff_ne]; omega
          have q2 : (r1 == 0) = false := by rw [beq_eq_false_iff_ne]; omega
          clear hr
          go_wp2_with fail
          go_roundw
          case rel => exact ⟨rfl, .inr (.inl ⟨by go_num, by rw [A1.out]; simp [q2]⟩)⟩
          case measure => simp [intOf]
    · have hI := idx86_1 ⟨#[35, 116]⟩ ⟨#[35, 102]⟩ wr
      go_wp2_with fail
      clear hI
      refine (FC2.out _).mono ?_
      rintro e w' ⟨rfl, rfl⟩
      cases p2 with
      | false =>
        go_wp2_with fail
        go_roundw
        case rel => exact ⟨rfl, .inr (.inr ⟨by go_num, hf1, by rw [A2.out]; simp⟩)⟩
        case measure => simp [intOf]
      | true =>
        go_wp2_with fail
        refine (FR2.out _).mono ?_
        rintro e w' ⟨rfl, rfl⟩
        by_cases hr : r2 = 0
        · have q : ((r2 : Int) == 0) = true := by rw [beq_iff_eq]; omega
          have z1 : (#[.int .i64 2, .string ⟨#[35, 102]⟩, .slice none 0 0, .slice none 0 0, .int .i64 0] : Array Value).all (·.oneCell') = true := by simp [Value.oneCell']
          have HE : Hid (boolOf s.data.toList = some ⟨#[35, 102]⟩) := by show _ = _; unfold boolOf; rw [A2.out, hr]; simp [hf1]
          have HX := Lib.hid (setRow_heap wr w.heap.size _ #[.int .i64 2, .string ⟨#[35, 102]⟩, .slice none 0 0, .slice none 0 0, .int .i64 0] 40 _ HW.out)
          clear hr
          go_wp2_with (refine wpList_store_row rfl 40 _ _ rfl w.heap.size #[.int .i64 2, .string ⟨#[35, 102]⟩, .slice none 0 0, .slice none 0 0, .int .i64 0] rfl rfl 40 Z5 HW.out info40 rfl z1 ?_)
          refine bodyPost_ret (results_row2 rfl _ _ w.heap.size 40 #[.int .i64 2, .string ⟨#[35, 102]⟩, .slice none 0 0, .slice none 0 0, .int .i64 0] (0, 0) _ (.int .i64 2) rfl HX.out Tryd.underlying40 rfl info40 rfl) rfl ?_
          exact ⟨by rw [HE.out]; rfl, below_setRowB HB.out _ _ (Nat.le_refl _)⟩
        · have q : ((r2 : Int) == 0) = false := by rw [beq_eq_false_iff_ne]; omega
          have q2 : (r2 == 0) = false := by rw [beq_eq_false_iff_ne]; omega
          clear hr
          go_wp2_with fail
          go_roundw
          case rel => exact ⟨rfl, .inr (.inr ⟨by go_num, hf1, by rw [A2.out]; simp [q2]⟩)⟩
          case measure => simp [intOf]
    · have z1 : Z5.all (·.oneCell') = true := by simp [Z5, Value.oneCell']
      have HE : Hid (boolOf s.data.toList = none) := by show _ = _; unfold boolOf; simp [hf1, hf2]
      have HX := Lib.hid (setRow_heap wr w.heap.size _ Z5 40 _ HW.out)
      go_wp2_with (refine wpList_store_row rfl 40 _ _ rfl w.heap.size Z5 rfl rfl 40 Z5 HW.out info40 rfl z1 ?_)
      refine bodyPost_ret (results_row2 rfl _ _ w.heap.size 40 Z5 (0, 0) _ (.int .i64 0) rfl HX.out Tryd.underlying40 rfl info40 rfl) rfl ?_
      exact ⟨by rw [HE.out]; rfl, below_setRowB HB.out _ _ (Nat.le_refl _)⟩
end Go.Proofs.YtkjcbaikebdmmaaDoor
