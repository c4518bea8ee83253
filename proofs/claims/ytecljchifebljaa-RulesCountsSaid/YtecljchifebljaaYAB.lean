/- Rules: the program's formed: in a pattern's list, and those within it, dots stand once at most, and behind a part. -/
import Derived.Test.YtecljchifebljaaYAA
import Derived.RangeFuncNested
import Derived.RangeFuncBound
import Derived.RangeFuncCalls
import Derived.RangeFuncLeaves
import Derived.Deep.RegionHeld3
import Derived.OwnWalk
import Derived.OrdersIn
import Derived.TacticsIn
import Derived.Maps.OwnRows
import Derived.Maps.OwnOps
import Derived.Maps.AppendAt
import Derived.WideKeyEntry
import Derived.DeepKeys4
import Derived.Test.YtecljchifebljaaProg
import Derived.Deep.RegionHeld
set_option linter.unusedVariables false
set_option linter.unusedSimpArgs false
namespace Go.Proofs.Ytecljchifebljaa
open Go.RowKit
mutual
/-- What is no list has no parts; texts are short. -/
def Dt.wf : Dt → Prop
 | .mk k t ms l p => (k ≠ 4 → l = []) ∧ t.size ≤ 1000000 ∧ wfs l ∧ ∀ m ∈ ms, (Lit.int .i64 m).wf = true
def wfs : List Dt → Prop
 | [] => True
 | d :: r => d.wf ∧ wfs r
end
theorem wf_mk (k : Int) (t : ByteArray) (ms : List Int) (l : List Dt) (p : Int) : (Dt.mk k t ms l p).wf ↔ (k ≠ 4 → l = []) ∧ t.size ≤ 1000000 ∧ wfs l ∧ ∀ m ∈ ms, (Lit.int .i64 m).wf = true := by rw [Dt.wf]
theorem wfs_get : ∀ {l : List Dt} (h : wfs l) (j : Nat) (hj : j < l.length), l[j].wf
 | [], _, _, h => absurd h (by simp)
 | d :: r, h, 0, _ => h.1
 | d :: r, h, j + 1, hj => wfs_get (l := r) h.2 j (by simpa using hj)
theorem wfs_of : ∀ {l : List Dt}, (∀ j (hj : j < l.length), l[j].wf) → wfs l
 | [], _ => trivial
 | d :: r, h => ⟨h 0 (by simp), wfs_of (l := r) fun j hj => h (j + 1) (by simpa using hj)⟩
theorem Dt.wf.parts {d : Dt} (h : d.wf) : wfs d.parts := by cases d; exact ((wf_mk ..).1 h).2.2.1
theorem Dt.wf.nums {d : Dt} (h : d.wf) : ∀ m ∈ d.marks, (Lit.int .i64 m).wf = true := by cases d; exact ((wf_mk ..).1 h).2.2.2
theorem Dt.wf.short {d : Dt} (h : d.wf) : d.text.size ≤ 1000000 := by cases d; exact ((wf_mk ..).1 h).2.1
theorem Dt.wf.leaf {d : Dt} (h : d.wf) (hk : d.kind ≠ 4) : d.parts = [] := by cases d; exact ((wf_mk ..).1 h).1 hk
/-- A list's dots: none at its head, no two. -/
def dotsOk (l : List Dt) : Bool := !(ixD l == 0) && !(decide (0 < ixD l) && (l.drop ((ixD l).toNat + 1)).any Dt.dots)
theorem pats_true : ∀ (l : List Dt), pats l false true = (l.all fun d => !d.dots && d.pat)
 | [] => by simp [pats]
 | d :: r => by
  rw [pats_cons, List.all_cons]
  cases h : d.dots
  ·rw [if_neg (by decide), pats_true r]; simp
  ·rw [if_pos rfl, if_pos (.inr rfl)]; simp
theorem fi_yes {d : Dt} {r : List Dt} (h : d.dots = true) : (d :: r).findIdx? Dt.dots = some 0 := by rw [List.findIdx?_cons, if_pos h]
theorem fi_no {d : Dt} {r : List Dt} (h : d.dots = false) : (d :: r).findIdx? Dt.dots = (r.findIdx? Dt.dots).map fun i => i + 1 := by rw [List.findIdx?_cons, if_neg (by rw [h]; decide)]
theorem pats_false : ∀ (l : List Dt), pats l false false = ((match l.findIdx? Dt.dots with | some i => !(l.drop (i + 1)).any Dt.dots | none => true) && l.all fun d => d.dots || d.pat)
 | [] => by simp [pats]
 | d :: r => by
  rw [pats_cons, List.all_cons]
  cases h : d.dots
  ·rw [if_neg (by decide), pats_false r, fi_no h]
   simp only [Bool.false_or]
   cases hr : r.findIdx? Dt.dots with
   | none => simp
   | some i => simp [Bool.and_left_comm]
  ·rw [if_pos rfl, if_neg (by simp), pats_true r, fi_yes h]
   simp only [Bool.true_or, Bool.true_and, List.drop_succ_cons, List.drop_zero]
   rw [Bool.eq_iff_iff]
   simp only [List.all_eq_true, Bool.and_eq_true, Bool.not_eq_true', List.any_eq_false, Bool.not_eq_true, Bool.or_eq_true]
   constructor
   ·intro H; exact ⟨fun x hx => (H x hx).1, fun x hx => .inr (H x hx).2⟩
   ·rintro ⟨H1, H2⟩ x hx; exact ⟨H1 x hx, (H2 x hx).resolve_left (by rw [H1 x hx]; decide)⟩
/-- What the program asks of a pattern's list is what the document asks. -/
theorem pats_is (l : List Dt) : pats l true false = (dotsOk l && l.all fun d => d.dots || d.pat) := by
 cases l with
 | nil => simp [pats, dotsOk, ixD]
 | cons d r =>
  rw [pats_cons, List.all_cons]
  unfold dotsOk ixD
  cases h : d.dots
  ·rw [if_neg (by decide), pats_false r, fi_no h]
   simp only [Bool.false_or]
   cases hr : r.findIdx? Dt.dots with
   | none => simp
   | some i =>
    have e1 : ((((i + 1 : Nat) : Int) == 0) : Bool) = false := by rw [beq_eq_false_iff_ne]; omega
    have e2 : decide ((0 : Int) < ((i + 1 : Nat) : Int)) = true := decide_eq_true (by omega)
    simp only [Option.map_some, e1, e2, Int.toNat_natCast, List.drop_succ_cons, Bool.not_false, Bool.true_and]
    exact Bool.and_left_comm ..
  ·rw [fi_yes h]; simp
end Go.Proofs.Ytecljchifebljaa
namespace Go.Proofs.Ytecljchifebljaa
open Go Go.RowKit
/-- An iterator that hands on A 0, A 1, .., A (N - 1), as long as the rounds go on; between two rounds it wants Kp kept. -/
def Hands (F : Fence) (n : Nat) (P : Program) (g : Nat) (lb : Array Value) (A : Nat → Array Value) (Kp : World → World → Prop) (N : Nat) (w0 : World) : Prop :=
 ∀ (l : Nat) (J Jx : Nat → World → Prop) (W : World), Below w0.heap.size w0 W → AbidesFrom W.heap.size J →
  (∀ k W1, k < N → J k W1 → YieldAt F (n - 1) P l (A k) W1 fun e W' => (e = .returned (.bool true) ∧ J (k + 1) W' ∧ Kp W1 W') ∨ (e = .returned (.bool false) ∧ Jx k W')) →
  J 0 W → CallsIn F n P g (#[.func (.yield l) #[] #[]] ++ lb) W fun e W' => (∃ v, e = .returned v) ∧ (J N W' ∨ ∃ k, k < N ∧ Jx k W')
/-- How a counted round may be left. -/
def countPost (B : Nat) (Kp : World → World → Prop) (I : Nat → World → Prop) (Ix : Code → Nat → World → Prop) (k : Nat) (W : World) : Exit → Act → World → Prop
 | .normal, _, W' => KeepsFrom B W W' ∧ Kp W W' ∧ I (k + 1) W'
 | .ret, _, W' => KeepsFrom B W W' ∧ Ix .ret k W'
 | .exit id, _, W' => KeepsFrom B W W' ∧ Ix (.exit id) k W'
 | .goto t, _, W' => KeepsFrom B W W' ∧ Ix (.goto t) k W'
 | .panic _, _, _ => False
 | .outgrown, _, _ => False
variable {F : Fence} {n : Nat} {P : Program}
theorem wpIn_rangeFunc_count {g : Operand} {ps : Array Tmp} {assign body : Code} {Q : Exit → Act → World → Prop} {a : Act} {w : World}
  (hro : F.round = none) (h1 : 1 ≤ n) {gf : Nat} {lb : Array Value} (hg : a.eval g = .func (.func gf) #[] lb) (hFg : F.fn gf) (eg : ∀ args w, (callFunc gf args).run P w = .ok (.enter gf args) w)
  {A : Nat → Array Value} {Kp : World → World → Prop} {N : Nat} {w0 : World} (hseq : Hands F (n - 1) P gf lb A Kp N w0)
  (hKt : ∀ {X Y Z : World}, Kp X Y → Kp Y Z → Kp X Z) (hKb : ∀ (W : World) (l : Nat) (o o' : Obj), w.heap.size ≤ l → W.heap[l]? = some o → o.isCells = false → o.isWalk = false → Kp W (W.putObj l o'))
  (hb0 : Below w0.heap.size w0 w) (hps : ∀ k, (A k).size = ps.size)
  (I : Nat → World → Prop) (Ix : Code → Nat → World → Prop) (hI : OwnFrom w.heap.size I) (hIx : ∀ c, OwnFrom w.heap.size (Ix c)) (h0 : I 0 w)
  (Ax : Nat → Act → World → Prop) (hAx : ∀ k a', OwnFrom w.heap.size (fun (_ : Unit) W => Ax k a' W))
  (hassign : ∀ (l k : Nat) (W : World) (K : Act → World → Prop), k < N → I k W → (∀ a' W', KeepsFrom w.heap.size W W' → Kp W W' → I k W' → Ax k a' W' → K a' W') →
   assign.wpIn (F.inRound l) (n - 1 - 1) P (Exit.then K (fun _ _ _ => False)) { tmps := (ps.zip (A k)).foldl (fun t (p, v) => t.setIfInBounds p v) a.tmps, defers := [] } W)
  (hbody : ∀ (l k : Nat) (a' : Act) (W : World), k < N → I k W → Ax k a' W → body.wpIn (F.inRound l) (n - 1 - 1) P (countPost w.heap.size Kp I Ix k W) a' W)
  (hdone : ∀ (D : Nat) (W : World), w.heap.size ≤ D → I N W → W.heap[D]? = some (.deferred (some [])) → Q .normal { a with defers := { target := .collected D, args := #[] } :: a.defers } W)
  (hstop : ∀ (D : Nat) (c : Code) (k : Nat) (W : World), w.heap.size ≤ D → k < N → Ix c k W → W.heap[D]? = some (.deferred (some [])) → c.wpIn F n P Q { a with defers := { target := .collected D, args := #[] } :: a.defers } W) :
  (Code.rangeFunc g ps assign body).wpIn F n P Q a w := by
 refine wpIn_rangeFunc fun fn hfn => ?_
 rw [hro]
 -- the loop's record, by its state and its pending jump
 let rec0 : LoopState → Option Code → Loop := fun st pe => { state := st, pending := pe, fn, tmps := a.tmps, params := ps, assign, body, defers := w.heap.size }
 obtain ⟨R, hR⟩ : ∃ R, R = rec0 := ⟨_, rfl⟩
 have hRp : ∀ s p, (R s p).params = ps ∧ (R s p).tmps = a.tmps ∧ (R s p).fn = fn ∧ (R s p).assign = assign ∧ (R s p).body = body ∧ (R s p).state = s ∧ (R s p).pending = p := by rw [hR]; exact fun _ _ => ⟨rfl, rfl, rfl, rfl, rfl, rfl, rfl⟩
 have hRs : ∀ s p s' p', ({ R s p with state := s', pending := p' } : Loop) = R s' p' := by rw [hR]; intros; rfl
 have hRb : ∀ s p s', ({ R s p with state := s' } : Loop) = R s' p := by rw [hR]; intros; rfl
 obtain ⟨W1, hW1⟩ : ∃ W1, W1 = (w.alloc (.deferred (some []))).alloc (.loop (R .ready none)) := ⟨_, rfl⟩
 have hsz : W1.heap.size = w.heap.size + 2 := by rw [hW1]; simp
 have hL : W1.heap[w.heap.size + 1]? = some (.loop (R .ready none)) := by
  have h := World.alloc_heap_new (w.alloc (.deferred (some []))) (.loop (R .ready none))
  rw [World.size_alloc] at h; rw [hW1]; exact h
 have hD : W1.heap[w.heap.size]? = some (.deferred (some [])) := by
  rw [hW1]; exact (Below.heap_alloc _ _ _ (by simp)).trans (World.alloc_heap_new w _)
 have hI0 : I 0 W1 := by rw [hW1]; exact hI.alloc _ (hI.alloc _ h0)
 have hb1 : Below w0.heap.size w0 W1 := by
  have h : Below w.heap.size w W1 := by rw [hW1]; exact ((Below.refl _ w).alloc (Nat.le_refl _) _).alloc (by simp) _
  exact hb0.trans (h.mono hb0.size)
 have hent := run_enterLoop_outer (P := P) (w := w) fn a.tmps ps assign body
 refine ⟨w.heap.size + 1, [{ target := .collected w.heap.size, args := #[] }], W1, { target := .fn (.func gf) lb, args := #[.func (.yield (w.heap.size + 1)) #[] #[]] }, W1, gf,
  #[.func (.yield (w.heap.size + 1)) #[] #[]] ++ lb, W1, ?_, ?_, ?_, ?_, fun _ => h1, ?_⟩
 ·rw [hW1, hR]; exact hent
 ·simp only [resolve, hg]; simp [go_sem]
 ·intro f' hf'; simp [Target.leads] at hf'; subst hf'; exact hFg
 ·simp [invoke, go_sem, eg]
 have hnw : ∀ {X Y : World} {row : Option Nat}, (∀ r, row = some r → W1.heap.size ≤ r ∧ ∃ o : Obj, X.heap[r]? = some o ∧ o.isWalk = true) → ∀ r, row = some r → w.heap.size ≤ r ∧ ∃ o : Obj, X.heap[r]? = some o ∧ o.isCells = false := by
  intro X Y row h r e
  obtain ⟨h1, o, h2, h3⟩ := h r e
  exact ⟨by omega, o, h2, Obj.not_cells_of_walk h3⟩
 have hkeep : ∀ {X Y : World} {row : Option Nat} {i : Nat} {o : Obj}, X.grownBy Y row → (∀ r, row = some r → W1.heap.size ≤ r ∧ ∃ o : Obj, X.heap[r]? = some o ∧ o.isWalk = true) → i < W1.heap.size → X.heap[i]? = some o → Y.heap[i]? = some o := by
  intro X Y row i o hg hr hi h
  refine (hg.block i (Array.getElem?_eq_some_iff.1 h).1 fun e => ?_).trans h
  have := (hr i e.symm).1
  omega
 refine (hseq (w.heap.size + 1) (fun k W => I k W ∧ W.heap[w.heap.size + 1]? = some (.loop (R .ready none)) ∧ W.heap[w.heap.size]? = some (.deferred (some [])))
  (fun k W => ∃ c, Ix c k W ∧ W.heap[w.heap.size + 1]? = some (.loop (R .done (some c))) ∧ W.heap[w.heap.size]? = some (.deferred (some []))) W1 hb1
  (fun k X Y row h hg' hr => ⟨hI k X Y row h.1 hg' (hnw (Y := Y) hr), hkeep hg' hr (by omega) h.2.1, hkeep hg' hr (by omega) h.2.2⟩) ?_ ⟨hI0, hL, hD⟩).mono ?_
 ·rintro k W hk ⟨hi, hl, hd⟩
  have hy := run_yield (P := P) (args := A k) hl (by rw [(hRp _ _).1]; exact hps k)
  obtain ⟨e1, e2, e3, e4, e5, _⟩ := hRp .ready none
  rw [e1, e2, e3, e4, e5] at hy
  refine ⟨fn, _, assign, body, hy, roundIn_of_wpIn hfn (hassign _ k W _ hk hi ?_)⟩
  intro a' Wa hkf hkp hia hax
  have hl := hkf.same _ _ (by omega) hl rfl
  have hd := hkf.same _ _ (Nat.le_refl _) hd rfl
  have hlt : w.heap.size + 1 < Wa.heap.size := (Array.getElem?_eq_some_iff.1 hl).1
  refine ⟨_, run_beginRound hl (hRp _ _).2.2.2.2.2.1, ?_⟩
  rw [hRb]
  have hl2 : (Wa.putObj (w.heap.size + 1) (.loop (R .busy none))).heap[w.heap.size + 1]? = some (.loop (R .busy none)) := World.putObj_heap_same hlt
  have hd2 : (Wa.putObj (w.heap.size + 1) (.loop (R .busy none))).heap[w.heap.size]? = some (.deferred (some [])) := (World.putObj_heap_other (by omega)).trans hd
  have hk2 : Kp Wa (Wa.putObj (w.heap.size + 1) (.loop (R .busy none))) := hKb _ _ _ _ (by omega) hl rfl rfl
  refine wpIn_mono (hbody _ k a' _ hk (hI.putObj _ hia (by omega) hl rfl) ((hAx k a').putObj (s := ()) _ hax (by omega) hl rfl)) ?_
  have fin : ∀ (jump : Option Code) (W3 : World), KeepsFrom w.heap.size (Wa.putObj (w.heap.size + 1) (.loop (R .busy none))) W3 →
    W3.heap[w.heap.size + 1]? = some (.loop (R .busy none)) ∧
    (Instr.endRound (w.heap.size + 1) jump).run P W3 = .ok (.bool jump.isNone) (W3.putObj (w.heap.size + 1) (.loop (R (if jump.isNone then .ready else .done) jump))) ∧
    (W3.putObj (w.heap.size + 1) (.loop (R (if jump.isNone then .ready else .done) jump))).heap[w.heap.size + 1]? = some (.loop (R (if jump.isNone then .ready else .done) jump)) ∧
    (W3.putObj (w.heap.size + 1) (.loop (R (if jump.isNone then .ready else .done) jump))).heap[w.heap.size]? = some (.deferred (some [])) := by
   intro jump W3 h3
   have hl3 := h3.same _ _ (by omega) hl2 rfl
   have hd3 := h3.same _ _ (Nat.le_refl _) hd2 rfl
   have he := run_endRound (P := P) jump hl3
   rw [hRs] at he
   exact ⟨hl3, he, World.putObj_heap_same (Array.getElem?_eq_some_iff.1 hl3).1, (World.putObj_heap_other (by omega)).trans hd3⟩
  rintro e a3 W3 hp
  cases e with
  | normal =>
   obtain ⟨h3, hkp3, hi3⟩ := hp
   obtain ⟨hl3, hr, hl4, hd4⟩ := fin none W3 h3
   exact ⟨_, _, hr, .inl ⟨rfl, ⟨hI.putObj _ hi3 (by omega) hl3 rfl, hl4, hd4⟩, hKt hkp (hKt (hKt hk2 hkp3) (hKb _ _ _ _ (by omega) hl3 rfl rfl))⟩⟩
  | ret =>
   obtain ⟨h3, hi3⟩ := hp
   obtain ⟨hl3, hr, hl4, hd4⟩ := fin (some .ret) W3 h3
   exact ⟨_, _, hr, .inr ⟨rfl, .ret, (hIx _).putObj _ hi3 (by omega) hl3 rfl, hl4, hd4⟩⟩
  | exit id =>
   obtain ⟨h3, hi3⟩ := hp
   obtain ⟨hl3, hr, hl4, hd4⟩ := fin (some (.exit id)) W3 h3
   exact ⟨_, _, hr, .inr ⟨rfl, .exit id, (hIx _).putObj _ hi3 (by omega) hl3 rfl, hl4, hd4⟩⟩
  | goto t =>
   obtain ⟨h3, hi3⟩ := hp
   obtain ⟨hl3, hr, hl4, hd4⟩ := fin (some (.goto t)) W3 h3
   exact ⟨_, _, hr, .inr ⟨rfl, .goto t, (hIx _).putObj _ hi3 (by omega) hl3 rfl, hl4, hd4⟩⟩
  | panic ch => exact hp.elim
  | outgrown => exact hp.elim
 ·rintro e W2 ⟨⟨v, rfl⟩, ⟨hi, hl, hd⟩ | ⟨k, hk, c, hi, hl, hd⟩⟩
  ·have he := run_endLoop (P := P) hl (by rw [(hRp _ _).2.2.2.2.2.1]; simp)
   rw [(hRp _ _).2.2.2.2.2.2] at he
   exact ⟨none, _, he, hdone _ _ (Nat.le_refl _) (hI.putObj _ hi (by omega) hl rfl) ((World.putObj_heap_other (by omega)).trans hd)⟩
  ·have he := run_endLoop (P := P) hl (by rw [(hRp _ _).2.2.2.2.2.1]; simp)
   rw [(hRp _ _).2.2.2.2.2.2] at he
   exact ⟨some c, _, he, hstop _ c k _ (Nat.le_refl _) hk ((hIx c).putObj _ hi (by omega) hl rfl) ((World.putObj_heap_other (by omega)).trans hd)⟩
end Go.Proofs.Ytecljchifebljaa
namespace Go.Proofs.Ytecljchifebljaa
open Go Go.RowKit
variable {P : Program} {ops : Array Oper} {Q : Exit → Act → World → Prop} {n l : Nat}
/-- No operation of these is a defer statement. -/
def noDefer (ops : Array Oper) : Bool := ops.toList.all fun o => match o.op with | .defer _ => false | _ => true
theorem noDefer_get {i : Nat} {o : Oper} (h : noDefer ops = true) (hi : ops[i]? = some o) : ∀ c, o.op ≠ .defer c := by
 intro c hc
 have h1 := List.all_eq_true.1 h o (Array.mem_toList_iff.2 (Array.mem_of_getElem? hi))
 rw [hc] at h1
 exact Bool.noConfusion h1
theorem oper_round {o : Oper} {a : Act} {w : World} {K : Act → World → Prop} (hd : ∀ c, o.op ≠ .defer c) (hQ : ¬ LetsOut Q) (h : o.wp P a w K Q ∨ (o.asks P a w ∧ LetsOut Q)) :
  o.wpIn (Fence.wide.inRound l) n P a w K Q := by
 have h := h.resolve_right (fun x => hQ x.2)
 refine ⟨fun _ _ => trivial, ?_⟩
 rw [Fence.inRound_round, Oper.semAt_some _ _ _ hd]
 unfold Oper.wp at h
 generalize (execOp a.eval o).run P w = r at *
 cases r with
 | ok x w' =>
  cases x <;> simp only [Oper.upon, Oper.uponIn] at h ⊢
  case value => exact h
  case skip => exact h
  case defer => exact h
  case enter f args => exact ⟨fun e => by simp [Fence.wide] at e, CallsIn.inRound l (callsIn_wide.2 h)⟩
  case row row args =>
   refine ⟨fun e => by simp [Fence.wide] at e, fun c cs _ => ?_⟩
   obtain ⟨v, w2, r, s⟩ := h c cs
   exact ⟨v, w2, r, stepsIn_wide.2 s⟩
 | halt x w' => cases x <;> simp only [Oper.upon, Oper.uponIn] at h ⊢ <;> exact h
theorem wpOp_round {i : Nat} {K K' : Act → World → Prop} {a : Act} {w : World} (hn : noDefer ops = true) (hQ : ¬ LetsOut Q) (hK : ∀ a w, K a w → K' a w) (h : wpOp P ops Q i K a w) :
  wpOpIn (Fence.wide.inRound l) n P ops Q i K' a w := by
 unfold wpOp at h
 unfold wpOpIn
 cases hi : ops[i]? with
 | none => rw [hi] at h; exact hK _ _ h
 | some o =>
  rw [hi] at h
  simp only [] at h ⊢
  split
  ·next hw => rw [if_pos hw] at h; exact Oper.wpIn_mono hK (oper_round (noDefer_get hn hi) hQ h)
  ·next hw => rw [if_neg hw] at h; exact ⟨fun _ _ => trivial, hK _ _ h⟩
theorem wpAny_round {md : Region.Mode} (hn : noDefer ops = true) (hQ : ¬ LetsOut Q) : ∀ (fuel : Nat) (listed : Array Bool) (a : Act) (w : World), wpAny P md ops Q fuel listed a w → wpAnyIn (Fence.wide.inRound l) n P md ops Q fuel listed a w
 | 0, _, _, _, h => h
 | fuel + 1, _, _, _, h => ⟨h.1, fun i hi => wpOp_round hn hQ (fun a w h => wpAny_round hn hQ fuel _ a w h) (h.2 i hi)⟩
/-- A region of a round that draws its order. -/
theorem region_round_held {id : Nat} {a : Act} {w : World} {S : World → Prop} (hm : P.follows .mixedOrders = true) (hn : noDefer ops = true) (hQ : ¬ LetsOut Q) (hS : S w.drew)
  (h : S w.drew → wpAnyH P .any ops Q S ops.size (Array.replicate ops.size false) a w.drew) : (Code.region id ops true).wpIn (Fence.wide.inRound l) n P Q a w :=
 wpIn_region_any hm (wpAny_round hn hQ _ _ _ _ (wpAny_of_held _ _ _ _ (h hS)))
end Go.Proofs.Ytecljchifebljaa
namespace Go.Proofs.Ytecljchifebljaa
open Go Go.RowKit Go.MapKept
open Go.WideMaps (KeyLaw)
open Go.ChangeMaps (setBlock heap_setBlock_same heap_setBlock_other)
theorem laidOutP : laidOutB Try.prog = true := by kernel_rfl
theorem row120 : (120 : TypeId) < Try.prog.types.size := of_decide_eq_true (by kernel_rfl)
theorem wide120 : (match Try.prog.underlying 120 with | some (.array _ _) | some (.struct _) => true | _ => false) = true := by kernel_rfl
theorem deep120 : Try.prog.keyTypeAt 3 120 = true := by kernel_rfl
set_option maxRecDepth 100000 in
theorem law120 : KeyLaw Try.prog 120 := deep_law_laid laidOutP (m := 3) (by omega) row120 deep120 wide120
theorem keyT120 : Try.prog.keyType 120 = true := by kernel_rfl
theorem cells120 : Try.prog.cellsOf 120 = 3 := by kernel_rfl
theorem cells9 : Try.prog.cellsOf 9 = 1 := by kernel_rfl
theorem cells3 : Try.prog.cellsOf 3 = 1 := by kernel_rfl
def keyA (t : ByteArray) (m l : Int) : Value := .agg #[.string t, .int .i64 m, .int .i64 l]
set_option maxRecDepth 100000 in
theorem key_ok (t : ByteArray) (m l : Int) (ht : t.size ≤ 1000000) (hm : (Lit.int .i64 m).wf = true) (hl : (Lit.int .i64 l).wf = true) : ∃ kl, keyOf Try.prog 120 (keyA t m l) = some kl := by
 obtain ⟨n, hn⟩ : ∃ n, Try.prog.types.size = n + 1 := ⟨_, (Nat.succ_pred_eq_of_pos (Nat.lt_of_le_of_lt (Nat.zero_le _) row120)).symm⟩
 have hs : t.size ≤ maxLen := Nat.le_trans ht (by decide)
 have hf : (keyA t m l).formed Try.prog 120 = true := by simp [keyA, Value.formed, Try.underlying120, cells120]
 unfold keyOf
 rw [Try.underlying120]
 simp only [keyT120, hf, Bool.and_self, if_true, hn]
 have e : Try.prog.keyLits (n + 1 + 1) 120 (keyA t m l).cells.toList = some [.string t.data.toList, .int .i64 m, .int .i64 l] := by
  unfold Program.keyLits
  rw [Try.underlying120]
  simp [keyA, Value.cells, cells120, cells9, cells3, Program.keyLits, Try.underlying9, Try.underlying3, hs, hm, hl]
 rw [e]
 exact ⟨_, rfl⟩
/-- The places of a key in a row of keys. -/
def Spots (ks : List Value) (key : Value) (zs : List Nat) : Prop := zs.Pairwise (· < ·) ∧ ∀ i, i ∈ zs ↔ ks[i]? = some key
/-- The number slice v owns these places. -/
def OwnZ (w : World) (base : Nat) (v : Value) (zs : List Nat) : Prop := w.ownsRow base 3 1 v zs.length (zs.map fun i : Nat => Value.int .i64 (i : Int))
theorem OwnZ.kept {w w' : World} {base : Nat} {v : Value} {zs : List Nat} {row : Option Nat} (h : OwnZ w base v zs) (hg : w.grownBy w' row) (hne : v.ownBlock = none ∨ v.ownBlock ≠ row) : OwnZ w' base v zs := World.ownsRow.kept h hg hne
/-- Block b is the table of these keys. -/
def TbAt (w : World) (base b : Nat) (ks : List Value) : Prop :=
 ∃ es clock, w.heap[b]? = some (.map es clock) ∧ Stamped es clock ∧ b < base ∧ (∀ x ∈ es.toList, ∃ kl, keyOf Try.prog 120 x.key = some kl) ∧
  (∀ x ∈ es.toList, ∃ zs, OwnZ w base x.val zs ∧ Spots ks x.key zs) ∧ (∀ k ∈ ks, ∃ x ∈ es.toList, x.key = k) ∧
  ∀ x ∈ es.toList, ∀ y ∈ es.toList, x.key ≠ y.key → x.val.ownBlock = none ∨ x.val.ownBlock ≠ y.val.ownBlock
theorem TbAt.made (w : World) : TbAt (w.alloc (.map #[] 0)) (w.heap.size + 1) w.heap.size [] :=
 ⟨#[], 0, (MapKept.heap_alloc w _).1, stamped_empty 0, Nat.lt_succ_self _, by simp, by simp, by simp, by simp⟩
theorem TbAt.lt {w : World} {base b : Nat} {ks : List Value} (h : TbAt w base b ks) : b < w.heap.size ∧ b < base := by
 obtain ⟨es, clock, hb, _, hbb, _⟩ := h
 exact ⟨(Array.getElem?_eq_some_iff.1 hb).1, hbb⟩
/-- It stands where its block and what lies from base on stand. -/
theorem TbAt.kept {w w' : World} {base b : Nat} {ks : List Value} {row : Option Nat} (h : TbAt w base b ks) (hg : w.grownBy w' row) (hr : ∀ r, row = some r → r ≠ b ∧ (r < base ∨ ∀ (c : Array Value) (fz : Nat × Nat), w.heap[r]? ≠ some (Obj.cells c 3 fz))) : TbAt w' base b ks := by
 obtain ⟨es, clock, hb, hs, hbb, hk, hv, hall, hap⟩ := h
 refine ⟨es, clock, (hg.block b (Array.getElem?_eq_some_iff.1 hb).1 fun e => (hr b e.symm).1 rfl).trans hb, hs, hbb, hk, fun x hx => ?_, hall, hap⟩
 obtain ⟨zs, ho, hz⟩ := hv x hx
 refine ⟨zs, ho.kept hg ?_, hz⟩
 cases hvb : x.val.ownBlock with
 | none => exact .inl rfl
 | some g =>
  refine .inr fun e => ?_
  rcases (hr g e.symm).2 with h1 | h1
  ·have := (World.ownsRow.lt ho g hvb).1; omega
  ·rcases ho.2 with ⟨e1, _⟩ | ⟨g', cap, cur, e1, _, e3, _⟩
   ·rw [e1] at hvb; cases hvb
   ·rw [e1] at hvb
    simp only [Value.ownBlock, Option.some.injEq] at hvb
    subst hvb
    exact h1 _ _ e3
theorem spots_new {ks : List Value} (k key : Value) (i : Nat) : (ks ++ [k])[i]? = some key ↔ ks[i]? = some key ∨ (i = ks.length ∧ k = key) := by
 by_cases hi : i < ks.length
 ·rw [List.getElem?_append_left hi]
  exact ⟨.inl, fun h => h.elim id fun h => by omega⟩
 ·rw [List.getElem?_append_right (by omega), List.getElem?_eq_none (l := ks) (by omega)]
  by_cases e : i = ks.length
  ·subst e; simp
  ·rw [List.getElem?_eq_none (by simp; omega)]; simp [e]
theorem Spots.same {ks : List Value} {key : Value} {zs : List Nat} (h : Spots ks key zs) : Spots (ks ++ [key]) key (zs ++ [ks.length]) := by
 obtain ⟨h1, h2⟩ := h
 have hlt : ∀ i ∈ zs, i < ks.length := fun i hi => (List.getElem?_eq_some_iff.1 ((h2 i).1 hi)).1
 refine ⟨List.pairwise_append.2 ⟨h1, by simp, fun a ha b hb => by simp at hb; subst hb; exact hlt a ha⟩, fun i => ?_⟩
 rw [spots_new, List.mem_append, h2, List.mem_singleton]
 simp
theorem Spots.other {ks : List Value} {key : Value} {zs : List Nat} (h : Spots ks key zs) {k : Value} (hk : k ≠ key) : Spots (ks ++ [k]) key zs :=
 ⟨h.1, fun i => by rw [spots_new, h.2]; simp [hk]⟩
theorem Spots.empty {ks : List Value} {key : Value} (h : key ∉ ks) : Spots ks key [] :=
 ⟨List.Pairwise.nil, fun i => ⟨fun h => by simp at h, fun e => absurd (List.mem_of_getElem? e) h⟩⟩
end Go.Proofs.Ytecljchifebljaa
namespace Go.Proofs.Ytecljchifebljaa
open Go Go.RowKit Go.MapKept
open Go.WideMaps (KeyLaw)
open Go.WideElems (findIdx_born findIdx_arr modify_last set_self)
open Go.ChangeMaps (setBlock heap_setBlock_same heap_setBlock_other)
theorem zero27 (w : World) : (zeroValue 27).run Try.prog w = .ok (.slice none 0 0) w := by kernel_rfl
theorem setBlock_grown {w : World} {b : Nat} {es : Array MapEntry} {clock : Nat} {o' : Obj} (hb : w.heap[b]? = some (.map es clock)) : w.grownBy (setBlock w b o') (some b) :=
 ⟨rfl, rfl, rfl, by simp [setBlock], fun i _ hi => heap_setBlock_other hb _ (fun e1 => hi (by rw [e1]))⟩
theorem setBlock_size (w : World) (b : Nat) (o : Obj) : (setBlock w b o).heap.size = w.heap.size := by simp [setBlock]
theorem modify_set {α : Type} (f : α → α) : ∀ (l : List α) (j : Nat) (a : α), l[j]? = some a → l.modify j f = l.set j (f a)
 | [], _, _, h => by simp at h
 | b :: r, 0, a, h => by simp at h; subst h; rfl
 | b :: r, j + 1, a, h => by simp at h; simp [List.modify_succ_cons, modify_set f r j a h]
theorem OwnZ.ne {w : World} {base b : Nat} {v : Value} {zs : List Nat} (h : OwnZ w base v zs) (hb : b < base) : v.ownBlock = none ∨ v.ownBlock ≠ some b := by
 cases hv : v.ownBlock with
 | none => exact .inl rfl
 | some g =>
  refine .inr fun e => ?_
  have := (World.ownsRow.lt h g hv).1
  injection e with e; omega
theorem OwnZ.ne' {w : World} {base b : Nat} {v : Value} {zs : List Nat} (h : OwnZ w base v zs) (hb : b < base) : v.ownBlock ≠ some b := by
 rcases h.ne hb with e | e
 ·rw [e]; simp
 ·exact e
set_option maxHeartbeats 4000000 in
theorem run_entry {w : World} {base b : Nat} {ks : List Value} (h : TbAt w base b ks) {key : Value} {kl : Lit} (hkey : keyOf Try.prog 120 key = some kl) :
  ∃ (v : Value) (zs : List Nat) (st : Nat) (w1 : World), (Instr.mapEntry 76 (.map (some b)) key).run Try.prog w = .ok (.tuple #[v, goInt st]) w1 ∧ w.grownBy w1 (some b) ∧ w1.heap.size = w.heap.size ∧ OwnZ w1 base v zs ∧ Spots ks key zs ∧
   ∀ (w2 : World) (v' : Value), w1.grownBy w2 v.ownBlock → OwnZ w2 base v' (zs ++ [ks.length]) → (v'.ownBlock = v.ownBlock ∨ ∃ g, v'.ownBlock = some g ∧ w1.heap.size ≤ g) →
    ∃ w3, (Instr.entryStore 76 (.map (some b)) (goInt st) v').run Try.prog w2 = .ok () w3 ∧ TbAt w3 base b (ks ++ [key]) ∧ w2.grownBy w3 (some b) := by
 obtain ⟨es, clock, hb, hs, hbb, hk, hv, hall, hap⟩ := h
 have hbw : b < w.heap.size := (Array.getElem?_eq_some_iff.1 hb).1
 have hlow : ∀ x ∈ es.toList, ∀ g, x.val.ownBlock = some g → base ≤ g ∧ g < w.heap.size := fun x hx g hg => by
  obtain ⟨zs, ho, _⟩ := hv x hx
  exact World.ownsRow.lt ho g hg
 rcases law120.find w hkey es.toList hk with ⟨h1, h2⟩ | ⟨j, e0, h1, h2, h3⟩
 ·have hnk : key ∉ ks := fun hm => by obtain ⟨x, hx, e⟩ := hall key hm; exact h2 x hx e
  have hw1 : (setBlock w b (.map (es.push ⟨key, .slice none 0 0, clock⟩) (clock + 1))).heap[b]? = some (.map (es.push ⟨key, .slice none 0 0, clock⟩) (clock + 1)) := heap_setBlock_same hb _
  refine ⟨.slice none 0 0, [], clock, setBlock w b (.map (es.push ⟨key, .slice none 0 0, clock⟩) (clock + 1)), ?_, setBlock_grown hb, setBlock_size _ _ _, World.ownsRow_nil _ _ _ _, Spots.empty hnk, fun w2 v' hg hown hloc => ?_⟩
  ·simp [Instr.mapEntry, run_underlying Try.underlying76, MapKept.run_getObj_map hb, law120.check w false hkey, h1, zero27, MapKept.run_setObj_map _ hb, Result.andThen, setBlock]
  ·have hw2 : w2.heap[b]? = some (.map (es.push ⟨key, .slice none 0 0, clock⟩) (clock + 1)) := (hg.block b (by rw [setBlock_size]; exact hbw) (by simp [Value.ownBlock])).trans hw1
   have hidx : (es.push ⟨key, .slice none 0 0, clock⟩).findIdx? (fun e => ((e.born : Nat) : Int) == ((clock : Nat) : Int)) = some es.size := by
    rw [findIdx_arr]
    exact findIdx_born (l := (es.push ⟨key, .slice none 0 0, clock⟩).toList) (j := es.size) (e0 := ⟨key, .slice none 0 0, clock⟩) (stamped_push hs h2).2.1 (by simp)
   have hmod : (es.push ⟨key, .slice none 0 0, clock⟩).modify es.size (fun e => { e with val := v' }) = es.push ⟨key, v', clock⟩ := by
    apply Array.ext'
    rw [Array.toList_modify, Array.toList_push, Array.toList_push, ← Array.length_toList, modify_last]
   have hg3 := setBlock_grown (o' := .map (es.push ⟨key, v', clock⟩) (clock + 1)) hw2
   refine ⟨setBlock w2 b (.map (es.push ⟨key, v', clock⟩) (clock + 1)), ?_, ⟨_, _, heap_setBlock_same hw2 _, stamped_push hs h2, hbb, ?_, ?_, ?_, ?_⟩, hg3⟩
   ·simp [Instr.entryStore, MapKept.run_getObj_map hw2, asInt, asIntOf, goInt, hidx, hmod, MapKept.run_setObj_map _ hw2, Result.andThen, setBlock]
   ·intro x hx
    simp only [Array.toList_push, List.mem_append, List.mem_singleton] at hx
    rcases hx with hx | rfl
    ·exact hk x hx
    ·exact ⟨kl, hkey⟩
   ·intro x hx
    simp only [Array.toList_push, List.mem_append, List.mem_singleton] at hx
    rcases hx with hx | rfl
    ·obtain ⟨zs, ho, hz⟩ := hv x hx
     refine ⟨zs, ((ho.kept (setBlock_grown hb) (ho.ne hbb)).kept hg ?_).kept hg3 (ho.ne hbb), hz.other fun e => h2 x hx e.symm⟩
     cases x.val.ownBlock <;> simp [Value.ownBlock]
    ·exact ⟨_, hown.kept hg3 (hown.ne hbb), (Spots.empty hnk).same⟩
   ·intro k hkm
    simp only [List.mem_append, List.mem_singleton] at hkm
    rcases hkm with hkm | rfl
    ·obtain ⟨x, hx, e⟩ := hall k hkm
     exact ⟨x, by simp [hx], e⟩
    ·exact ⟨⟨k, v', clock⟩, by simp, rfl⟩
   ·have hne : ∀ x ∈ es.toList, x.val.ownBlock = none ∨ x.val.ownBlock ≠ v'.ownBlock := by
     intro x hx
     cases hxb : x.val.ownBlock with
     | none => exact .inl rfl
     | some g =>
      refine .inr fun e => ?_
      have := (hlow x hx g hxb).2
      rcases hloc with h | ⟨g', h, hg'⟩
      ·rw [h] at e; simp [Value.ownBlock] at e
      ·rw [h] at e; injection e with e; rw [setBlock_size] at hg'; omega
    intro x hx y hy hxy
    simp only [Array.toList_push, List.mem_append, List.mem_singleton] at hx hy
    rcases hx with hx | rfl <;> rcases hy with hy | rfl
    ·exact hap x hx y hy hxy
    ·exact hne x hx
    ·rcases hne y hy with h | h
     ·cases hv' : v'.ownBlock with
      | none => exact .inl rfl
      | some g => exact .inr (by intro e; rw [h] at e; cases e)
     ·exact .inr fun e => h e.symm
    ·exact absurd rfl hxy
 ·have hm0 : e0 ∈ es.toList := List.mem_of_getElem? h2
  have hj : es[j]? = some e0 := by simpa using h2
  obtain ⟨zs, ho, hz⟩ := hv e0 hm0
  have hsame : es.modify j (fun e => { e with key := key }) = es := by
   apply Array.ext'
   rw [Array.toList_modify, modify_set _ _ _ _ h2]
   have : ({ e0 with key := key } : MapEntry) = e0 := by rw [← h3]
   rw [this]
   exact set_self _ _ _ h2
  have hw1 : (setBlock w b (.map es clock)).heap[b]? = some (.map es clock) := heap_setBlock_same hb _
  refine ⟨e0.val, zs, e0.born, setBlock w b (.map es clock), ?_, setBlock_grown hb, setBlock_size _ _ _, ho.kept (setBlock_grown hb) (ho.ne hbb), h3 ▸ hz, fun w2 v' hg hown hloc => ?_⟩
  ·simp [Instr.mapEntry, run_underlying Try.underlying76, MapKept.run_getObj_map hb, law120.check w false hkey, h1, hj, h3, law120.stays w hkey, hsame, MapKept.run_setObj_map _ hb, Result.andThen, setBlock]
  ·have hw2 : w2.heap[b]? = some (.map es clock) := (hg.block b (by rw [setBlock_size]; exact hbw) (fun e => ho.ne' hbb e.symm)).trans hw1
   have hidx : es.findIdx? (fun e => ((e.born : Nat) : Int) == ((e0.born : Nat) : Int)) = some j := by
    rw [findIdx_arr]
    exact findIdx_born hs.2.1 h2
   have hg3 := setBlock_grown (o' := .map (es.modify j fun e => { e with val := v' }) clock) hw2
   have hst : Stamped (es.modify j fun e => { e with val := v' }) clock := stamped_modify hs _ _ (fun _ _ => rfl) (fun _ _ _ => rfl)
   have hmem : ∀ x, x ∈ (es.modify j fun e => { e with val := v' }).toList → x = { e0 with val := v' } ∨ (x ∈ es.toList ∧ x.key ≠ key) := by
    intro x hx
    rw [Array.toList_modify, modify_set _ _ _ _ h2] at hx
    obtain ⟨i, hi, rfl⟩ := List.getElem_of_mem hx
    rw [List.getElem_set]
    split
    ·exact .inl rfl
    ·next hij =>
     have hi' : i < es.toList.length := by simpa using hi
     refine .inr ⟨List.getElem_mem hi', fun e => hij ?_⟩
     obtain ⟨hjl, hje⟩ := List.getElem?_eq_some_iff.1 h2
     have hnd := hs.2.2
     have hnd2 := List.pairwise_iff_getElem.1 (List.pairwise_map.1 hnd)
     rcases Nat.lt_trichotomy i j with hlt | rfl | hlt
     ·exact absurd (by rw [e, hje, h3]) (hnd2 i j hi' hjl hlt)
     ·rfl
     ·exact absurd (by rw [e, hje, h3]) (hnd2 j i hjl hi' hlt)
   have hin : ({ e0 with val := v' } : MapEntry) ∈ (es.modify j fun e => { e with val := v' }).toList := by
    rw [Array.toList_modify, modify_set _ _ _ _ h2]
    exact List.mem_of_getElem? (i := j) (by rw [List.getElem?_set_self (List.getElem?_eq_some_iff.1 h2).1])
   have hin2 : ∀ x ∈ es.toList, x.key ≠ key → x ∈ (es.modify j fun e => { e with val := v' }).toList := by
    intro x hx hxk
    rw [Array.toList_modify, modify_set _ _ _ _ h2]
    obtain ⟨i, hi, rfl⟩ := List.getElem_of_mem hx
    have hij : j ≠ i := fun e => by
     subst e
     obtain ⟨_, hje⟩ := List.getElem?_eq_some_iff.1 h2
     rw [hje, h3] at hxk; exact hxk rfl
    exact List.mem_of_getElem? (i := i) (by rw [List.getElem?_set_ne hij, List.getElem?_eq_getElem hi])
   have hvk : ∀ x ∈ es.toList, x.key ≠ key → x.val.ownBlock = none ∨ x.val.ownBlock ≠ e0.val.ownBlock := fun x hx hxk => hap x hx e0 hm0 (by rw [h3]; exact hxk)
   have hne : ∀ x ∈ es.toList, x.key ≠ key → x.val.ownBlock = none ∨ x.val.ownBlock ≠ v'.ownBlock := by
    intro x hx hxk
    rcases hloc with h | ⟨g', h, hg'⟩
    ·rw [h]; exact hvk x hx hxk
    ·cases hxb : x.val.ownBlock with
     | none => exact .inl rfl
     | some g =>
      refine .inr fun e => ?_
      have := (hlow x hx g hxb).2
      rw [h] at e; injection e with e; rw [setBlock_size] at hg'; omega
   refine ⟨setBlock w2 b (.map (es.modify j fun e => { e with val := v' }) clock), ?_, ⟨_, _, heap_setBlock_same hw2 _, hst, hbb, ?_, ?_, ?_, ?_⟩, hg3⟩
   ·simp [Instr.entryStore, MapKept.run_getObj_map hw2, asInt, asIntOf, goInt, hidx, MapKept.run_setObj_map _ hw2, Result.andThen, setBlock]
   ·intro x hx
    rcases hmem x hx with rfl | ⟨hx, _⟩
    ·exact ⟨kl, by rw [← h3] at hkey; exact hkey⟩
    ·exact hk x hx
   ·intro x hx
    rcases hmem x hx with rfl | ⟨hx, hxk⟩
    ·exact ⟨_, hown.kept hg3 (hown.ne hbb), by have := Spots.same (h3 ▸ hz); rw [← h3] at this ⊢; exact this⟩
    ·obtain ⟨zx, hox, hzx⟩ := hv x hx
     exact ⟨zx, ((hox.kept (setBlock_grown hb) (hox.ne hbb)).kept hg (hvk x hx hxk)).kept hg3 (hox.ne hbb), hzx.other fun e => hxk e.symm⟩
   ·intro k hkm
    simp only [List.mem_append, List.mem_singleton] at hkm
    rcases hkm with hkm | rfl
    ·by_cases hkk : k = key
     ·exact ⟨_, hin, by rw [hkk]; exact h3⟩
     ·obtain ⟨x, hx, e⟩ := hall k hkm
      exact ⟨x, hin2 x hx (by rw [e]; exact hkk), e⟩
    ·exact ⟨_, hin, h3⟩
   ·intro x hx y hy hxy
    rcases hmem x hx with rfl | ⟨hx, hxk⟩ <;> rcases hmem y hy with rfl | ⟨hy, hyk⟩
    ·exact absurd rfl hxy
    ·rcases hne y hy hyk with h | h
     ·cases hv' : v'.ownBlock with
      | none => exact .inl rfl
      | some g => exact .inr (by intro e; rw [h] at e; cases e)
     ·exact .inr fun e => h e.symm
    ·exact hne x hx hxk
    ·exact hap x hx y hy hxy
end Go.Proofs.Ytecljchifebljaa
namespace Go
section
variable {P : Program} {ops : Array Oper} {Q : Exit → Act → World → Prop} {md : Region.Mode} {S : World → Prop} {late : Nat → Bool}
/-- Whatever comes up: behind a late operation nothing is known any more, behind each other one S holds. -/
def wpAnyL (P : Program) (md : Region.Mode) (ops : Array Oper) (Q : Exit → Act → World → Prop) (S : World → Prop) (late : Nat → Bool) : Nat → Array Bool → Act → World → Prop
 | 0, listed, a, w => Region.ready md ops listed = [] ∧ Q .normal a w
 | n + 1, listed, a, w =>
  (Region.ready md ops listed = [] → Q .normal a w) ∧
  ∀ i ∈ Region.ready md ops listed, wpOp P ops Q i (fun b v => (late i = true ∧ wpAny P md ops Q n (listed.setIfInBounds i true) b v) ∨ (late i = false ∧ S v ∧ wpAnyL P md ops Q S late n (listed.setIfInBounds i true) b v)) a w
theorem wpAnyL.any : ∀ {n : Nat} {listed : Array Bool} {a : Act} {w : World}, wpAnyL P md ops Q S late n listed a w → wpAny P md ops Q n listed a w
 | 0, _, _, _, h => h
 | _ + 1, _, _, _, h => ⟨h.1, fun i hi => wpOp_mono (fun _ _ h => by
   rcases h with h | h
   ·exact h.2
   ·exact h.2.2.any) (h.2 i hi)⟩
/-- B: operations that are not listed and wait, at last, for number i; the late ones are among them. -/
def waitsB (md : Region.Mode) (ops : Array Oper) (late : Nat → Bool) (B : List Nat) (listed : Array Bool) (i : Nat) : Bool :=
 !late i && (List.range ops.size).all (fun j => !late j || B.contains j) && B.all (fun k => !listed.getD k true && (match ops[k]? with | some o => o.after.any fun e => Region.binds md e && (e.on == i || B.contains e.on) | none => false))
def Waits (md : Region.Mode) (ops : Array Oper) (B : List Nat) (listed : Array Bool) (i : Nat) : Prop := ∀ k ∈ B, listed.getD k true = false ∧ ∀ o, ops[k]? = some o → ∃ e ∈ o.after, Region.binds md e = true ∧ (e.on = i ∨ e.on ∈ B)
theorem waits_spec {B : List Nat} {listed : Array Bool} {i : Nat} (h : waitsB md ops late B listed i = true) : late i = false ∧ (∀ j oj, ops[j]? = some oj → late j = true → j ∈ B) ∧ Waits md ops B listed i := by
 unfold waitsB at h
 simp only [Bool.and_eq_true] at h
 obtain ⟨⟨h1, h2⟩, h3⟩ := h
 refine ⟨by simpa using h1, fun j oj hj hl => ?_, fun k hk => ?_⟩
 ·have h4 := List.all_eq_true.1 h2 j (List.mem_range.2 (Array.getElem?_eq_some_iff.1 hj).1)
  rw [hl] at h4
  simpa using h4
 ·have h4 := List.all_eq_true.1 h3 k hk
  rw [Bool.and_eq_true] at h4
  refine ⟨by simpa using h4.1, fun o ho => ?_⟩
  have h5 := h4.2
  rw [ho] at h5
  obtain ⟨e, he, h6⟩ := Array.any_eq_true'.1 h5
  rw [Bool.and_eq_true, Bool.or_eq_true, beq_iff_eq] at h6
  exact ⟨e, he, h6.1, h6.2.imp id (fun h => by simpa using h)⟩
theorem wpAnyL_pull {i : Nat} {oi : Oper} {v : Value} (hi : ops[i]? = some oi) (hsel : Region.noSelect ops = true) (hQ : ∀ c a w, Q (.panic c) (a.put oi.dst v) w → Q (.panic c) a w) (hli : late i = false) {B : List Nat} (hlB : ∀ j oj, ops[j]? = some oj → late j = true → j ∈ B) :
  ∀ (n : Nat) (listed : Array Bool) (a : Act) (w : World),
   (∀ j oj, ops[j]? = some oj → j ≠ i → listed.getD j true = false → (∀ e ∈ oj.after, Region.binds md e = true → e.on ≠ i) → oi.apart ops oj = true) →
   i ∈ Region.ready md ops listed → Waits md ops B listed i → YieldsIf P ops S oi v a → S w →
   wpAnyL P md ops Q S late n (listed.setIfInBounds i true) (a.put oi.dst v) w → wpAnyL P md ops Q S late (n + 1) listed a w
 | n, listed, a, w, hfree, hr, hwt, hy, hS, H => by
  refine ⟨fun h => (by rw [h] at hr; cases hr), fun j hj => ?_⟩
  by_cases hji : j = i
  ·rw [hji]
   exact hy.wpOp hi hS (.inr ⟨hli, hS, H⟩)
  ·obtain ⟨hun, oj, hoj, hall⟩ := mem_ready.1 hj
   have hnot : ∀ e ∈ oj.after, Region.binds md e = true → e.on ≠ i := fun e he hb heq => by
    have h1 := hall e he hb
    have h0 := (mem_ready.1 hr).1
    rw [heq] at h1
    rcases Nat.lt_or_ge i listed.size with h' | h'
    ·simp [h'] at h0 h1; rw [h0] at h1; cases h1
    ·simp [Array.getElem?_eq_none h'] at h1
   have hnB : j ∉ B := fun h => by
    obtain ⟨_, h2⟩ := hwt j h
    obtain ⟨e, he, hb, h3⟩ := h2 oj hoj
    rcases h3 with h3 | h3
    ·exact hnot e he hb h3
    ·have h4 := (hwt _ h3).1
     have h5 := hall e he hb
     rcases Nat.lt_or_ge e.on listed.size with h' | h'
     ·simp [h'] at h4 h5; rw [h4] at h5; cases h5
     ·simp [Array.getElem?_eq_none h'] at h4
   have hlj : late j = false := by
    cases h : late j with
    | false => rfl
    | true => exact absurd (hlB j oj hoj h) hnB
   have hj2 := ready_mono hj hji
   cases n with
   | zero =>
    rw [H.1] at hj2
    cases hj2
   | succ n =>
    have h2 := wpOp_putIf hoj (hfree j oj hoj hji hun hnot) (fun cs b => Region.noSelect_spec hsel i oi cs b hi) (fun cs b => Region.noSelect_spec hsel j oj cs b hoj) hQ hy (H.2 j hj2)
    refine wpOp_mono (fun b u h3 => .inr ⟨hlj, ?_⟩) h2
    obtain ⟨h4, h5⟩ := h3
    rcases h5 with h5 | h5
    ·rw [hlj] at h5; cases h5.1
    ·refine ⟨h5.2.1, wpAnyL_pull hi hsel hQ hli hlB n (listed.setIfInBounds j true) b u (fun k ok hk hki hun2 hno => ?_) (ready_mono hr (Ne.symm hji)) (fun k hk => ⟨?_, (hwt k hk).2⟩) h4 h5.2.1 ?_⟩
     ·refine hfree k ok hk hki ?_ hno
      by_cases hjk : j = k
      ·subst hjk; exact hun
      ·rw [getD_set_ne true hjk] at hun2; exact hun2
     ·rw [getD_set_ne true (fun e => hnB (by rw [e]; exact hk))]; exact (hwt k hk).1
     ·rw [Array.setIfInBounds_comm _ _ hji]
      exact h5.2.2
theorem wpAnyL_take {i : Nat} {oi : Oper} {v : Value} {n : Nat} {listed : Array Bool} {a : Act} {w : World} (hi : ops[i]? = some oi)
  (hs : Region.noSelect ops = true) (hf : Region.free md ops listed i = true) (hr : (Region.ready md ops listed).contains i = true) {B : List Nat} (hw : waitsB md ops late B listed i = true)
  (hQ : ∀ c a w, Q (.panic c) (a.put oi.dst v) w → Q (.panic c) a w) (hy : YieldsIf P ops S oi v a) (hS : S w)
  (h : wpAnyL P md ops Q S late n (listed.setIfInBounds i true) (a.put oi.dst v) w) : wpAnyL P md ops Q S late (n + 1) listed a w :=
 wpAnyL_pull hi hs hQ (waits_spec hw).1 (waits_spec hw).2.1 n listed a w (Region.free_spec hi hf) (by simpa using hr) (waits_spec hw).2.2 hy hS h
theorem wpAnyL_done {n : Nat} {listed : Array Bool} {a : Act} {w : World} (hr : Region.ready md ops listed = []) (h : Q .normal a w) : wpAnyL P md ops Q S late n listed a w := by
 cases n with
 | zero => exact ⟨hr, h⟩
 | succ n => exact ⟨fun _ => h, by rw [hr]; simp⟩
/-- Each of these comes up next. -/
def AllL (P : Program) (md : Region.Mode) (ops : Array Oper) (Q : Exit → Act → World → Prop) (S : World → Prop) (late : Nat → Bool) (n : Nat) (listed : Array Bool) (a : Act) (w : World) (rs : List Nat) : Prop :=
 ∀ i ∈ rs, wpOp P ops Q i (fun b v => (late i = true ∧ wpAny P md ops Q n (listed.setIfInBounds i true) b v) ∨ (late i = false ∧ S v ∧ wpAnyL P md ops Q S late n (listed.setIfInBounds i true) b v)) a w
theorem wpAnyL_ready {rs : List Nat} {n : Nat} {listed : Array Bool} {a : Act} {w : World} (hr : Region.ready md ops listed = rs) (hne : rs ≠ [])
  (h : AllL P md ops Q S late n listed a w rs) : wpAnyL P md ops Q S late (n + 1) listed a w := ⟨fun h0 => absurd (hr ▸ h0) hne, hr ▸ h⟩
theorem AllL.nil {n : Nat} {listed : Array Bool} {a : Act} {w : World} : AllL P md ops Q S late n listed a w [] := fun _ h => by cases h
theorem AllL.cons {n : Nat} {listed : Array Bool} {a : Act} {w : World} {i : Nat} {o : Oper} {rs : List Nat} (ho : ops[i]? = some o) (hl : late i = false)
  (h : ∀ K' : Act → World → Prop, Shut (∀ a w, S w → (S w → wpAnyL P md ops Q S late n (listed.setIfInBounds i true) a w) → K' a w) → if Region.wanted o (yielded ops a.tmps) = true then Oper.wp P o a w K' Q else K' (a.put o.dst undef) w)
  (hs : AllL P md ops Q S late n listed a w rs) : AllL P md ops Q S late n listed a w (i :: rs) := fun j hj => by
 rcases List.mem_cons.1 hj with e | hj
 ·rw [e]; exact wpOp_step ho (fun K' hK => h K' (fun a w hS hW => hK a w (.inr ⟨hl, hS, hW hS⟩)))
 ·exact hs j hj
/-- A late one: what follows goes under another condition. -/
theorem AllL.last {S2 : World → Prop} {n : Nat} {listed : Array Bool} {a : Act} {w : World} {i : Nat} {o : Oper} {rs : List Nat} (ho : ops[i]? = some o) (hl : late i = true)
  (h : ∀ K' : Act → World → Prop, Shut (∀ a w, S2 w → (S2 w → wpAnyH P md ops Q S2 n (listed.setIfInBounds i true) a w) → K' a w) → if Region.wanted o (yielded ops a.tmps) = true then Oper.wp P o a w K' Q else K' (a.put o.dst undef) w)
  (hs : AllL P md ops Q S late n listed a w rs) : AllL P md ops Q S late n listed a w (i :: rs) := fun j hj => by
 rcases List.mem_cons.1 hj with e | hj
 ·rw [e]; exact wpOp_step ho (fun K' hK => h K' (fun a w hS hW => hK a w (.inl ⟨hl, wpAny_of_held _ _ _ _ (hW hS)⟩)))
 ·exact hs j hj
theorem wp_region_late {id : Nat} {a : Act} {w : World} (late : Nat → Bool) (hm : P.follows .mixedOrders = true) (hS : S w.drew)
  (h : S w.drew → wpAnyL P .any ops Q S late ops.size (Array.replicate ops.size false) a w.drew) : (Code.region id ops true).wp P Q a w :=
 wp_region_any hm (h hS).any
end
end Go
