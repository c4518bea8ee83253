/- The first loop of NormArgs. -/
import Derived.Test.YtmcgocbkjdacaaaDoorLA1
import Derived.Test.YtmcgocbkjdacaaaDoorW18
import Derived.Test.YtmcgocbkjdacaaaDoorTX6
namespace Go.Proofs.YtmcgocbkjdacaaaDoor
open Go.RowKit Go.BigM
set_option linter.unusedVariables false
set_option linter.unusedSimpArgs false
def KsAt (w : World) (a : Option Addr) (len : Nat) : Prop := ∀ j, j < len → ∃ x z, a = some x ∧ w.cell? (x.add j) = some (.int .i64 z) ∧ I64 z
theorem KsAt.of_row {w : World} {a : Option Addr} {len cap : Nat} {zs : List Int} (h : IsRow .i64 w a len cap zs) : KsAt w a len := by
  intro j hj
  rcases h with ⟨rfl, rfl, rfl, rfl⟩ | ⟨x, rfl, h1, h2, h3, h4, h5⟩
  · omega
  · refine ⟨x, zs.getD j 0, rfl, h4 j (by omega), ?_⟩
    rw [List.getD_eq_getElem?_getD, List.getElem?_eq_getElem (by omega)]
    exact wf_I64 _ (h5 _ (List.getElem_mem _))
theorem KsAt.below {w w' : World} {a : Option Addr} {len : Nat} (h : KsAt w a len) (hb : Below w.heap.size w w') : KsAt w' a len := by
  intro j hj
  obtain ⟨x, z, e, hc, hi⟩ := h j hj
  exact ⟨x, z, e, by rw [hb.cell (World.block_lt_of_cell? w _ hc)]; exact hc, hi⟩
def prt (c : Bool) (l : List Bool) : List Et := if c then l.map pt else kf :: l.map pt
theorem prt_snoc (c : Bool) (l : List Bool) (b : Bool) : prt c (l ++ [b]) = prt c l ++ [pt b] := by cases c <;> simp [prt]
def kA (c : Bool) : Int := if c then 10 else 7
def tA (c : Bool) : ByteArray := if c then ⟨#[99, 111, 110, 115]⟩ else ⟨#[]⟩
theorem atm_is (c : Bool) (l : List Bool) : atm c l = .mk (kA c) (tA c) [] (prt c l) := by cases c <;> rfl
/-- The first loop. -/
def LInv (c : Bool) (n : Nat) (B : Nat) (wb : World) (ge go : Nat) (tv nv iv : Value) (wr : World) : Prop :=
  ∃ (l : List Bool) (av : Value), l.length ≤ n ∧ iv = .int .i64 (l.length : Int) ∧ tv = .int .i64 (thk l : Int) ∧ AInv B wb ge go (kA c) (tA c) wr av nv (prt c l) (nml 0 l)
theorem LInv.step {c : Bool} {n B : Nat} {wb : World} {ge go : Nat} {l : List Bool} {b : Bool} {av nv : Value} {wr : World} (hl : l.length < n) (M : AInv B wb ge go (kA c) (tA c) wr av nv (prt c l ++ [pt b]) (nml 0 l ++ [if b then pn (thk l + 1) else ⟨#[49]⟩])) :
    LInv c n B wb ge go (.int .i64 ((thk l : Int) + (if b then 1 else 0))) nv (.int .i64 ((l.length : Int) + 1)) wr := by
  refine ⟨l ++ [b], av, by simp; omega, by simp, ?_, ?_⟩
  · rw [thk_snoc]; cases b <;> simp
  · rw [prt_snoc, nml_snoc, Nat.zero_add]; exact M
theorem LInv.thin {c : Bool} {n B : Nat} {wb : World} {ge go : Nat} {l : List Bool} {av nv : Value} {wr : World} (hl : l.length < n) (M : AInv B wb ge go (kA c) (tA c) wr av nv (prt c l ++ [ko]) (nml 0 l ++ [⟨#[49]⟩])) :
    LInv c n B wb ge go (.int .i64 (thk l : Int)) nv (.int .i64 ((l.length : Int) + 1)) wr := by
  have h := LInv.step (b := false) hl M
  simpa using h
theorem LInv.fat {c : Bool} {n B : Nat} {wb : World} {ge go : Nat} {l : List Bool} {av nv : Value} {wr : World} (hl : l.length < n) (M : AInv B wb ge go (kA c) (tA c) wr av nv (prt c l ++ [onot]) (nml 0 l ++ [pn (thk l + 1)])) :
    LInv c n B wb ge go (.int .i64 ((thk l : Int) + 1)) nv (.int .i64 ((l.length : Int) + 1)) wr := by
  have h := LInv.step (b := true) hl M
  simpa using h
theorem not_at (wr : World) : Et.At (fun x => wr.heap.size ≤ x) (wr.alloc (.cells #[.int .i64 1, .string ⟨#[49]⟩, .slice none 0 0, .slice none 0 0] 28)) onot #[.int .i64 10, .string ⟨#[110, 111, 116]⟩, .slice none 0 0, .slice (some ⟨wr.heap.size, 0, none⟩) 1 1] := by
  unfold onot
  rw [EAt_mk]
  refine ⟨_, _, rfl, .inl ⟨rfl, rfl⟩, ?_⟩
  exact rows_at (S := fun x => wr.heap.size ≤ x) (g := wr.heap.size) 1 (Nat.le_refl _) [(ko, #[.int .i64 1, .string ⟨#[49]⟩, .slice none 0 0, .slice none 0 0])] (by
    intro p hp
    simp only [List.mem_cons, List.not_mem_nil, or_false] at hp
    subst hp
    exact ⟨leaf_at _ _ 1 ⟨#[49]⟩, rfl⟩) (fz := (0, 0)) rfl (alloc_at wr _)
theorem prt_len (c : Bool) (l : List Bool) : (prt c l).length = l.length + (if c then 0 else 1) := by cases c <;> simp [prt]
theorem pn_small (d : Nat) (h : d < 10) : pn d = ⟨#[37, 46]⟩ ++ ⟨#[UInt8.ofNat (48 + d)]⟩ := by
  unfold pn
  rw [dgn_small d h]
  rfl
theorem LInv.fat2 {c : Bool} {n B : Nat} {wb : World} {ge go : Nat} {l : List Bool} {av nv : Value} {wr : World} {d : Nat} (hd : d = thk l + 1) (hl : l.length < n) (M : AInv B wb ge go (kA c) (tA c) wr av nv (prt c l ++ [onot]) (nml 0 l ++ [pn d])) :
    LInv c n B wb ge go (.int .i64 (d : Int)) nv (.int .i64 ((l.length : Int) + 1)) wr := by
  subst hd
  have h := LInv.fat hl M
  simpa using h
theorem wrap_sm (j : Nat) (h : j < 10) : IntKind.i64.wrap (48 + (j : Int)) = 48 + (j : Int) ∧ IntKind.u8.wrap (48 + (j : Int)) = 48 + (j : Int) := by
  constructor
  · rw [IntKind.wrap_i64]; omega
  · rw [IntKind.wrap_u8]; omega
theorem abd_text (c : Bool) (l : List Bool) (h : l ≠ []) : (⟨(if c then [40, 99, 111, 110, 115, 32] else [40, 102, 32] : List UInt8).toArray⟩ : ByteArray) ++ ⟨(jn (nml 0 l)).toArray⟩ ++ ⟨[41].toArray⟩ = ⟨(abd c l).wr.toArray⟩ := by
  rw [abd_wr c l h, str_app, str_app]
/-- The second loop. -/
def XInv (c : Bool) (l : List Bool) (gx : Nat) (W : World) (iv : Value) (wr : World) : Prop :=
  ∃ (j : Nat) (cs : Array Value), 1 ≤ j ∧ j ≤ thk l + 1 ∧ iv = .int .i64 (j : Int) ∧ wr.heap[gx]? = some (.cells cs 28 (0, 0)) ∧ Et.At (fun x => x < gx) wr (lets ((vls 0 l).drop (j - 1)) (abd c l)) cs ∧ Below gx W wr
theorem vls_drop (l : List Bool) (j : Nat) (h1 : 1 ≤ j) (h : j ≤ thk l) (b : Et) : lets ((vls 0 l).drop (j - 1)) b = ebind (pn j) onot (lets ((vls 0 l).drop (j + 1 - 1)) b) := by
  have hl := vls_len l 0
  have hlt : j - 1 < (vls 0 l).length := by omega
  have hg := vls_get l 0 (j - 1) hlt
  rw [show 0 + (j - 1) + 1 = j by omega] at hg
  rw [List.drop_eq_getElem_cons hlt, hg, show j + 1 - 1 = j - 1 + 1 by omega]
  rfl
theorem vls_end (l : List Bool) (j : Nat) (h : j = thk l + 1) (b : Et) : lets ((vls 0 l).drop (j - 1)) b = b := by
  have hl := vls_len l 0
  rw [List.drop_eq_nil_of_le (by omega)]
  rfl
theorem bod_len : ∀ (l : List Bool) (m : Nat), (bod m l).length = l.length
  | [], _ => rfl
  | false :: l, m => by simp only [bod, List.length_cons, bod_len l m]
  | true :: l, m => by simp only [bod, List.length_cons, bod_len l (m + 1)]
theorem kf_right : kf.right num = true := by unfold kf evar; simp [right_mk, Et.rights, shapeB, textB, namesB, partsB, Lib.toList_data]
theorem abd_right (c : Bool) (l : List Bool) (h : l.length = if c then 2 else 6) : (abd c l).right num = true := by
  have h1 := bod_right l 0
  have hl := bod_len l 0
  have hr : Et.rights num (bod 0 l) = true := (rights_all _).2 h1
  cases c with
  | true =>
    simp only [if_true] at h
    show (Et.mk 10 ⟨#[99, 111, 110, 115]⟩ [] (bod 0 l)).right num = true
    rw [right_mk, hr]
    simp [shapeB, textB, namesB, partsB, Lib.toList_data, arity, arityIn, prims, hl, h]
  | false =>
    simp only [Bool.false_eq_true, if_false] at h
    show (Et.mk 7 ⟨#[]⟩ [] (kf :: bod 0 l)).right num = true
    rw [right_mk]
    simp [shapeB, textB, namesB, partsB, Lib.toList_data, Et.rights, hr, kf_right, hl, h]
theorem bod_fine : ∀ (l : List Bool) (m : Nat), m + l.length ≤ 1000 → ∀ e ∈ bod m l, e.fine ∧ e.size = 1
  | [], _, _, e, he => by simp [bod] at he
  | false :: l, m, h, e, he => by
    rcases List.mem_cons.1 he with rfl | he
    · exact ⟨ko_fine, by decide⟩
    · exact bod_fine l m (by simp only [List.length_cons] at h; omega) e he
  | true :: l, m, h, e, he => by
    simp only [List.length_cons] at h
    rcases List.mem_cons.1 he with rfl | he
    · refine ⟨?_, by simp [evar, Et.size, Et.sizes]⟩
      unfold evar; rw [fine_mk]
      have := pn_size (m + 1) (by omega)
      exact ⟨by omega, by simp, by simp, by simp⟩
    · exact bod_fine l (m + 1) (by omega) e he
theorem bod_sizes : ∀ (l : List Et), (∀ e ∈ l, e.fine ∧ e.size = 1) → Et.sizes l = l.length
  | [], _ => rfl
  | e :: l, h => by
    have h1 := (h e (List.mem_cons_self ..)).2
    have h2 := bod_sizes l (fun x hx => h x (List.mem_cons_of_mem _ hx))
    simp only [Et.sizes, List.length_cons]; omega
theorem abd_fine (c : Bool) (l : List Bool) (h : l.length ≤ 6) : (abd c l).fine ∧ (abd c l).size ≤ 20 := by
  have h1 := bod_fine l 0 (by omega)
  have h2 := bod_sizes _ h1
  have hl := bod_len l 0
  cases c with
  | true =>
    show (Et.mk 10 ⟨#[99, 111, 110, 115]⟩ [] (bod 0 l)).fine ∧ (Et.mk 10 ⟨#[99, 111, 110, 115]⟩ [] (bod 0 l)).size ≤ 20
    rw [fine_mk]
    exact ⟨⟨by decide, by simp, by simp, fun e he => (h1 e he).1⟩, by simp only [Et.size]; omega⟩
  | false =>
    have h3 : kf.size = 1 := by decide
    show (Et.mk 7 ⟨#[]⟩ [] (kf :: bod 0 l)).fine ∧ (Et.mk 7 ⟨#[]⟩ [] (kf :: bod 0 l)).size ≤ 20
    rw [fine_mk]
    refine ⟨⟨by decide, by simp, by simp, fun e he => ?_⟩, by simp only [Et.size, Et.sizes, h3]; omega⟩
    rcases List.mem_cons.1 he with rfl | he
    · exact kf_fine
    · exact (h1 e he).1
theorem nml_small : ∀ (l : List Bool) (m : Nat), m + l.length ≤ 1000 → ∀ s ∈ nml m l, s.size ≤ 100
  | [], _, _, s, hs => by simp [nml] at hs
  | false :: l, m, h, s, hs => by
    rcases List.mem_cons.1 hs with rfl | hs
    · decide
    · exact nml_small l m (by simp only [List.length_cons] at h; omega) s hs
  | true :: l, m, h, s, hs => by
    simp only [List.length_cons] at h
    rcases List.mem_cons.1 hs with rfl | hs
    · have := pn_size (m + 1) (by omega); omega
    · exact nml_small l (m + 1) (by omega) s hs
theorem atm_at {B : Nat} {wb : World} {ge go : Nat} {c : Bool} {l : List Bool} {wr : World} {av nv : Value} {nms : List ByteArray} (M : AInv B wb ge go (kA c) (tA c) wr av nv (prt c l) nms) : Et.At (fun _ => True) wr (atm c l) #[.int .i64 (kA c), .string (tA c), .slice none 0 0, av] := by
  rw [atm_is, EAt_mk]
  exact ⟨_, _, rfl, .inl ⟨rfl, rfl⟩, M.own.at.mono (fun _ _ => trivial)⟩
theorem pn_cat (d : Nat) (h : d < 10) : (⟨#[37, 46]⟩ : ByteArray) ++ ⟨#[UInt8.ofNat (48 + d)]⟩ = pn d := (pn_small d h).symm
theorem AInv.start_cons (w2 : World) (X : Array Value) : AInv w2.heap.size w2 (w2.heap.size + 1) (w2.heap.size + 1 + 1) 10 ⟨#[99, 111, 110, 115]⟩ (((w2.alloc (.cells X 28)).alloc (.cells #[.int .i64 10, .string ⟨#[99, 111, 110, 115]⟩, .slice none 0 0, .slice none 0 0] 28)).alloc (.cells #[.int .i64 1, .string ⟨#[49]⟩, .slice none 0 0, .slice none 0 0] 28)) (.slice none 0 0) (.slice none 0 0) [] [] := by
  have s1 : (w2.alloc (.cells X 28)).heap.size = w2.heap.size + 1 := by simp
  have s2 : ((w2.alloc (.cells X 28)).alloc (.cells #[.int .i64 10, .string ⟨#[99, 111, 110, 115]⟩, .slice none 0 0, .slice none 0 0] 28)).heap.size = w2.heap.size + 1 + 1 := by simp
  refine ⟨OwnQ.nil _ _ _, OwnN.nil _ _, fun x hx => (by cases hx), fun x hx => (by cases hx), ?_, ?_, by omega, by omega, (((Below.refl _ _).alloc (Nat.le_refl _) _).alloc (by simp) _).alloc (by simp; omega) _, by simp; omega⟩
  · unfold EB
    refine (Lib.alloc_old _ _ _ (by rw [s2]; omega)).trans ?_
    have h := alloc_at (w2.alloc (.cells X 28)) (.cells #[.int .i64 10, .string ⟨#[99, 111, 110, 115]⟩, .slice none 0 0, .slice none 0 0] 28)
    rw [s1] at h; exact h
  · unfold EB
    have h := alloc_at ((w2.alloc (.cells X 28)).alloc (.cells #[.int .i64 10, .string ⟨#[99, 111, 110, 115]⟩, .slice none 0 0, .slice none 0 0] 28)) (.cells #[.int .i64 1, .string ⟨#[49]⟩, .slice none 0 0, .slice none 0 0] 28)
    rw [s2] at h; exact h
theorem AInv.start_app (w2 : World) : AInv w2.heap.size w2 (w2.heap.size + 1) (w2.heap.size + 1 + 1) 7 ⟨#[]⟩ (((w2.alloc (.cells #[.int .i64 5, .string ⟨#[102]⟩, .slice none 0 0, .slice none 0 0] 28)).alloc (.cells #[.int .i64 7, .string ⟨#[]⟩, .slice none 0 0, .slice (some ⟨w2.heap.size, 0, none⟩) 1 1] 28)).alloc (.cells #[.int .i64 1, .string ⟨#[49]⟩, .slice none 0 0, .slice none 0 0] 28)) (.slice (some ⟨w2.heap.size, 0, none⟩) 1 1) (.slice none 0 0) [kf] [] := by
  have s1 : (w2.alloc (.cells #[.int .i64 5, .string ⟨#[102]⟩, .slice none 0 0, .slice none 0 0] 28)).heap.size = w2.heap.size + 1 := by simp
  have s2 : ((w2.alloc (.cells #[.int .i64 5, .string ⟨#[102]⟩, .slice none 0 0, .slice none 0 0] 28)).alloc (.cells #[.int .i64 7, .string ⟨#[]⟩, .slice none 0 0, .slice (some ⟨w2.heap.size, 0, none⟩) 1 1] 28)).heap.size = w2.heap.size + 1 + 1 := by simp
  have h0 : (((w2.alloc (.cells #[.int .i64 5, .string ⟨#[102]⟩, .slice none 0 0, .slice none 0 0] 28)).alloc (.cells #[.int .i64 7, .string ⟨#[]⟩, .slice none 0 0, .slice (some ⟨w2.heap.size, 0, none⟩) 1 1] 28)).alloc (.cells #[.int .i64 1, .string ⟨#[49]⟩, .slice none 0 0, .slice none 0 0] 28)).heap[w2.heap.size]? = some (.cells #[.int .i64 5, .string ⟨#[102]⟩, .slice none 0 0, .slice none 0 0] 28 (0, 0)) := (Lib.alloc_old _ _ _ (by rw [s2]; omega)).trans ((Lib.alloc_old _ _ _ (by rw [s1]; omega)).trans (alloc_at w2 _))
  refine ⟨⟨[.int .i64 5, .string ⟨#[102]⟩, .slice none 0 0, .slice none 0 0], ⟨rfl, .inr ⟨w2.heap.size, 1, #[.int .i64 5, .string ⟨#[102]⟩, .slice none 0 0, .slice none 0 0], rfl, Nat.le_refl _, h0, Nat.le_refl _, by unfold maxLen; omega, rfl, rfl⟩⟩, fun j hj => ?_⟩, OwnN.nil _ _, fun x hx => ?_, fun x hx => (by cases hx), ?_, ?_, by omega, by omega, (((Below.refl _ _).alloc (Nat.le_refl _) _).alloc (by simp) _).alloc (by simp; omega) _, by simp; omega⟩
  · obtain rfl : j = 0 := by simpa using hj
    refine ⟨#[.int .i64 5, .string ⟨#[102]⟩, .slice none 0 0, .slice none 0 0], rfl, fun i hi => ?_, leaf_at _ _ 5 ⟨#[102]⟩⟩
    rcases i with _ | _ | _ | _ | i
    · rfl
    · rfl
    · rfl
    · rfl
    · omega
  · have hx2 : some w2.heap.size = some x := hx
    injection hx2 with hx2
    subst hx2
    exact ⟨by omega, by omega, fun e => (by cases e)⟩
  · unfold EB
    refine (Lib.alloc_old _ _ _ (by rw [s2]; omega)).trans ?_
    have h := alloc_at (w2.alloc (.cells #[.int .i64 5, .string ⟨#[102]⟩, .slice none 0 0, .slice none 0 0] 28)) (.cells #[.int .i64 7, .string ⟨#[]⟩, .slice none 0 0, .slice (some ⟨w2.heap.size, 0, none⟩) 1 1] 28)
    rw [s1] at h; exact h
  · unfold EB
    have h := alloc_at ((w2.alloc (.cells #[.int .i64 5, .string ⟨#[102]⟩, .slice none 0 0, .slice none 0 0] 28)).alloc (.cells #[.int .i64 7, .string ⟨#[]⟩, .slice none 0 0, .slice (some ⟨w2.heap.size, 0, none⟩) 1 1] 28)) (.cells #[.int .i64 1, .string ⟨#[49]⟩, .slice none 0 0, .slice none 0 0] 28)
    rw [s2] at h; exact h
end Go.Proofs.YtmcgocbkjdacaaaDoor
