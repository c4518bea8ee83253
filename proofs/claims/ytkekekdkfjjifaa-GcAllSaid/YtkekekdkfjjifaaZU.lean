/- The document's copier and the row beside it. -/
import Derived.Test.YtkekekdkfjjifaaY5
import Derived.Test.YtkekekdkfjjifaaZT
import Derived.Test.YtkekekdkfjjifaaZO
import Derived.Test.YtkekekdkfjjifaaZS
namespace Go.Proofs.Ytkekekdkfjjifaa
open Go Go.RowKit
set_option linter.unusedVariables false
set_option linter.unusedSimpArgs false
theorem Dc.fr {F : Nat → Prop} {B : Nat} {w w' : World} {c x y : Nat} {C1 C2 : Nat → Nat} {qs1 qs2 : List Nat} {os : List Ob} {m dp : Nat} {D : List Int} {Q : List (List Int)} {ov nv : Value} (h : Dc B w c x y C1 C2 qs1 qs2 os m dp D Q ov nv)
    (hf : Fr F w w') (hF : ∀ k, F k → C1 k = 0 ∧ C2 k = 0 ∧ k ≠ c ∧ ov.ownBlock ≠ some k ∧ nv.ownBlock ≠ some k) : Dc B w' c x y C1 C2 qs1 qs2 os m dp D Q ov nv :=
  ⟨(hf.block c h.clt (fun e => (hF c e).2.2.1 rfl)).trans h.blk, own_fr h.old hf (fun k hk e => (hF k e).2.2.2.1 hk), own_fr h.new hf (fun k hk e => (hF k e).2.2.2.2 hk), h.ap, h.oc, h.nc, h.cc, h.src.fr hf (fun k e => (hF k e).1), h.dst.fr hf (fun k e => (hF k e).2.1), h.apart, h.low, h.lk, h.nd, h.vd⟩
/-- A row that lies beside the copier's. -/
structure Bs (B : Nat) (w : World) (c : Nat) (C1 C2 : Nat → Nat) (ov nv v : Value) (out : List Int) : Prop where
  own : w.ownsRow B 3 1 v out.length (out.map (Value.int .i64))
  beside : ∀ k, v.ownBlock = some k → C1 k = 0 ∧ C2 k = 0 ∧ k ≠ c ∧ ov.ownBlock ≠ some k ∧ nv.ownBlock ≠ some k
/-- What stands while the document's Collect goes on: w0 is the world that it began in. -/
structure Cs (w0 w : World) (c x y : Nat) (C1 C2 : Nat → Nat) (qs1 qs2 : List Nat) (os : List Ob) (m dp : Nat) (D : List Int) (Q : List (List Int)) (ov nv v : Value) (out : List Int) : Prop where
  dc : Dc w0.heap.size w c x y C1 C2 qs1 qs2 os m dp D Q ov nv
  bs : Bs w0.heap.size w c C1 C2 ov nv v out
  bel : Below w0.heap.size w0 w
theorem Cs.below {w0 w w' : World} {c x y : Nat} {C1 C2 : Nat → Nat} {qs1 qs2 : List Nat} {os : List Ob} {m dp : Nat} {D : List Int} {Q : List (List Int)} {ov nv v : Value} {out : List Int} (h : Cs w0 w c x y C1 C2 qs1 qs2 os m dp D Q ov nv v out) (hb : Below w.heap.size w w') : Cs w0 w' c x y C1 C2 qs1 qs2 os m dp D Q ov nv v out :=
  ⟨h.dc.below hb, ⟨own_below h.bs.own hb, h.bs.beside⟩, h.bel.trans (hb.mono h.bel.size)⟩
/-- What copied leaves. -/
theorem Cs.copied {w0 w w' : World} {c x y : Nat} {C1 C2 : Nat → Nat} {qs1 qs2 : List Nat} {os : List Ob} {m dp : Nat} {D : List Int} {Q : List (List Int)} {ov nv v : Value} {out : List Int} (h : Cs w0 w c x y C1 C2 qs1 qs2 os m dp D Q ov nv v out) {s : Int} {e : Ending}
    (hr : RetCd w0.heap.size c x y C1 C2 qs1 qs2 os m dp D Q ov nv s w e w') : e = .returned (.int .i64 (pos os (addD D s) s : Nat)) ∧ ∃ C3 qs3 R ov' nv', Cs w0 w' c x y C1 C3 qs1 (qs2 ++ qs3) os m dp (addD D s) (Q ++ R) ov' nv' v out ∧ (s ∈ D ∧ R = [] ∨ s ∉ D ∧ R = [ptrsOf os s]) ∧
      Fr (fun k => C2 k = 1 ∨ C2 k = 2 ∨ k = c ∨ ov.ownBlock = some k ∨ nv.ownBlock = some k) w w' ∧ (∀ k, k < w.heap.size → C3 k = C2 k) := by
  obtain ⟨he, C3, qs3, R, ov', nv', h1, h2, h3, h4, h5⟩ := hr
  have hs := h.bel.size
  refine ⟨he, C3, qs3, R, ov', nv', ⟨h1, ⟨own_fr h.bs.own h3 (fun k hk e => ?_), fun k hk => ?_⟩, h.bel.trans (h3.below (fun k hk e => ?_) h.bel.size)⟩, h4, h3, h2⟩
  · obtain ⟨-, b2, b3, b4, b5⟩ := h.bs.beside k hk
    rcases e with e | e | e | e | e
    · omega
    · omega
    · exact b3 e
    · exact b4 e
    · exact b5 e
  · obtain ⟨b1, b2, b3, b4, b5⟩ := h.bs.beside k hk
    have hl := (h.bs.own.lt k hk).2
    refine ⟨b1, by rw [h2 k hl]; exact b2, b3, fun e => ?_, fun e => ?_⟩
    · rcases h5 k (.inl e) with h | h | h
      · exact b4 h
      · exact b5 h
      · omega
    · rcases h5 k (.inr e) with h | h | h
      · exact b4 h
      · exact b5 h
      · omega
  · rcases e with e | e | e | e | e
    · have := h.dc.low k (by omega); omega
    · have := h.dc.low k (by omega); omega
    · have := h.dc.cc.2.2; omega
    · have := (h.dc.old.lt k e).1; omega
    · have := (h.dc.new.lt k e).1; omega
/-- The row beside grows. -/
theorem Cs.grow {w0 w w' : World} {c x y : Nat} {C1 C2 : Nat → Nat} {qs1 qs2 : List Nat} {os : List Ob} {m dp : Nat} {D : List Int} {Q : List (List Int)} {ov nv v v' : Value} {out out' : List Int} (h : Cs w0 w c x y C1 C2 qs1 qs2 os m dp D Q ov nv v out)
    (hown : w'.ownsRow w0.heap.size 3 1 v' out'.length (out'.map (Value.int .i64))) (hg : w.grownBy w' v.ownBlock) (hv : ∀ k, v'.ownBlock = some k → v.ownBlock = some k ∨ w.heap.size ≤ k) : Cs w0 w' c x y C1 C2 qs1 qs2 os m dp D Q ov nv v' out' := by
  have hf : Fr (fun k => v.ownBlock = some k) w w' := ⟨hg.os, hg.tape, hg.output, hg.size, fun k hk hn => hg.block k hk (fun e => hn e.symm)⟩
  refine ⟨h.dc.fr hf h.bs.beside, ⟨hown, fun k hk => ?_⟩, h.bel.trans (hf.below (fun k hk e => ?_) h.bel.size)⟩
  · rcases hv k hk with e | e
    · exact h.bs.beside k e
    · have hc := h.dc.clt
      exact ⟨h.dc.src.fresh k e, h.dc.dst.fresh k e, by omega, fun e2 => by have := (h.dc.old.lt k e2).2; omega, fun e2 => by have := (h.dc.new.lt k e2).2; omega⟩
  · have := (h.bs.own.lt k e).1; omega
/-- A copy in memory. -/
theorem Dc.objAt {B : Nat} {w : World} {c x y : Nat} {C1 C2 : Nat → Nat} {qs1 qs2 : List Nat} {os : List Ob} {m dp : Nat} {D : List Int} {Q : List (List Int)} {ov nv : Value} (h : Dc B w c x y C1 C2 qs1 qs2 os m dp D Q ov nv)
    {i q : Nat} {a : Int} {l : List Int} (hi : D[i]? = some a) (hl : Q[i]? = some l) (hq : qs2[i]? = some q) : C2 q = 3 * i + 3 ∧ q < w.heap.size ∧ ∃ pa pc, w.cell? ⟨q, 2, none⟩ = some (.slice pa l.length pc) ∧ w.ownsRow 0 3 1 (.slice pa l.length pc) l.length (l.map (Value.int .i64)) ∧ ∀ k, (Value.slice pa l.length pc).ownBlock = some k → C2 k = 3 * i + 4 := by
  obtain ⟨h1, ha⟩ := List.getElem?_eq_some_iff.1 hi
  obtain ⟨h2, hb⟩ := List.getElem?_eq_some_iff.1 hl
  have hc : i < (cps os D Q).length := by rw [cps_len h.lk]; exact h1
  obtain ⟨hq1, hq2⟩ := List.getElem?_eq_some_iff.1 hq
  have hpt : (cps os D Q)[i].ptrs = l := by rw [cps_at h.lk i h1 h2 hc, newO_ptrs, hb]
  obtain ⟨f0, pv, nv, f1, f2, f3, f4, f5⟩ := h.dst.obs i hc hq1
  rw [hpt] at f2
  rw [hq2] at f0 f1
  obtain ⟨pa, pc, rfl⟩ := own_sform f2
  exact ⟨f0, (Array.getElem?_eq_some_iff.1 f1).1, pa, pc, by rw [cell_of_row _ _ _ _ _ _ f1]; rfl, f2, f3⟩
/-- One pointer is set. -/
theorem Cs.ptr {w0 w : World} {c x y : Nat} {C1 C2 : Nat → Nat} {qs1 qs2 : List Nat} {os : List Ob} {m dp : Nat} {D : List Int} {Q : List (List Int)} {ov nv v : Value} {out : List Int} (h : Cs w0 w c x y C1 C2 qs1 qs2 os m dp D Q ov nv v out)
    {i q : Nat} {a : Int} {l : List Int} (hi : D[i]? = some a) (hl : Q[i]? = some l) (hq : qs2[i]? = some q) {g n pc : Nat} (hc2 : w.cell? ⟨q, 2, none⟩ = some (.slice (some ⟨g, 0, none⟩) n pc)) (j : Nat) (hj : j < l.length) (z : Int) :
    Cs w0 (w.setCell ⟨g, j, none⟩ (.int .i64 z)) c x y C1 C2 qs1 qs2 os m dp D (Q.set i (l.set j z)) ov nv v out := by
  obtain ⟨h1, h2⟩ := h.dc.ptr hi hl hq hc2 j hj z
  have hfr : Fr (fun k => k = g) w (w.setCell ⟨g, j, none⟩ (.int .i64 z)) := Fr.setCell (F := fun k => k = g) (p := ⟨g, j, none⟩) (Fr.refl _ _) rfl _
  refine ⟨h1, ⟨own_fr h.bs.own hfr (fun k hk e => h2 (by rw [← e]; exact (h.bs.beside k hk).2.1)), h.bs.beside⟩, h.bel.trans (hfr.below (fun k hk e => ?_) h.bel.size)⟩
  subst e
  have := h.dc.low k h2; omega
/-- The copier, at the start. -/
theorem Cs.new {w w1 w2 w3 : World} {x : Nat} {C1 : Nat → Nat} {qs1 : List Nat} {os : List Ob} {m dp : Nat} (h : Rh w x C1 qs1 os m) (hb : Below w.heap.size w w1) (h2 : w2 = w1.alloc (.cells #[.int .i64 m, .int .i64 0, .slice none 0 0] 67))
    (h3 : w3 = w2.alloc (.cells #[.pointer (some ⟨x, 0, none⟩), .pointer (some ⟨w1.heap.size, 0, none⟩), .int .i64 (dp : Nat), .slice none 0 0, .slice none 0 0] 64)) :
    ∃ C2, Cs w w3 w2.heap.size x w1.heap.size C1 C2 qs1 [] os m dp [] [] (.slice none 0 0) (.slice none 0 0) (.slice none 0 0) [] := by
  have s2 : w2.heap.size = w1.heap.size + 1 := by rw [h2]; exact Array.size_push _
  have s3 : w3.heap.size = w2.heap.size + 1 := by rw [h3]; exact Array.size_push _
  have b2 : Below w1.heap.size w1 w2 := by rw [h2]; exact (Below.refl _ _).alloc (Nat.le_refl _) _
  have b3 : Below w2.heap.size w2 w3 := by rw [h3]; exact (Below.refl _ _).alloc (Nat.le_refl _) _
  have b13 : Below w1.heap.size w1 w3 := b2.trans (b3.mono (by omega))
  have hs := hb.size
  have hall : Below w.heap.size w w3 := hb.trans (b13.mono hs)
  have hx := h.lt
  refine ⟨fun k => if k = w1.heap.size then 1 else 0, ⟨⟨by rw [h3]; exact alloc_at _ _, World.ownsRow_nil _ _ _ _, World.ownsRow_nil _ _ _ _, fun k hk => (by cases hk), fun k hk => (by cases hk), fun k hk => (by cases hk), ⟨h.fresh _ (by omega), by simp [s2], by omega⟩, h.below hall, ⟨?_, by simp, rfl, fun i hi => by simp [cps] at hi, fun o ho => by simp [cps] at ho, h.most, Nat.zero_le _, fun k hk => ?_⟩, fun k hk => ?_, fun k hk => ?_, .nil, .nil, fun a ha => by simp at ha⟩, ⟨World.ownsRow_nil _ _ _ _, fun k hk => (by cases hk)⟩, hall⟩⟩
  · have : w2.heap[w1.heap.size]? = some (.cells #[.int .i64 m, .int .i64 0, .slice none 0 0] 67 (0, 0)) := by rw [h2]; exact alloc_at _ _
    exact ⟨.slice none 0 0, (b3.block _ (by omega)).trans this, World.ownsRow_nil _ _ _ _, fun k hk => by cases hk⟩
  · have : k ≠ w1.heap.size := by omega
    simp [this]
  · have : k ≠ w1.heap.size := fun e => hk (h.fresh k (by omega))
    simp [this]
  · apply Classical.byContradiction
    intro e
    have : k ≠ w1.heap.size := by omega
    simp [this] at hk
end Go.Proofs.Ytkekekdkfjjifaa
namespace Go.Proofs.Ytkekekdkfjjifaa
open Go Go.RowKit
set_option linter.unusedVariables false
set_option linter.unusedSimpArgs false
def RetNo (w : World) (e : Ending) (w' : World) : Prop := e = .returned (.tuple #[.pointer none, .slice none 0 0, .bool false]) ∧ Below w.heap.size w w'
set_option maxHeartbeats 16000000 in
set_option maxRecDepth 100000 in
theorem collect_no {w : World} {b : Nat} {G : Option Nat} {os : List Ob} {m : Nat} (h : HpO w b G os m) (dp : Nat) (hdp : dp ≤ 20) (rv : Value) (rs : List Int) (hr : IsS w rv rs) (hl : rs.length ≤ 1000000) (hb : ∀ r ∈ rs, I64 r) (hok : okR os rs = false) :
    Calls Try.prog 16 #[.pointer (some ⟨b, 0, none⟩), rv, .int .i64 dp] w (RetNo w) := by
  have F33 := Lib.hid (are_any h rv rs hr hl hb)
  rw [hok] at F33
  have q1 : decide ((dp : Int) < 0) = false := decide_eq_false (by omega)
  have q2 : decide ((20 : Int) < (dp : Int)) = false := decide_eq_false (by omega)
  have hsl : ∃ ao c, rv = .slice ao rs.length c := by obtain ⟨ao, c, e, _⟩ := hr; exact ⟨ao, c, e⟩
  obtain ⟨rao, rc, rfl⟩ := hsl
  obtain ⟨n, hn⟩ : ∃ n, n = rs.length := ⟨_, rfl⟩
  rw [← hn] at hl F33 ⊢
  clear h hr hok hn hb
  go_enter Try.func16, Try.ntmps16
  go_wp2_with fail
  refine F33.out.mono ?_
  rintro e w1 ⟨rfl, hb1⟩
  have HB1 := Lib.hid hb1
  clear F33 hb1
  go_wp2_with fail
  go_ret3
  exact ⟨rfl, HB1.out⟩
end Go.Proofs.Ytkekekdkfjjifaa
