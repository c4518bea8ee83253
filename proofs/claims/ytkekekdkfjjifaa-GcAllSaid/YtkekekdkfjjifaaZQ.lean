/- The document's copier in memory. -/
import Derived.Test.YtkekekdkfjjifaaY2
import Derived.Test.YtkekekdkfjjifaaZG
namespace Go.Proofs.Ytkekekdkfjjifaa
open Go Go.RowKit
set_option linter.unusedVariables false
set_option linter.unusedSimpArgs false
def news (os : List Ob) (D : List Int) : List Int := D.map fun a => ((pos os D a : Nat) : Int)
theorem news_len (os : List Ob) (D : List Int) : (news os D).length = D.length := by simp [news]
theorem news_get {os : List Ob} {D : List Int} {i : Nat} (h : i < (news os D).length) (h2 : i < D.length) : (news os D)[i] = ((pos os D D[i] : Nat) : Int) := by simp [news]
theorem news_snoc {os : List Ob} {D : List Int} {s : Int} (h : s ∉ D) : news os (D ++ [s]) = news os D ++ [((sm (sz os) D : Nat) : Int)] := by
  unfold news
  rw [List.map_append]
  congr 1
  · exact List.map_congr_left fun a ha => by rw [pos_app _ ha]
  · simp only [List.map_cons, List.map_nil]
    rw [pos_end [] h]
/-- c: the copier; x the heap copied from, y the one copied to; D: what is copied, Q: the pointers of the copies. -/
structure Dc (B : Nat) (w : World) (c x y : Nat) (C1 C2 : Nat → Nat) (qs1 qs2 : List Nat) (os : List Ob) (m dp : Nat) (D : List Int) (Q : List (List Int)) (ov nv : Value) : Prop where
  blk : w.heap[c]? = some (.cells #[.pointer (some ⟨x, 0, none⟩), .pointer (some ⟨y, 0, none⟩), .int .i64 (dp : Nat), ov, nv] 64 (0, 0))
  old : w.ownsRow B 3 1 ov D.length (D.map (Value.int .i64))
  new : w.ownsRow B 3 1 nv D.length ((news os D).map (Value.int .i64))
  ap : Apt ov nv
  oc : ∀ k, ov.ownBlock = some k → C1 k = 0 ∧ C2 k = 0 ∧ k ≠ c
  nc : ∀ k, nv.ownBlock = some k → C1 k = 0 ∧ C2 k = 0 ∧ k ≠ c
  cc : C1 c = 0 ∧ C2 c = 0 ∧ B ≤ c
  src : Rh w x C1 qs1 os m
  dst : RhW w y C2 qs2 (cps os D Q) m
  apart : ∀ k, C1 k ≠ 0 → C2 k = 0
  low : ∀ k, C2 k ≠ 0 → B ≤ k
  lk : Lk os D Q
  nd : D.Nodup
  vd : ∀ a ∈ D, Vd os a
theorem Dc.clt {B : Nat} {w : World} {c x y : Nat} {C1 C2 : Nat → Nat} {qs1 qs2 : List Nat} {os : List Ob} {m dp : Nat} {D : List Int} {Q : List (List Int)} {ov nv : Value} (h : Dc B w c x y C1 C2 qs1 qs2 os m dp D Q ov nv) : c < w.heap.size := (Array.getElem?_eq_some_iff.1 h.blk).1
theorem Dc.below {B : Nat} {w w' : World} {c x y : Nat} {C1 C2 : Nat → Nat} {qs1 qs2 : List Nat} {os : List Ob} {m dp : Nat} {D : List Int} {Q : List (List Int)} {ov nv : Value} (h : Dc B w c x y C1 C2 qs1 qs2 os m dp D Q ov nv) (hb : Below w.heap.size w w') : Dc B w' c x y C1 C2 qs1 qs2 os m dp D Q ov nv :=
  ⟨(hb.block c h.clt).trans h.blk, own_below h.old hb, own_below h.new hb, h.ap, h.oc, h.nc, h.cc, h.src.below hb, h.dst.below hb, h.apart, h.low, h.lk, h.nd, h.vd⟩
theorem Dc.cells {B : Nat} {w : World} {c x y : Nat} {C1 C2 : Nat → Nat} {qs1 qs2 : List Nat} {os : List Ob} {m dp : Nat} {D : List Int} {Q : List (List Int)} {ov nv : Value} (h : Dc B w c x y C1 C2 qs1 qs2 os m dp D Q ov nv) :
    w.cell? ⟨c, 0, none⟩ = some (.pointer (some ⟨x, 0, none⟩)) ∧ w.cell? ⟨c, 1, none⟩ = some (.pointer (some ⟨y, 0, none⟩)) ∧ w.cell? ⟨c, 2, none⟩ = some (.int .i64 (dp : Nat)) ∧ w.cell? ⟨c, 3, none⟩ = some ov ∧ w.cell? ⟨c, 4, none⟩ = some nv ∧ w.frozen? ⟨c, 3, none⟩ = false ∧ w.frozen? ⟨c, 4, none⟩ = false :=
  ⟨by rw [cell_of_row _ _ _ _ _ _ h.blk]; rfl, by rw [cell_of_row _ _ _ _ _ _ h.blk]; rfl, by rw [cell_of_row _ _ _ _ _ _ h.blk]; rfl, by rw [cell_of_row _ _ _ _ _ _ h.blk]; rfl, by rw [cell_of_row _ _ _ _ _ _ h.blk]; rfl, frozen_of_row w c 3 _ _ h.blk, frozen_of_row w c 4 _ _ h.blk⟩
/-- There is room for one copy more. -/
theorem Dc.room {B : Nat} {w : World} {c x y : Nat} {C1 C2 : Nat → Nat} {qs1 qs2 : List Nat} {os : List Ob} {m dp : Nat} {D : List Int} {Q : List (List Int)} {ov nv : Value} (h : Dc B w c x y C1 C2 qs1 qs2 os m dp D Q ov nv) {s : Int} (hs : Vd os s) (hn : s ∉ D) :
    total (cps os D Q) + (newO (hdo os s).t (ptrsOf os s) (numsOf os s)).size ≤ m := by
  have h1 : (D ++ [s]).Nodup := List.nodup_append.2 ⟨h.nd, by simp, fun a ha b hb => by rw [List.mem_singleton.1 hb]; exact fun e => hn (e ▸ ha)⟩
  have h2 : ∀ d ∈ D ++ [s], Vd os d := fun d hd => by
    rcases List.mem_append.1 hd with e | e
    · exact h.vd d e
    · rw [List.mem_singleton.1 e]; exact hs
  have h3 := sm_total h.src.oks h1 h2
  rw [sm_app] at h3
  rw [cps_total h.lk]
  have h4 : sm (sz os) [s] = sz os s := by simp [sm]
  have h5 : (newO (hdo os s).t (ptrsOf os s) (numsOf os s)).size = sz os s := by rw [newO_size]; rfl
  have := h.src.room
  omega
/-- Behind Put: all but the copier's own rows. -/
theorem Dc.put {B : Nat} {w w5 w9 : World} {c x y : Nat} {C1 C2 C3 : Nat → Nat} {qs1 qs2 : List Nat} {q : Nat} {os : List Ob} {m dp : Nat} {D : List Int} {Q : List (List Int)} {ov nv ov' nv' : Value} (h : Dc B w c x y C1 C2 qs1 qs2 os m dp D Q ov nv) {s : Int} (hs : Vd os s) (hn : s ∉ D)
    (hp : RhW w5 y C3 (qs2 ++ [q]) (cps os D Q ++ [newO (hdo os s).t (ptrsOf os s) (numsOf os s)]) m) (hf : Fr (fun k => C2 k ≠ 0) w w5) (hnew : ∀ k, C3 k ≠ 0 → C2 k ≠ 0 ∨ w.heap.size ≤ k) (hB : B ≤ w.heap.size)
    (hg : Fr (fun k => k = c ∨ ov.ownBlock = some k ∨ nv.ownBlock = some k) w5 w9)
    (hblk : w9.heap[c]? = some (.cells #[.pointer (some ⟨x, 0, none⟩), .pointer (some ⟨y, 0, none⟩), .int .i64 (dp : Nat), ov', nv'] 64 (0, 0)))
    (ho : w9.ownsRow B 3 1 ov' (D.length + 1) (D.map (Value.int .i64) ++ [.int .i64 s])) (hv : w9.ownsRow B 3 1 nv' (D.length + 1) ((news os D).map (Value.int .i64) ++ [.int .i64 (sm (sz os) D : Nat)])) (hap : Apt ov' nv')
    (ho' : ∀ k, ov'.ownBlock = some k → ov.ownBlock = some k ∨ w5.heap.size ≤ k) (hv' : ∀ k, nv'.ownBlock = some k → nv.ownBlock = some k ∨ w5.heap.size ≤ k) :
    Dc B w9 c x y C1 C3 qs1 (qs2 ++ [q]) os m dp (D ++ [s]) (Q ++ [ptrsOf os s]) ov' nv' := by
  have hcl := h.clt
  have hsz := hf.size
  have c3 : ∀ k, k < w.heap.size → C2 k = 0 → C3 k = 0 := fun k hk e => by
    apply Decidable.byContradiction; intro e2
    rcases hnew k e2 with h1 | h1
    · exact h1 e
    · omega
  have key : ∀ k, k = c ∨ ov.ownBlock = some k ∨ nv.ownBlock = some k → C1 k = 0 ∧ C3 k = 0 := fun k hk => by
    rcases hk with rfl | hk | hk
    · exact ⟨h.cc.1, c3 _ hcl h.cc.2.1⟩
    · exact ⟨(h.oc k hk).1, c3 k (h.old.lt k hk).2 (h.oc k hk).2.1⟩
    · exact ⟨(h.nc k hk).1, c3 k (h.new.lt k hk).2 (h.nc k hk).2.1⟩
  have hc2 : ∀ k, C2 k ≠ 0 → C1 k = 0 := fun k hk => by
    apply Decidable.byContradiction; intro e; exact hk (h.apart k e)
  refine ⟨hblk, by rw [List.length_append, List.map_append]; exact ho, by rw [news_snoc hn, List.length_append, List.map_append]; exact hv, hap, fun k hk => ?_, fun k hk => ?_, ⟨h.cc.1, c3 _ hcl h.cc.2.1, h.cc.2.2⟩, ?_, ?_, fun k hk => ?_, fun k hk => ?_, h.lk.app (.cons (by rfl) .nil), ?_, ?_⟩
  · rcases ho' k hk with e | e
    · have := key k (.inr (.inl e)); exact ⟨this.1, this.2, (h.oc k e).2.2⟩
    · exact ⟨h.src.fresh k (by omega), hp.fresh k e, by omega⟩
  · rcases hv' k hk with e | e
    · have := key k (.inr (.inr e)); exact ⟨this.1, this.2, (h.nc k e).2.2⟩
    · exact ⟨h.src.fresh k (by omega), hp.fresh k e, by omega⟩
  · exact (h.src.fr hf hc2).fr hg (fun k hk => (key k hk).1)
  · rw [cps_snoc h.lk]; exact hp.fr hg (fun k hk => (key k hk).2)
  · apply Decidable.byContradiction; intro e
    rcases hnew k e with h1 | h1
    · exact hk (hc2 k h1)
    · exact hk (h.src.fresh k h1)
  · rcases hnew k hk with h1 | h1
    · exact h.low k h1
    · omega
  · exact List.nodup_append.2 ⟨h.nd, by simp, fun a ha b hb => by rw [List.mem_singleton.1 hb]; exact fun e => hn (e ▸ ha)⟩
  · intro d hd
    rcases List.mem_append.1 hd with e | e
    · exact h.vd d e
    · rw [List.mem_singleton.1 e]; exact hs
end Go.Proofs.Ytkekekdkfjjifaa
namespace Go.Proofs.Ytkekekdkfjjifaa
open Go Go.RowKit
set_option linter.unusedVariables false
set_option linter.unusedSimpArgs false
structure St8 (B : Nat) (w5 : World) (c : Nat) (ov nv : Value) (bl : Array Value) (W : World) (vo : Value) (no : Nat) (xo : List Value) (vn : Value) (nn : Nat) (xn : List Value) : Prop where
  fr : Fr (fun k => k = c ∨ ov.ownBlock = some k ∨ nv.ownBlock = some k) w5 W
  bk : W.heap[c]? = some (.cells bl 64 (0, 0))
  o : W.ownsRow B 3 1 vo no xo
  n : W.ownsRow B 3 1 vn nn xn
  ap : Apt vo vn
  ho : ∀ k, vo.ownBlock = some k → (ov.ownBlock = some k ∨ w5.heap.size ≤ k) ∧ k ≠ c
  hn : ∀ k, vn.ownBlock = some k → (nv.ownBlock = some k ∨ w5.heap.size ≤ k) ∧ k ≠ c
  hc : c < w5.heap.size
theorem St8.below {B : Nat} {w5 : World} {c : Nat} {ov nv : Value} {bl : Array Value} {W W' : World} {vo : Value} {no : Nat} {xo : List Value} {vn : Value} {nn : Nat} {xn : List Value} (h : St8 B w5 c ov nv bl W vo no xo vn nn xn) (hb : Below W.heap.size W W') : St8 B w5 c ov nv bl W' vo no xo vn nn xn :=
  ⟨h.fr.trans (Fr.of_below (F := fun _ => False) hb) (fun k hk e => e.elim), (hb.block c (Array.getElem?_eq_some_iff.1 h.bk).1).trans h.bk, own_below h.o hb, own_below h.n hb, h.ap, h.ho, h.hn, h.hc⟩
theorem St8.appO {B : Nat} {w5 : World} {c : Nat} {ov nv : Value} {bl : Array Value} {W W' : World} {vo : Value} {no : Nat} {xo : List Value} {vn : Value} {nn : Nat} {xn : List Value} (h : St8 B w5 c ov nv bl W vo no xo vn nn xn) {v' : Value} {n' : Nat} {x' : List Value}
    (hown : W'.ownsRow B 3 1 v' n' x') (hg : W.grownBy W' vo.ownBlock) (hv : ∀ k, v'.ownBlock = some k → vo.ownBlock = some k ∨ W.heap.size ≤ k) : St8 B w5 c ov nv bl W' v' n' x' vn nn xn := by
  have hs := h.fr.size
  have hf : Fr (fun k => vo.ownBlock = some k) W W' := ⟨hg.os, hg.tape, hg.output, hg.size, fun k hk hn => hg.block k hk (fun e => hn e.symm)⟩
  have hcl := (Array.getElem?_eq_some_iff.1 h.bk).1
  refine ⟨?_, (hf.block c hcl (fun e => (h.ho c e).2 rfl)).trans h.bk, hown, own_fr h.n hf (fun k hk e => h.ap k e hk), h.ap.app h.n hv, fun k hk => ?_, h.hn, h.hc⟩
  · refine h.fr.trans hf (fun k hk e => ?_)
    rcases (h.ho k e).1 with e1 | e1
    · exact .inr (.inl e1)
    · omega
  · rcases hv k hk with e | e
    · exact h.ho k e
    · exact ⟨.inr (by omega), by have := h.hc; omega⟩
theorem St8.appN {B : Nat} {w5 : World} {c : Nat} {ov nv : Value} {bl : Array Value} {W W' : World} {vo : Value} {no : Nat} {xo : List Value} {vn : Value} {nn : Nat} {xn : List Value} (h : St8 B w5 c ov nv bl W vo no xo vn nn xn) {v' : Value} {n' : Nat} {x' : List Value}
    (hown : W'.ownsRow B 3 1 v' n' x') (hg : W.grownBy W' vn.ownBlock) (hv : ∀ k, v'.ownBlock = some k → vn.ownBlock = some k ∨ W.heap.size ≤ k) : St8 B w5 c ov nv bl W' vo no xo v' n' x' := by
  have hs := h.fr.size
  have hf : Fr (fun k => vn.ownBlock = some k) W W' := ⟨hg.os, hg.tape, hg.output, hg.size, fun k hk hn => hg.block k hk (fun e => hn e.symm)⟩
  have hcl := (Array.getElem?_eq_some_iff.1 h.bk).1
  refine ⟨?_, (hf.block c hcl (fun e => (h.hn c e).2 rfl)).trans h.bk, own_fr h.o hf (fun k hk e => h.ap k hk e), hown, (h.ap.symm.app h.o hv).symm, h.ho, fun k hk => ?_, h.hc⟩
  · refine h.fr.trans hf (fun k hk e => ?_)
    rcases (h.hn k e).1 with e1 | e1
    · exact .inr (.inr e1)
    · omega
  · rcases hv k hk with e | e
    · exact h.hn k e
    · exact ⟨.inr (by omega), by have := h.hc; omega⟩
/-- The two stores. -/
theorem St8.fin {B : Nat} {w5 : World} {c : Nat} {ov nv a b d : Value} {W : World} {vo : Value} {no : Nat} {xo : List Value} {vn : Value} {nn : Nat} {xn : List Value} (h : St8 B w5 c ov nv #[a, b, d, ov, nv] W vo no xo vn nn xn) :
    Fr (fun k => k = c ∨ ov.ownBlock = some k ∨ nv.ownBlock = some k) w5 ((W.setCell ⟨c, 3, none⟩ vo).setCell ⟨c, 4, none⟩ vn) ∧ ((W.setCell ⟨c, 3, none⟩ vo).setCell ⟨c, 4, none⟩ vn).heap[c]? = some (.cells #[a, b, d, vo, vn] 64 (0, 0)) ∧
    ((W.setCell ⟨c, 3, none⟩ vo).setCell ⟨c, 4, none⟩ vn).ownsRow B 3 1 vo no xo ∧ ((W.setCell ⟨c, 3, none⟩ vo).setCell ⟨c, 4, none⟩ vn).ownsRow B 3 1 vn nn xn := by
  have s1 := heap_setCell_same W c 3 _ 64 vo h.bk
  have s2 := heap_setCell_same _ c 4 _ 64 vn s1
  have hf : Fr (fun k => k = c) W ((W.setCell ⟨c, 3, none⟩ vo).setCell ⟨c, 4, none⟩ vn) := Fr.setCell (F := fun k => k = c) (p := ⟨c, 4, none⟩) (Fr.setCell (F := fun k => k = c) (p := ⟨c, 3, none⟩) (Fr.refl _ _) rfl _) rfl _
  exact ⟨h.fr.trans hf (fun k hk e => .inl e), by simpa using s2, own_fr h.o hf (fun k hk e => (h.ho k hk).2 e), own_fr h.n hf (fun k hk e => (h.hn k hk).2 e)⟩
end Go.Proofs.Ytkekekdkfjjifaa
