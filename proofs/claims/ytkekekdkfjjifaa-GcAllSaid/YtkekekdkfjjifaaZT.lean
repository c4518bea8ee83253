/- One pointer of one copy is set, in the document's new heap. -/
import Derived.Test.YtkekekdkfjjifaaZQ
import Derived.Test.YtkekekdkfjjifaaZR
import Derived.Test.YtkekekdkfjjifaaZN
import Derived.Test.YtkekekdkfjjifaaZO
namespace Go.Proofs.Ytkekekdkfjjifaa
open Go Go.RowKit
set_option linter.unusedVariables false
set_option linter.unusedSimpArgs false
theorem RhW.put {w w' : World} {x : Nat} {C C' : Nat → Nat} {qs : List Nat} {os : List Ob} {m : Nat} (h : RhW w x C qs os m) {i q : Nat} (hi : i < os.length) (hq : qs[i]? = some q) {o : Ob} (e : o.body.length = os[i].body.length) (ho : o.Ok)
    {F : Nat → Prop} (hf : Fr F w w') (hF : ∀ k, F k → C k = 3 * i + 3 ∨ C k = 3 * i + 4) (hC : ∀ k, k < w.heap.size → C' k = C k) (hC2 : ∀ k, w'.heap.size ≤ k → C' k = 0) (hob : ObAt w' C' i q o (adr os i)) : RhW w' x C' qs (os.set i o) m := by
  have keepC : ∀ {v : Value} {n : Nat} {xs : List Value} {e : TypeId}, w.ownsRow 0 e 1 v n xs → ∀ k, v.ownBlock = some k → C' k = C k := fun h k hk => hC k (h.lt k hk).2
  refine ⟨?_, by rw [hC x h.lt]; exact h.cx, by rw [List.length_set]; exact h.len, ?_, oks_set h.oks ho, h.most, by rw [total_set hi e]; exact h.room, hC2⟩
  · obtain ⟨lv, h1, h2, h3⟩ := h.head
    refine ⟨lv, ?_, ?_, fun k hk => by rw [keepC h2 k hk]; exact h3 k hk⟩
    · rw [total_set hi e]
      exact (hf.block x h.lt (fun e => by have := hF x e; have := h.cx; omega)).trans h1
    · rw [List.length_set]
      exact own_fr h2 hf (fun k hk e => by have := hF k e; have := h3 k hk; omega)
  · intro j hj hj'
    rw [List.length_set] at hj
    rw [adr_set hi e j hj]
    by_cases hij : i = j
    · subst hij
      rw [List.getElem_set_self]
      have : qs[i] = q := by rw [List.getElem?_eq_getElem hj'] at hq; injection hq
      rw [this]
      exact hob
    · rw [List.getElem_set_ne hij]
      have h9 := (h.obs j hj hj').fr hf (fun k hk => by have := hF k hk; omega)
      obtain ⟨_, pv0, nv0, g1, g2, g3, g4, g5⟩ := h.obs j hj hj'
      obtain ⟨f0, pv, nv, f1, f2, f3, f4, f5⟩ := h9
      have hlt := (Array.getElem?_eq_some_iff.1 g1).1
      have e1 : w'.heap[qs[j]]? = w.heap[qs[j]]? := hf.block _ hlt (fun e => by have := hF _ e; omega)
      rw [e1, g1] at f1
      injection f1 with f1
      injection f1 with f1
      simp at f1
      obtain ⟨rfl, rfl⟩ := f1
      exact ⟨by rw [hC _ hlt]; exact f0, pv0, nv0, e1.trans g1, f2, fun k hk => by rw [keepC g2 k hk]; exact f3 k hk, f4, fun k hk => by rw [keepC g4 k hk]; exact f5 k hk⟩
theorem RhW.ptr {w : World} {x : Nat} {C : Nat → Nat} {qs : List Nat} {os : List Ob} {m : Nat} (h : RhW w x C qs os m) {k q : Nat} (hk : k < os.length) (hq : qs[k]? = some q) {g n pc : Nat} (hc2 : w.cell? ⟨q, 2, none⟩ = some (.slice (some ⟨g, 0, none⟩) n pc)) (j : Nat) (hj : j < os[k].ptrs.length) (v : Int) :
    RhW (w.setCell ⟨g, j, none⟩ (.int .i64 v)) x C qs (os.set k (setO os[k] j v)) m ∧ C g = 3 * k + 4 := by
  have hk' : k < qs.length := by rw [h.len]; exact hk
  have hqk : qs[k] = q := by rw [List.getElem?_eq_getElem hk'] at hq; injection hq
  have h4 := h.obs k hk hk'
  rw [hqk] at h4
  obtain ⟨f0, pv, nv, f1, f2, f3, f4, f5⟩ := h4
  have epv : pv = .slice (some ⟨g, 0, none⟩) n pc := by
    rw [cell_of_row _ _ _ _ _ _ f1] at hc2; simpa using hc2
  subst epv
  have hgC : C g = 3 * k + 4 := f3 g rfl
  refine ⟨?_, hgC⟩
  have hset := own_set f2 (g := g) rfl j (by rw [List.length_map]; exact hj) (.int .i64 v)
  have hfr : Fr (fun y => y = g) w (w.setCell ⟨g, j, none⟩ (.int .i64 v)) := Fr.setCell (F := fun y => y = g) (p := ⟨g, j, none⟩) (Fr.refl _ _) rfl _
  refine h.put hk hq (by simp [setO]) (setO_ok (h.oks _ (List.getElem_mem hk)) j v (by have h9 := hj; unfold Ob.ptrs at h9; rw [List.length_take] at h9; omega)) hfr (fun y hy => by rw [hy]; exact .inr hgC) (fun _ _ => rfl) (fun y hy => h.fresh y (by simpa [World.setCell] using hy)) ?_
  have hqg : q ≠ g := fun e => by rw [e] at f0; omega
  refine ⟨f0, _, nv, ?_, ?_, f3, ?_, f5⟩
  · have : (setO os[k] j v).tag = os[k].tag := rfl
    rw [this]
    rw [Below.heap_setCell _ _ _ _ hqg]; exact f1
  · rw [setO_ptrs, List.length_set, List.map_set]; exact hset
  · have hn : (setO os[k] j v).nums = os[k].nums := by
      have hjn : j < os[k].np := by
        rw [Ob.ptrs, List.length_take] at hj; omega
      unfold setO Ob.nums
      simp only
      rw [List.drop_set_of_lt hjn]
    rw [hn]
    exact own_fr f4 hfr (fun y hy e => by have := f5 y hy; rw [e] at this; omega)
/-- The copier's like. -/
theorem Dc.ptr {B : Nat} {w : World} {c x y : Nat} {C1 C2 : Nat → Nat} {qs1 qs2 : List Nat} {os : List Ob} {m dp : Nat} {D : List Int} {Q : List (List Int)} {ov nv : Value} (h : Dc B w c x y C1 C2 qs1 qs2 os m dp D Q ov nv)
    {i q : Nat} {a : Int} {l : List Int} (hi : D[i]? = some a) (hl : Q[i]? = some l) (hq : qs2[i]? = some q) {g n pc : Nat} (hc2 : w.cell? ⟨q, 2, none⟩ = some (.slice (some ⟨g, 0, none⟩) n pc)) (j : Nat) (hj : j < l.length) (v : Int) :
    Dc B (w.setCell ⟨g, j, none⟩ (.int .i64 v)) c x y C1 C2 qs1 qs2 os m dp D (Q.set i (l.set j v)) ov nv ∧ C2 g ≠ 0 := by
  obtain ⟨h1, ha⟩ := List.getElem?_eq_some_iff.1 hi
  obtain ⟨h2, hb⟩ := List.getElem?_eq_some_iff.1 hl
  have hc : i < (cps os D Q).length := by rw [cps_len h.lk]; exact h1
  have hat := cps_at h.lk i h1 h2 hc
  have hpt : (cps os D Q)[i].ptrs = l := by rw [hat, newO_ptrs, hb]
  obtain ⟨z1, z2⟩ := h.dst.ptr hc hq hc2 j (by rw [hpt]; exact hj) v
  have hup := cps_upd h.lk hi hl j hj v
  rw [upd_eq hc] at hup
  rw [hup] at z1
  have hfr : Fr (fun k => k = g) w (w.setCell ⟨g, j, none⟩ (.int .i64 v)) := Fr.setCell (F := fun k => k = g) (p := ⟨g, j, none⟩) (Fr.refl _ _) rfl _
  have hg0 : C2 g ≠ 0 := by omega
  have hg1 : C1 g = 0 := by apply Decidable.byContradiction; intro e; exact hg0 (h.apart g e)
  have hll := h.lk.at i h1 h2
  refine ⟨⟨(hfr.block c h.clt (fun e => hg0 (by rw [← e]; exact h.cc.2.1))).trans h.blk, own_fr h.old hfr (fun k hk e => hg0 (by rw [← e]; exact (h.oc k hk).2.1)), own_fr h.new hfr (fun k hk e => hg0 (by rw [← e]; exact (h.nc k hk).2.1)), h.ap, h.oc, h.nc, h.cc, h.src.fr hfr (fun k e => by rw [e]; exact hg1), z1, h.apart, h.low, h.lk.set i _ h1 (by rw [List.length_set, ← hb]; exact hll), h.nd, h.vd⟩, hg0⟩
end Go.Proofs.Ytkekekdkfjjifaa
namespace Go.Proofs.Ytkekekdkfjjifaa
set_option linter.unusedVariables false
set_option linter.unusedSimpArgs false
def QR (os : List Ob) (D : List Int) (Q : List (List Int)) (i : Nat) : Prop := ∀ (j : Nat) (a : Int), i ≤ j → D[j]? = some a → Q[j]? = some (ptrsOf os a)
theorem QR.more {os : List Ob} {D : List Int} {Q : List (List Int)} {i : Nat} (h : QR os D Q i) (hl : Q.length = D.length) {s : Int} {R : List (List Int)} (hR : s ∈ D ∧ R = [] ∨ s ∉ D ∧ R = [ptrsOf os s]) : QR os (addD D s) (Q ++ R) i := by
  intro j a hj ha
  rcases hR with ⟨h1, rfl⟩ | ⟨h1, rfl⟩
  · have e : addD D s = D := by unfold addD; rw [if_pos h1]
    rw [e] at ha; rw [List.append_nil]; exact h j a hj ha
  · have e : addD D s = D ++ [s] := by unfold addD; rw [if_neg h1]
    rw [e] at ha
    by_cases hjd : j < D.length
    · rw [List.getElem?_append_left hjd] at ha
      rw [List.getElem?_append_left (by omega)]; exact h j a hj ha
    · rw [List.getElem?_append_right (by omega)] at ha
      rw [List.getElem?_append_right (by omega), hl]
      obtain ⟨h2, h3⟩ := List.getElem?_eq_some_iff.1 ha
      simp at h2
      have h4 : j - D.length = 0 := by omega
      simp [h4] at ha ⊢
      rw [ha]
theorem more_len {os : List Ob} {D : List Int} {Q : List (List Int)} (hl : Q.length = D.length) {s : Int} {R : List (List Int)} (hR : s ∈ D ∧ R = [] ∨ s ∉ D ∧ R = [ptrsOf os s]) : (Q ++ R).length = (addD D s).length := by
  rcases hR with ⟨h1, rfl⟩ | ⟨h1, rfl⟩
  · have e : addD D s = D := by unfold addD; rw [if_pos h1]
    rw [e, List.append_nil, hl]
  · have e : addD D s = D ++ [s] := by unfold addD; rw [if_neg h1]
    rw [e, List.length_append, List.length_append, hl]; rfl
structure InD (os : List Ob) (dp : Nat) (D0 : List Int) (a : Int) (i k : Nat) (D : List Int) (Q : List (List Int)) : Prop where
  d : D = vis os dp D0 ((ptrsOf os a).take k)
  ha : D[i]? = some a
  row : Q[i]? = some (((ptrsOf os a).take k).map (fun p => (pos os D (shortO os dp p) : Int)) ++ (ptrsOf os a).drop k)
  mem : ∀ p ∈ (ptrsOf os a).take k, shortO os dp p ∈ D
  qd : QD os dp D Q i
  qr : QR os D Q (i + 1)
  len : Q.length = D.length
theorem InD.start {os : List Ob} {dp : Nat} {D : List Int} {a : Int} {i : Nat} {Q : List (List Int)} (ha : D[i]? = some a) (h1 : QD os dp D Q i) (h2 : QR os D Q i) (hl : Q.length = D.length) : InD os dp D a i 0 D Q :=
  ⟨rfl, ha, by have := h2 i a (Nat.le_refl _) ha; simpa using this, by simp, h1, fun j x hj hx => h2 j x (by omega) hx, hl⟩
theorem InD.fin {os : List Ob} {dp : Nat} {D0 D : List Int} {a : Int} {i : Nat} {Q : List (List Int)} (h : InD os dp D0 a i (ptrsOf os a).length D Q) : D = vis os dp D0 (ptrsOf os a) ∧ QD os dp D Q (i + 1) ∧ QR os D Q (i + 1) := by
  have h1 := h.d
  have h2 := h.row
  have h3 := h.mem
  rw [List.take_length] at h1 h2 h3
  rw [List.drop_length, List.append_nil] at h2
  refine ⟨h1, fun j x hj hx => ?_, h.qr⟩
  by_cases e : j = i
  · subst e
    rw [h.ha] at hx; injection hx with hx; subst hx
    exact ⟨h2, h3⟩
  · exact h.qd j x (by omega) hx
theorem InD.step {os : List Ob} {dp : Nat} {D0 D : List Int} {a : Int} {i k : Nat} {Q R : List (List Int)} (h : InD os dp D0 a i k D Q) (hk : k < (ptrsOf os a).length) (hi : i < D.length)
    (hR : shortO os dp (ptrsOf os a)[k] ∈ D ∧ R = [] ∨ shortO os dp (ptrsOf os a)[k] ∉ D ∧ R = [ptrsOf os (shortO os dp (ptrsOf os a)[k])]) :
    InD os dp D0 a i (k + 1) (addD D (shortO os dp (ptrsOf os a)[k])) ((Q ++ R).set i ((((ptrsOf os a).take k).map (fun p => (pos os D (shortO os dp p) : Int)) ++ (ptrsOf os a).drop k).set k (pos os (addD D (shortO os dp (ptrsOf os a)[k])) (shortO os dp (ptrsOf os a)[k]) : Nat))) := by
  obtain ⟨E, hE⟩ := addD_ext D (shortO os dp (ptrsOf os a)[k])
  have htk : (ptrsOf os a).take (k + 1) = (ptrsOf os a).take k ++ [(ptrsOf os a)[k]] := List.take_succ_eq_append_getElem hk
  have hlen := more_len h.len hR
  have hlk : (((ptrsOf os a).take k).map (fun p => (pos os D (shortO os dp p) : Int))).length = k := by rw [List.length_map, List.length_take]; omega
  refine ⟨?_, ?_, ?_, ?_, ?_, ?_, by rw [List.length_set]; exact hlen⟩
  · rw [htk, vis_snoc, ← h.d]
  · rw [hE, List.getElem?_append_left hi]; exact h.ha
  · rw [List.getElem?_set, if_pos rfl, if_pos (by rw [List.length_append, h.len]; omega)]
    congr 1
    rw [List.set_append_right _ _ (by omega), hlk, Nat.sub_self, htk, List.map_append]
    rw [List.drop_eq_getElem_cons hk, List.append_assoc]
    congr 1
    apply List.map_congr_left
    intro p hp
    rw [hE, pos_app _ (h.mem p hp)]
  · intro p hp
    rw [htk] at hp
    rcases List.mem_append.1 hp with e | e
    · rw [hE]; exact List.mem_append_left _ (h.mem p e)
    · rw [List.mem_singleton.1 e]; exact addD_self _ _
  · intro j x hj hx
    have hq : QD os dp (addD D (shortO os dp (ptrsOf os a)[k])) (Q ++ R) i := by rw [hE]; exact h.qd.ext (by omega) h.len E R
    obtain ⟨z1, z2⟩ := hq j x hj hx
    exact ⟨by rw [List.getElem?_set, if_neg (by omega)]; exact z1, z2⟩
  · intro j x hj hx
    rw [List.getElem?_set, if_neg (by omega)]
    exact h.qr.more h.len hR j x hj hx
end Go.Proofs.Ytkekekdkfjjifaa
