/- When two data are the same: plain ones, one turned about, one part more. -/
import Derived.Test.YtlkpddokmibkiaaN2
import Derived.Test.YtlkpddokmibkiaaY0
import Derived.Test.YtlkpddokmibkiaaC3
namespace Go.Proofs.Ytlkpddokmibkiaa
open Go.RowKit
set_option linter.unusedVariables false
set_option linter.unusedSimpArgs false

mutual
theorem same_comm : ∀ (d e : Dt), Dt.same d e = Dt.same e d
  | .mk k t ms l p, .mk k' t' ms' l' p' => by
    rw [same_mk, same_mk, sames_comm l l', BEq.comm (a := k), BEq.comm (a := t.toList), BEq.comm (a := ms)]
theorem sames_comm : ∀ (l m : List Dt), Dt.sames l m = Dt.sames m l
  | [], [] => rfl
  | d :: l, e :: m => by simp only [Dt.sames]; rw [same_comm d e, sames_comm l m]
  | [], _ :: _ => by simp [Dt.sames]
  | _ :: _, [] => by simp [Dt.sames]
end
theorem mksAt_nil (k : Int) (q : Nat) : mksAt [] k q = [] := by
  unfold mksAt
  split
  · simp [mks]
  · rfl
mutual
theorem mark_plain_same (ns : List Int) : ∀ (d : Dt) (p q : Nat), Dt.same (d.mark ns p).plain (d.mark [] q) = true
  | .mk k t ms l _, p, q => by
    simp only [Dt.mark, Dt.plain, same_mk, mksAt_nil, marks_plain_sames ns l]
    simp
theorem marks_plain_sames (ns : List Int) : ∀ (l : List Dt) (p q : Nat), Dt.sames (Dt.plains (Dt.marksAll ns l p)) (Dt.marksAll [] l q) = true
  | [], _, _ => by simp [Dt.marksAll, Dt.plains, Dt.sames]
  | d :: l, p, q => by simp only [Dt.marksAll, Dt.plains, Dt.sames, mark_plain_same ns d, marks_plain_sames ns l, Bool.and_self]
end
theorem sames_snoc (a b : Dt) : ∀ (l : List Dt), Dt.sames (l ++ [a]) (l ++ [b]) = Dt.same a b
  | [] => by simp [Dt.sames]
  | d :: l => by simp only [List.cons_append, Dt.sames, same_refl, sames_snoc a b l, Bool.true_and]
theorem plains_snoc (a : Dt) : ∀ (l : List Dt), Dt.plains (l ++ [a]) = Dt.plains l ++ [a.plain]
  | [] => by simp [Dt.plains]
  | d :: l => by simp [Dt.plains, plains_snoc a l]
def moreT : ByteArray := ⟨#[109, 111, 114, 101]⟩
/-- A list; with one part more; with marks at that one. -/
def TC (L : List Dt) (n : Int) : Dt := .mk 4 ⟨#[]⟩ [] L n
def TD (L : List Dt) (n : Int) : Dt := .mk 4 ⟨#[]⟩ [] (L ++ [.mk 3 moreT [] [] 0]) n
def TE (L : List Dt) (n x : Int) : Dt := .mk 4 ⟨#[]⟩ [] (L ++ [.mk 3 moreT [x] [] 0]) n
theorem same_AC (L : List Dt) (m n : Int) : Dt.same (TC L m) (TC L n) = true := by
  simp [TC, same_mk, sames_refl]
theorem same_CD (L : List Dt) (n : Int) : Dt.same (TC L n) (TD L n) = false := by
  simp only [TC, TD, same_mk]
  rw [sames_len L (L ++ [Dt.mk 3 moreT [] [] 0]) (by simp)]
  simp
theorem same_DE (L : List Dt) (n x : Int) : Dt.same (TD L n) (TE L n x) = false := by
  simp only [TD, TE, same_mk, sames_snoc]
  simp
theorem plain_DE (L : List Dt) (n x : Int) : (TD L n).plain = (TE L n x).plain := by
  simp only [TD, TE, Dt.plain, plains_snoc]
theorem sizes_snoc (a : Dt) : ∀ (l : List Dt), Dt.sizes (l ++ [a]) = Dt.sizes l + a.size
  | [] => by simp [Dt.sizes]
  | d :: l => by simp only [List.cons_append, Dt.sizes, sizes_snoc a l]; omega
theorem size_TC (L : List Dt) (n : Int) : (TC L n).size = 1 + Dt.sizes L := by simp [TC, Dt.size]
theorem size_TD (L : List Dt) (n : Int) : (TD L n).size = 2 + Dt.sizes L := by simp [TD, Dt.size, sizes_snoc, Dt.sizes]; omega
theorem size_TE (L : List Dt) (n x : Int) : (TE L n x).size = 2 + Dt.sizes L := by simp [TE, Dt.size, sizes_snoc, Dt.sizes]; omega
/-- The marked list. -/
theorem mark_TC (ns : List Int) (l : List Dt) (p : Nat) : (Dt.mk 4 ⟨#[]⟩ [] l 0).mark ns p = TC (Dt.marksAll ns l (p + 1)) p := by
  simp [Dt.mark, TC, mksAt]
/-- The marks of the last of an own row are written over. -/
theorem OwnD.mark_last {B : Nat} {w : World} {ao : Option Addr} {n c : Nat} {ds : List Dt} {k : Int} {t : ByteArray} {p : Int} {l : List Dt} (h : OwnD B w (.slice ao n c) (ds ++ [.mk k t [] l p])) {m : Nat} {x : Int} (hm : w.heap[m]? = some (.cells #[.int .i64 x] 3 (0, 0))) :
    ∃ g, ao = some ⟨g, 0, none⟩ ∧ n = ds.length + 1 ∧ B ≤ g ∧ g ≠ m ∧ (∃ v, w.cell? ⟨g, ds.length * 5 + 2, none⟩ = some v) ∧ w.frozen? ⟨g, ds.length * 5 + 2, none⟩ = false ∧
      LAt (fun _ => True) (w.setCell ⟨g, ds.length * 5 + 2, none⟩ (.slice (some ⟨m, 0, none⟩) 1 1)) (.slice ao n c) (ds ++ [.mk k t [x] l p]) := by
  obtain ⟨xs, hown, hd⟩ := h
  have hln : (ds ++ [Dt.mk k t [] l p]).length = ds.length + 1 := by simp
  rcases hown.2 with ⟨_, hz⟩ | ⟨g, cap, cur, e, hbg, hg, hnc, hcm, hcs, htake⟩
  · rw [hln] at hz; omega
  · injection e with e1 e2 e3
    subst e1 e2 e3
    have hgm : g ≠ m := by
      rintro rfl
      rw [hg] at hm
      injection hm with hm
      injection hm with _ hm _
      exact absurd hm (by decide)
    rw [hln] at hnc
    have hsz : (ds.length + 1) * 5 ≤ cur.size := by rw [hcs]; omega
    have hcur : ∀ i, i < (ds.length + 1) * 5 → cur[i]? = xs[i]? := fun i hi => by
      rw [← htake, List.getElem?_take, if_pos (by rw [hln]; omega)]; simp
    have hlt : ds.length * 5 + 2 < cur.size := by omega
    refine ⟨g, rfl, hln, hbg, hgm, ⟨_, by rw [Lib.cell_of_heap hg]; exact Array.getElem?_eq_getElem hlt⟩, frozen_of_row w g _ cur 28 hg, ?_⟩
    have h2 := heap_setCell_same w g (ds.length * 5 + 2) cur 28 (.slice (some ⟨m, 0, none⟩) 1 1) hg
    have kp : Keeps (fun b => B ≤ b ∧ b ≠ g) w (w.setCell ⟨g, ds.length * 5 + 2, none⟩ (.slice (some ⟨m, 0, none⟩) 1 1)) := fun b c T fz hb hh _ => ⟨fz, by rw [heap_setCell_other _ _ _ _ hb.2]; exact hh⟩
    have hm2 : (w.setCell ⟨g, ds.length * 5 + 2, none⟩ (.slice (some ⟨m, 0, none⟩) 1 1)).heap[m]? = some (.cells #[.int .i64 x] 3 (0, 0)) := by rw [heap_setCell_other _ _ _ _ (fun e => hgm e.symm)]; exact hm
    refine .inr ⟨g, 0, c, _, (0, 0), by simp, trivial, h2, Dts.At.of_get _ _ _ fun j hj => ?_⟩
    have hd' := hd j (by simpa using hj)
    obtain ⟨cs, h5, h1, hat⟩ := hd'
    have hat' := Dt.At.keeps kp _ _ (Dt.At.mono (T := fun b => B ≤ b ∧ b ≠ g) (fun b hb => ⟨hb.1, fun e => hb.2 (by rw [e]; rfl)⟩) _ _ hat)
    have hj5 : 5 * j + 5 ≤ (ds.length + 1) * 5 := by simp at hj; omega
    by_cases hjl : j < ds.length
    · refine ⟨cs, fun i hi => ?_, ?_⟩
      · rw [Nat.zero_add, Array.getElem?_setIfInBounds_ne (by omega), hcur _ (by omega)]; exact h1 i hi
      · rw [List.getElem_append_left hjl] at hat' ⊢
        exact Dt.At.mono (fun _ _ => trivial) _ _ hat'
    · have hje : j = ds.length := by simp at hj; omega
      subst hje
      have eg : (ds ++ [Dt.mk k t [] l p])[ds.length]'(by simp) = .mk k t [] l p := by simp
      have eg2 : (ds ++ [Dt.mk k t [x] l p])[ds.length]'(by simp) = .mk k t [x] l p := by simp
      rw [eg] at hat'
      rw [eg2]
      rw [At_mk] at hat'
      obtain ⟨mv, lv, rfl, _, hl⟩ := hat'
      refine ⟨#[.int .i64 k, .string t, .slice (some ⟨m, 0, none⟩) 1 1, lv, .int .i64 p], fun i hi => ?_, ?_⟩
      · rw [Nat.zero_add]
        by_cases h2i : i = 2
        · subst h2i
          rw [show 5 * ds.length + 2 = ds.length * 5 + 2 by omega, Array.getElem?_setIfInBounds_self_of_lt hlt]; rfl
        · rw [Array.getElem?_setIfInBounds_ne (by omega), hcur _ (by omega), h1 i hi]
          have : i = 0 ∨ i = 1 ∨ i = 3 ∨ i = 4 := by omega
          rcases this with rfl | rfl | rfl | rfl <;> rfl
      · rw [At_mk]
        refine ⟨_, _, rfl, .inr ⟨m, 0, 1, #[.int .i64 x], (0, 0), rfl, trivial, hm2, fun j hj => ?_, by simp⟩, LAt.mono hl (fun _ _ => trivial)⟩
        have : j = 0 := by simpa using hj
        subst this; rfl
/-- Marks stand where a row of data grows. -/
theorem MAt.grown {S : Nat → Prop} {w w' : World} {mv : Value} {ms : List Int} {B : Nat} {v : Value} {ds : List Dt} (h : MAt S w mv ms) (ho : OwnD B w v ds) (hg : w.grownBy w' v.ownBlock) : MAt S w' mv ms := by
  rcases h with h | ⟨g, o, cap, arr, fz, h1, h2, h3, h4⟩
  · exact .inl h
  · refine .inr ⟨g, o, cap, arr, fz, h1, h2, ?_, h4⟩
    rw [hg.block g (Array.getElem?_eq_some_iff.1 h3).1 ?_]
    · exact h3
    · intro e
      obtain ⟨xs, hown, _⟩ := ho
      rcases hown.2 with ⟨rfl, _⟩ | ⟨g', cap', cur, rfl, hb, hgg, _⟩
      · cases e
      · have e' : g = g' := by simpa [Value.ownBlock] using e
        subst e'
        rw [hgg] at h3
        injection h3 with h3
        injection h3 with _ h3 _
        exact absurd h3 (by decide)
def MORE : Array Value := #[.int .i64 3, .string moreT, .slice none 0 0, .slice none 0 0, .int .i64 0]
theorem OwnD.lt {B : Nat} {w : World} {v : Value} {ds : List Dt} (h : OwnD B w v ds) {k : Nat} (hk : v.ownBlock = some k) : B ≤ k ∧ k < w.heap.size := by
  obtain ⟨xs, hown, _⟩ := h
  exact hown.lt k hk
/-- One part more, in a list that a datum holds: the datum's row comes behind the copy, the part's behind that. -/
theorem more_own {B : Nat} {w4 : World} {v : Value} {ds : List Dt} (h : OwnD B w4 v ds) (hB : B ≤ w4.heap.size) (rd : Array Value) :
    ∃ xs, ((w4.alloc (.cells rd 28)).alloc (.cells MORE 28)).ownsRow B 28 5 v ds.length xs ∧ B ≤ ((w4.alloc (.cells rd 28)).alloc (.cells MORE 28)).heap.size ∧ ∀ v' w9, w9.ownsRow B 28 5 v' (ds.length + 1) (xs ++ MORE.toList) →
      ((w4.alloc (.cells rd 28)).alloc (.cells MORE 28)).grownBy w9 v.ownBlock → (v'.ownBlock = v.ownBlock ∨ v'.ownBlock = some ((w4.alloc (.cells rd 28)).alloc (.cells MORE 28)).heap.size) →
      w9.heap[w4.heap.size]? = some (.cells rd 28 (0, 0)) ∧ (∀ S mv ms, MAt S w4 mv ms → MAt (fun x => S x ∧ x < w4.heap.size) (w9.setCell ⟨w4.heap.size, 3, none⟩ v') mv ms) ∧ Below B w4 (w9.setCell ⟨w4.heap.size, 3, none⟩ v') ∧
        OwnD B (w9.setCell ⟨w4.heap.size, 3, none⟩ v') v' (ds ++ [.mk 3 moreT [] [] 0]) := by
  have hb6 : Below w4.heap.size w4 ((w4.alloc (.cells rd 28)).alloc (.cells MORE 28)) := ((Below.refl _ _).alloc (Nat.le_refl _) _).alloc (by simp) _
  have hs6 : ((w4.alloc (.cells rd 28)).alloc (.cells MORE 28)).heap.size = w4.heap.size + 1 + 1 := by simp
  have r6 : ((w4.alloc (.cells rd 28)).alloc (.cells MORE 28)).heap[w4.heap.size]? = some (.cells rd 28 (0, 0)) := (Lib.alloc_old _ _ _ (by simp)).trans (alloc_at w4 _)
  generalize (w4.alloc (.cells rd 28)).alloc (.cells MORE 28) = w6 at hb6 hs6 r6 ⊢
  obtain ⟨xs, hown6, hd6⟩ := OwnD.below h hb6
  have hvl : ∀ k, v.ownBlock = some k → B ≤ k ∧ k < w4.heap.size := fun k hk => h.lt hk
  refine ⟨xs, hown6, by omega, fun v' w9 hown9 hg9 hv9 => ?_⟩
  have hne : v.ownBlock ≠ some w4.heap.size := fun e => by have := (hvl _ e).2; omega
  have hv' : ∀ k, v'.ownBlock = some k → k ≠ w4.heap.size ∧ (k < w4.heap.size → v.ownBlock = some k) := by
    intro k hk
    rcases hv9 with e | e
    · rw [e] at hk; exact ⟨fun e2 => by have := (hvl _ hk).2; omega, fun _ => hk⟩
    · rw [e] at hk; injection hk with hk; exact ⟨by omega, fun h => by omega⟩
  have keep : ∀ x c T fz, x < w4.heap.size → v.ownBlock ≠ some x → w4.heap[x]? = some (.cells c T fz) → (w9.setCell ⟨w4.heap.size, 3, none⟩ v').heap[x]? = some (.cells c T fz) := by
    intro x c T fz hx hxo hh
    rw [heap_setCell_other _ _ _ _ (by show x ≠ w4.heap.size; omega), hg9.block x (by omega) (fun e => hxo e.symm), hb6.block x hx]
    exact hh
  refine ⟨by rw [hg9.block _ (by omega) (fun e => hne e.symm)]; exact r6, fun S mv ms hm => ?_, ?_, ?_⟩
  · rcases hm with hm | ⟨g, o, cap, arr, fz, h1, h2, h3, h4⟩
    · exact .inl hm
    · have hgl := (Array.getElem?_eq_some_iff.1 h3).1
      refine .inr ⟨g, o, cap, arr, fz, h1, ⟨h2, hgl⟩, keep g arr 3 fz hgl ?_ h3, h4⟩
      intro e
      obtain ⟨ys, hy, _⟩ := h
      rcases hy.2 with ⟨rfl, _⟩ | ⟨g', cap', cur, rfl, hb, hgg, _⟩
      · cases e
      · have e' : g' = g := by simpa [Value.ownBlock] using e
        subst e'
        rw [hgg] at h3
        injection h3 with h3
        injection h3 with _ h3 _
        exact absurd h3 (by decide)
  · refine Below.setCell (p := ⟨w4.heap.size, 3, none⟩) ?_ hB _
    exact (hb6.mono hB).grown hg9 (by omega) (fun k hk => (hvl k hk).1)
  · have hlx : xs.length = ds.length * 5 := hown6.1
    have hx4 : ∀ j (hj : j < ds.length), ∃ cs : Array Value, cs.size = 5 ∧ (∀ i, i < 5 → xs[5 * j + i]? = cs[i]?) ∧ Dt.At (fun g => B ≤ g ∧ v'.ownBlock ≠ some g) (w9.setCell ⟨w4.heap.size, 3, none⟩ v') ds[j] cs := by
      obtain ⟨ys, hy, hdy⟩ := h
      have exy : xs = ys := by
        rcases hown6.2 with ⟨e, hz⟩ | ⟨g, cap, cur, e, _, hgg, _, _, _, ht⟩
        · have h1 := hown6.1; have h2 := hy.1; rw [hz] at h1 h2; simp at h1 h2; rw [h1, h2]
        · rcases hy.2 with ⟨e2, hz⟩ | ⟨g', cap', cur', e2, _, hgg', _, _, _, ht'⟩
          · rw [e2] at e; cases e
          · rw [e2] at e
            injection e with e1 _ _
            injection e1 with e1
            injection e1 with e1 _ _
            subst e1
            rw [hb6.block _ (Array.getElem?_eq_some_iff.1 hgg').1, hgg'] at hgg
            injection hgg with hgg
            injection hgg with hgg _ _
            rw [← ht, ← ht', hgg]
      intro j hj
      obtain ⟨cs, h5, h1, hat⟩ := hdy j hj
      refine ⟨cs, h5, by rw [exy]; exact h1, ?_⟩
      have hb := Dt.At.bound _ _ hat
      have hk := Dt.At.keeps (w' := w9.setCell ⟨w4.heap.size, 3, none⟩ v') (fun x c T fz hx hh _ => ⟨fz, keep x c T fz hx.2 hx.1.2 hh⟩) _ _ hb
      exact Dt.At.mono (fun x hx => ⟨hx.1.1, fun e => hx.1.2 ((hv' x e).2 hx.2)⟩) _ _ hk
    have hrow : (w9.setCell ⟨w4.heap.size, 3, none⟩ v').ownsRow B 28 5 v' (ds.length + 1) (xs ++ MORE.toList) := by
      refine ⟨hown9.1, ?_⟩
      rcases hown9.2 with hh | ⟨g, cap, cur, e, hbg, hgg, r⟩
      · exact .inl hh
      · exact .inr ⟨g, cap, cur, e, hbg, by rw [heap_setCell_other _ _ _ _ (by show g ≠ w4.heap.size; exact (hv' g (by rw [e]; rfl)).1)]; exact hgg, r⟩
    refine ⟨xs ++ MORE.toList, by simpa using hrow, fun j hj => ?_⟩
    by_cases hlt : j < ds.length
    · obtain ⟨c, c5, c1, c2⟩ := hx4 j hlt
      refine ⟨c, c5, fun i hi => by rw [List.getElem?_append_left (by omega)]; exact c1 i hi, ?_⟩
      rw [List.getElem_append_left hlt]; exact c2
    · have hj' : j = ds.length := by simp at hj; omega
      subst hj'
      refine ⟨MORE, rfl, fun i hi => by rw [List.getElem?_append_right (by omega), show 5 * ds.length + i - xs.length = i by omega]; simp, ?_⟩
      rw [List.getElem_append_right (by omega)]
      simp
      rw [At_mk]
      exact ⟨_, _, rfl, .inl ⟨rfl, rfl⟩, .inl ⟨rfl, rfl⟩⟩
/-- A datum in a row of its own, all behind block hi. -/
def Pk (hi : Nat) (W : World) (b : Nat) (cs : Array Value) (d : Dt) : Prop := W.heap[b]? = some (.cells cs 28 (0, 0)) ∧ Dt.At (fun x => hi < x) W d cs ∧ hi < b
theorem Pk.but {hi g : Nat} {W W' : World} {b : Nat} {cs : Array Value} {d : Dt} (h : Pk hi W b cs d) (hb : But W.heap.size g W W') (hg : g ≤ hi) : Pk hi W' b cs d :=
  ⟨by rw [hb.block b (Array.getElem?_eq_some_iff.1 h.1).1 (by have := h.2.2; omega)]; exact h.1, Dt.At.keeps (hb.keeps (fun x hx => by omega)) _ _ h.2.1, h.2.2⟩
theorem Pk.below {hi : Nat} {W W' : World} {b : Nat} {cs : Array Value} {d : Dt} (h : Pk hi W b cs d) (hb : Below W.heap.size W W') : Pk hi W' b cs d :=
  ⟨Below.row hb h.1, Dt.At.keeps (Keeps.of_below hb) _ _ h.2.1, h.2.2⟩
end Go.Proofs.Ytlkpddokmibkiaa
