/- What raw data make; rows of data that a call owns. -/
import Derived.Test.YtlkpddokmibkiaaR3
import Derived.Test.YtlkpddokmibkiaaE1
import Derived.Laws.AppendOwn
namespace Go.Proofs.Ytlkpddokmibkiaa
open Go.RowKit
set_option linter.unusedVariables false

/-- The texts of numbers, of #t and #f, of symbols. -/
def tblI : List ByteArray := [⟨#[48]⟩, ⟨#[49]⟩, ⟨#[45, 55]⟩, ⟨#[52, 50]⟩, ⟨#[49, 50, 51, 52, 53, 54, 55, 56, 57, 48, 49, 50, 51, 52, 53, 54, 55, 56, 57, 48, 49, 50, 51, 52, 53, 54, 55, 56, 57, 48]⟩]
def tblB : List ByteArray := [⟨#[35, 116]⟩, ⟨#[35, 102]⟩]
def tblS : List ByteArray := [⟨#[97]⟩, ⟨#[98]⟩, ⟨#[120]⟩, ⟨#[102]⟩, ⟨#[43]⟩, ⟨#[99, 97, 114]⟩, ⟨#[46, 46, 46]⟩, ⟨#[95]⟩, ⟨#[108, 101, 116]⟩, ⟨#[113, 117, 111, 116, 101]⟩, ⟨#[97, 45, 62, 98]⟩]
mutual
/-- The datum that a raw one makes. -/
def Rw.make : Rw → Dt
  | .mk k n l =>
    if k % 7 = 0 then .mk 1 (tblI.getD (n % 5).toNat ⟨#[]⟩) [] [] 0
    else if k % 7 = 1 then .mk 2 (tblB.getD (n % 2).toNat ⟨#[]⟩) [] [] 0
    else if k % 7 = 2 ∨ k % 7 = 3 then .mk 3 (tblS.getD (n % 11).toNat ⟨#[]⟩) [] [] 0
    else .mk 4 ⟨#[]⟩ [] (Rw.makes l) 0
def Rw.makes : List Rw → List Dt
  | [] => []
  | r :: l => r.make :: Rw.makes l
end
theorem makes_length : ∀ (l : List Rw), (Rw.makes l).length = l.length
  | [] => by simp [Rw.makes]
  | r :: l => by simp [Rw.makes, makes_length l]
theorem makes_append : ∀ (l m : List Rw), Rw.makes (l ++ m) = Rw.makes l ++ Rw.makes m
  | [], m => by simp [Rw.makes]
  | r :: l, m => by simp [Rw.makes, makes_append l m]
theorem makes_take (l : List Rw) (j : Nat) (h : j < l.length) : Rw.makes (l.take (j + 1)) = Rw.makes (l.take j) ++ [l[j].make] := by
  rw [List.take_succ_eq_append_getElem h, makes_append]
  simp [Rw.makes]

/-- Blocks that a datum leads to are there. -/
theorem MAt.bound {S : Nat → Prop} {w : World} {mv : Value} {ms : List Int} (h : MAt S w mv ms) : MAt (fun g => S g ∧ g < w.heap.size) w mv ms := by
  rcases h with h | ⟨g, o, cap, arr, fz, h1, h2, h3, h4⟩
  · exact .inl h
  · exact .inr ⟨g, o, cap, arr, fz, h1, ⟨h2, (Array.getElem?_eq_some_iff.1 h3).1⟩, h3, h4⟩
mutual
theorem Dt.At.bound {S : Nat → Prop} {w : World} : ∀ (d : Dt) (cs : Array Value), Dt.At S w d cs → Dt.At (fun g => S g ∧ g < w.heap.size) w d cs
  | .mk _ _ ms l _, cs, h => by
    rw [At_mk] at h ⊢
    obtain ⟨mv, lv, e, hm, hl⟩ := h
    refine ⟨mv, lv, e, hm.bound, ?_⟩
    rcases hl with hl | ⟨g, o, cap, arr, fz, h1, h2, h3, h4⟩
    · exact .inl hl
    · exact .inr ⟨g, o, cap, arr, fz, h1, ⟨h2, (Array.getElem?_eq_some_iff.1 h3).1⟩, h3, Dts.At.bound l arr o h4⟩
theorem Dts.At.bound {S : Nat → Prop} {w : World} : ∀ (l : List Dt) (arr : Array Value) (o : Nat), Dts.At S w l arr o → Dts.At (fun g => S g ∧ g < w.heap.size) w l arr o
  | [], _, _, _ => by unfold Dts.At; trivial
  | d :: l, arr, o, h => by
    unfold Dts.At at h ⊢
    obtain ⟨⟨cs, hc, hd⟩, hr⟩ := h
    exact ⟨⟨cs, hc, Dt.At.bound d cs hd⟩, Dts.At.bound l arr (o + 5) hr⟩
end
theorem Dts.At.of_get {S : Nat → Prop} {w : World} : ∀ (l : List Dt) (arr : Array Value) (o : Nat), (∀ j (h : j < l.length), ∃ cs, (∀ i, i < 5 → arr[o + 5 * j + i]? = cs[i]?) ∧ Dt.At S w l[j] cs) → Dts.At S w l arr o
  | [], _, _, _ => by unfold Dts.At; trivial
  | d :: l, arr, o, H => by
    unfold Dts.At
    refine ⟨?_, Dts.At.of_get l arr (o + 5) fun j h => ?_⟩
    · have := H 0 (by simp)
      simpa using this
    · obtain ⟨cs, h1, h2⟩ := H (j + 1) (by simpa using h)
      exact ⟨cs, fun i hi => by rw [← h1 i hi]; congr 1; omega, by simpa using h2⟩

/-- A row of data that the call owns (from block B on): v leads to it; the data's own blocks are others. -/
def OwnD (B : Nat) (w : World) (v : Value) (ds : List Dt) : Prop :=
  ∃ xs, w.ownsRow B 28 5 v ds.length xs ∧ ∀ j (h : j < ds.length), ∃ cs : Array Value, cs.size = 5 ∧ (∀ i, i < 5 → xs[5 * j + i]? = cs[i]?) ∧ Dt.At (fun g => B ≤ g ∧ v.ownBlock ≠ some g) w ds[j] cs
theorem OwnD.nil (B : Nat) (w : World) : OwnD B w (.slice none 0 0) [] := ⟨[], World.ownsRow_nil _ _ _ _, fun j h => by simp at h⟩
/-- It reads as a slice of these. -/
theorem OwnD.at {B : Nat} {w : World} {v : Value} {ds : List Dt} (h : OwnD B w v ds) : LAt (fun g => B ≤ g) w v ds := by
  obtain ⟨xs, hown, hd⟩ := h
  rcases hown.2 with ⟨rfl, hz⟩ | ⟨g, cap, cur, rfl, hbg, hg, hnc, hcm, hcs, htake⟩
  · exact .inl ⟨rfl, List.length_eq_zero_iff.1 hz⟩
  · refine .inr ⟨g, 0, cap, cur, (0, 0), rfl, hbg, hg, Dts.At.of_get _ _ _ fun j hj => ?_⟩
    obtain ⟨cs, h5, h1, h2⟩ := hd j hj
    refine ⟨cs, fun i hi => ?_, Dt.At.mono (fun g h => h.1) _ _ h2⟩
    rw [← h1 i hi, ← htake, List.getElem?_take, if_pos (by omega)]
    simp
/-- What a world that grows by one row keeps. -/
theorem Keeps.of_grown {S : Nat → Prop} {w w' : World} {row : Option Nat} (h : w.grownBy w' row) (hS : ∀ g, S g → some g ≠ row) : Keeps S w w' := by
  intro g c T fz hs hg _
  exact ⟨fz, by rw [h.block g (Array.getElem?_eq_some_iff.1 hg).1 (hS g hs)]; exact hg⟩
/-- One datum more at the row's end. -/
theorem OwnD.snoc {B : Nat} {w w' : World} {v v' : Value} {ds : List Dt} {xs : List Value} {d : Dt} {cs : Array Value} (hx : ∀ j (h : j < ds.length), ∃ cs : Array Value, cs.size = 5 ∧ (∀ i, i < 5 → xs[5 * j + i]? = cs[i]?) ∧ Dt.At (fun g => B ≤ g ∧ v.ownBlock ≠ some g) w ds[j] cs)
    (hl : xs.length = ds.length * 5) (h5 : cs.size = 5) (hd : Dt.At (fun g => B ≤ g ∧ v.ownBlock ≠ some g) w d cs)
    (hown : w'.ownsRow B 28 5 v' (ds.length + 1) (xs ++ cs.toList)) (hg : w.grownBy w' v.ownBlock) (hv : v'.ownBlock = v.ownBlock ∨ v'.ownBlock = some w.heap.size) : OwnD B w' v' (ds ++ [d]) := by
  have key : ∀ (d : Dt) (cs : Array Value), Dt.At (fun g => B ≤ g ∧ v.ownBlock ≠ some g) w d cs → Dt.At (fun g => B ≤ g ∧ v'.ownBlock ≠ some g) w' d cs := by
    intro d cs h
    have h1 := Dt.At.bound d cs h
    have h2 := Dt.At.keeps (Keeps.of_grown hg (S := fun g => (B ≤ g ∧ v.ownBlock ≠ some g) ∧ g < w.heap.size) (fun g hs e => hs.1.2 e.symm)) d cs h1
    refine Dt.At.mono (fun g hs => ⟨hs.1.1, ?_⟩) d cs h2
    rcases hv with e | e
    · rw [e]; exact hs.1.2
    · rw [e]; intro e2; injection e2 with e2; omega
  refine ⟨xs ++ cs.toList, by simpa using hown, fun j hj => ?_⟩
  by_cases hlt : j < ds.length
  · obtain ⟨c, c5, c1, c2⟩ := hx j hlt
    refine ⟨c, c5, fun i hi => ?_, ?_⟩
    · rw [List.getElem?_append_left (by omega)]; exact c1 i hi
    · rw [List.getElem_append_left hlt]; exact key _ _ c2
  · have hj' : j = ds.length := by simp at hj; omega
    subst hj'
    refine ⟨cs, h5, fun i hi => ?_, ?_⟩
    · rw [List.getElem?_append_right (by omega), show 5 * ds.length + i - xs.length = i by omega]; simp
    · rw [List.getElem_append_right (by omega)]
      simp
      exact key _ _ hd
end Go.Proofs.Ytlkpddokmibkiaa
