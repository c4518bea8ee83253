/- Data within brackets: what they are. -/
import Derived.Test.YtlkpddokmibkiaaS1
import Derived.Test.YtlkpddokmibkiaaX1
namespace Go.Proofs.Ytlkpddokmibkiaa
open Go.RowKit
set_option linter.unusedVariables false
set_option linter.unusedSimpArgs false

mutual
theorem same_refl : ∀ (d : Dt), Dt.same d d = true
  | .mk k t ms l p => by rw [same_mk, sames_refl l]; simp
theorem sames_refl : ∀ (l : List Dt), Dt.sames l l = true
  | [] => by simp [Dt.sames]
  | d :: l => by simp [Dt.sames, same_refl d, sames_refl l]
end
mutual
theorem same_size : ∀ (d e : Dt), Dt.same d e = true → d.size = e.size
  | .mk k t ms l p, .mk k' t' ms' l' p', h => by
    rw [same_mk] at h
    simp only [Bool.and_eq_true] at h
    have := sames_size l l' h.2.2.2
    simp only [Dt.size]; omega
theorem sames_size : ∀ (l m : List Dt), Dt.sames l m = true → Dt.sizes l = Dt.sizes m
  | [], [], _ => rfl
  | d :: l, e :: m, h => by
    simp only [Dt.sames, Bool.and_eq_true] at h
    have h1 := same_size d e h.1
    have h2 := sames_size l m h.2
    simp only [Dt.sizes]; omega
  | [], _ :: _, h => by simp [Dt.sames] at h
  | _ :: _, [], h => by simp [Dt.sames] at h
end
mutual
theorem plain_make : ∀ (r : Rw), r.make.plain = r.make
  | .mk k n l => by
    rw [Rw.make]
    split
    · simp [Dt.plain, Dt.plains]
    · split
      · simp [Dt.plain, Dt.plains]
      · split
        · simp [Dt.plain, Dt.plains]
        · rw [Dt.plain, plains_makes l]
theorem plains_makes : ∀ (l : List Rw), Dt.plains (Rw.makes l) = Rw.makes l
  | [] => by simp [Rw.makes, Dt.plains]
  | r :: l => by simp [Rw.makes, Dt.plains, plain_make r, plains_makes l]
end
/-- A datum within so many brackets. -/
def wrapN : Nat → Dt → Dt
  | 0, d => d
  | i + 1, d => .mk 4 ⟨#[]⟩ [] [wrapN i d] 0
theorem wrapN_txt (d : Dt) : ∀ i, (wrapN i d).txt = List.replicate i 40 ++ (d.txt ++ List.replicate i 41)
  | 0 => by simp [wrapN]
  | i + 1 => by
    have := wrapN_txt d i
    rw [wrapN, Dt.txt, if_pos rfl]
    simp only [Dt.txts, Dt.txtr, this, List.replicate_succ, List.cons_append, List.append_nil, List.append_assoc]
    congr 1
    rw [← List.replicate_succ, List.replicate_succ', ]
theorem wrapN_size (d : Dt) : ∀ i, (wrapN i d).size = d.size + i
  | 0 => rfl
  | i + 1 => by
    have := wrapN_size d i
    simp only [wrapN, Dt.size, Dt.sizes, this]; omega
theorem wrapN_plain (d : Dt) (h : d.plain = d) : ∀ i, (wrapN i d).plain = wrapN i d
  | 0 => h
  | i + 1 => by simp [wrapN, Dt.plain, Dt.plains, wrapN_plain d h i]
theorem wrapN_same (d : Dt) (i : Nat) : Dt.same (wrapN i d) d = ((i : Int) == 0) := by
  cases i with
  | zero => rw [wrapN, same_refl]; rfl
  | succ i =>
    have h1 : (((i + 1 : Nat) : Int) == 0) = false := by rw [beq_eq_false_iff_ne]; omega
    rw [h1]
    cases hb : Dt.same (wrapN (i + 1) d) d with
    | false => rfl
    | true =>
      have := same_size _ _ hb
      rw [wrapN_size] at this; omega

/-- The law's loop. -/
def DpInv (d : Dt) (dcs : Array Value) (r : Nat) (w1 : World) (sv tv iv : Value) (wr : World) : Prop :=
  ∃ (i : Nat) (cs : Array Value), i ≤ r ∧ iv = .int .i64 i ∧ sv = .string ⟨(List.replicate i 40).toArray⟩ ∧ tv = .string ⟨(List.replicate i 41).toArray⟩ ∧ wr.heap[w1.heap.size]? = some (.cells dcs 28 (0, 0)) ∧
    wr.heap[w1.heap.size + 1]? = some (.cells cs 28 (0, 0)) ∧ Dt.At (fun g => g ≠ w1.heap.size + 1) wr (wrapN i d) cs ∧ Dt.At (fun g => g ≠ w1.heap.size + 1) wr d dcs ∧ Below w1.heap.size w1 wr
theorem deep_start (d : Dt) (dcs : Array Value) (r : Nat) (w1 : World) (S : Nat → Prop) (h : Dt.At S w1 d dcs) : DpInv d dcs r w1 (.string ⟨#[]⟩) (.string ⟨#[]⟩) (.int .i64 0) ((w1.alloc (.cells dcs 28)).alloc (.cells dcs 28)) := by
  have hb := ((Below.refl w1.heap.size w1).alloc (Nat.le_refl _) (.cells dcs 28)).alloc (by simp) (.cells dcs 28)
  have hat : Dt.At (fun g => g ≠ w1.heap.size + 1) ((w1.alloc (.cells dcs 28)).alloc (.cells dcs 28)) d dcs :=
    Dt.At.mono (fun g hg => by have := hg.2; omega) _ _ (Dt.At.keeps (Keeps.of_below hb) _ _ (Dt.At.bound _ _ h))
  exact ⟨0, dcs, Nat.zero_le _, rfl, rfl, rfl, (Lib.alloc_old _ _ _ (by simp)).trans (alloc_at w1 _), second_at w1 dcs dcs, hat, hat, hb⟩
theorem deep_more (d : Dt) (dcs cs : Array Value) (r i : Nat) (w1 wr : World) (hi : i < r) (h6 : wr.heap[w1.heap.size]? = some (.cells dcs 28 (0, 0))) (h9 : wr.heap[w1.heap.size + 1]? = some (.cells cs 28 (0, 0)))
    (hat : Dt.At (fun g => g ≠ w1.heap.size + 1) wr (wrapN i d) cs) (hd : Dt.At (fun g => g ≠ w1.heap.size + 1) wr d dcs) (hb : Below w1.heap.size w1 wr) (X Y : ByteArray) (hX : X = ⟨(List.replicate i 40).toArray⟩) (hY : Y = ⟨(List.replicate i 41).toArray⟩) :
    DpInv d dcs r w1 (.string (X ++ ⟨#[40]⟩)) (.string (Y ++ ⟨#[41]⟩)) (.int .i64 ((i : Int) + 1)) ((wr.alloc (.cells cs 28)).setRow (w1.heap.size + 1) #[.int .i64 4, .string ⟨#[]⟩, .slice none 0 0, .slice (some ⟨wr.heap.size, 0, none⟩) 1 1, .int .i64 0]) := by
  have h9l : w1.heap.size + 1 < wr.heap.size := (Array.getElem?_eq_some_iff.1 h9).1
  have ha : Below wr.heap.size wr (wr.alloc (.cells cs 28)) := (Below.refl _ _).alloc (Nat.le_refl _) _
  have key : ∀ (e : Dt) (c : Array Value), Dt.At (fun g => g ≠ w1.heap.size + 1) wr e c → Dt.At (fun g => g ≠ w1.heap.size + 1) ((wr.alloc (.cells cs 28)).setRow (w1.heap.size + 1) #[.int .i64 4, .string ⟨#[]⟩, .slice none 0 0, .slice (some ⟨wr.heap.size, 0, none⟩) 1 1, .int .i64 0]) e c := by
    intro e c h
    refine Dt.At.keeps ?_ _ _ (Dt.At.keeps (Keeps.of_below ha) _ _ h)
    intro g cc T fz hg hgx _
    exact ⟨fz, by rw [setRow_other _ _ g _ hg]; exact hgx⟩
  refine ⟨i + 1, _, by omega, by congr 1, ?_, ?_, ?_, setRow_heap _ _ cs _ 28 _ ((Lib.alloc_old _ _ _ h9l).trans h9), ?_, key _ _ hd, ?_⟩
  · rw [hX, str_app1, List.replicate_succ']
  · rw [hY, str_app1, List.replicate_succ']
  · rw [setRow_other _ _ _ _ (by omega)]; exact (Lib.alloc_old _ _ _ (by omega)).trans h6
  · rw [wrapN, At_mk]
    refine ⟨_, _, rfl, .inl ⟨rfl, rfl⟩, .inr ⟨wr.heap.size, 0, 1, cs, (0, 0), rfl, by omega, ?_, ?_⟩⟩
    · rw [setRow_other _ _ _ _ (by omega)]; exact alloc_at wr _
    · unfold Dts.At
      exact ⟨⟨cs, fun i hi => by simp, key _ _ hat⟩, by unfold Dts.At; trivial⟩
  · exact hb.trans (below_setRow (ha.mono (by omega)) _ _ (by omega))
end Go.Proofs.Ytlkpddokmibkiaa
