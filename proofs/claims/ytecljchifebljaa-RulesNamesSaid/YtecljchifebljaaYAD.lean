/- Read as a machine: more steps change nothing; it ends. -/
import Derived.Test.YtecljchifebljaaYAC
import Derived.OwnWalk
import Derived.Test.YtecljchifebljaaYAA
set_option linter.unusedVariables false
set_option linter.unusedSimpArgs false
namespace Go.Proofs.Ytecljchifebljaa
open Go.RowKit Go.BigM
theorem bAt_len {l t : List UInt8} (h : bAt l t = true) : t.length ≤ l.length := by
 unfold bAt at h
 have h1 : Lib.hasPrefix l t = true := by
  cases hp : Lib.hasPrefix l t with
  | true => rfl
  | false => simp [hp] at h
 unfold Lib.hasPrefix at h1
 exact (List.isPrefixOf_iff_prefix.1 h1).length_le
theorem tokOf_le {l : List UInt8} {k : Int} {t : ByteArray} {m : Nat} (h : tokOf l = some (k, t, m)) : m ≤ l.length := by
 have hr := rowOf_le sset l
 unfold tokOf at h
 split at h
 ·cases hb : boolOf l with
  | none => rw [hb] at h; cases h
  | some b =>
   rw [hb] at h
   injection h with h; injection h with _ h; injection h with _ h
   unfold boolOf at hb
   split at hb
   ·rename_i h1; have := bAt_len h1; simp at this; omega
   ·split at hb
    ·rename_i h1; have := bAt_len h1; simp at this; omega
    ·cases hb
 ·split at h
  ·cases h
  ·split at h
   ·split at h
    ·injection h with h; injection h with _ h; injection h with _ h; omega
    ·cases h
   ·split at h
    ·cases h
    ·injection h with h; injection h with _ h; injection h with _ h; omega
/-- The outermost list is the text's own. -/
def Outer : En → List En → Prop
 | e, [] => e.q = false
 | _, f :: r => Outer f r
theorem Outer.add {e : En} {r : List En} (h : Outer e r) (d : Dt) : Outer (e.add d) r := by
 cases r with
 | nil => exact h
 | cons f r => exact h
def Pc.rank : Pc → Nat
 | .put _ => 3 | .next => 2 | _ => 1
def Pc.fits (s : List UInt8) (p : Nat) : Pc → Prop
 | .begin => p < s.length | .finish => p < s.length | .token => p < s.length | _ => p ≤ s.length
theorem rd_total (s : List UInt8) : ∀ (n : Nat) (pc : Pc) (p : Nat) (e : En) (r : List En), 8 * (2 * (s.length - p) + r.length) + pc.rank ≤ n → pc.fits s p → Outer e r → ∃ R, rd s n pc p e r = some R := by
 intro n
 induction n with
 | zero => intro pc p e r h; cases pc <;> simp [Pc.rank] at h
 | succ n ih =>
  intro pc p e r h hp ho
  cases pc with
  | next =>
   have hp : p ≤ s.length := hp
   have hg : gapOf false (s.drop p) ≤ s.length - p := by have := gapOf_le false (s.drop p); simpa using this
   simp only [Pc.rank] at h
   unfold rd
   split
   ·exact ih _ _ _ _ (by simp [Pc.rank]; omega) (by simp only [Pc.fits]; omega) ho
   ·rename_i b hb
    have hlt := (List.getElem?_eq_some_iff.1 hb).1
    split
    ·exact ih _ _ _ _ (by simp [Pc.rank]; omega) (by simp only [Pc.fits]; omega) ho
    ·split
     ·exact ih _ _ _ _ (by simp [Pc.rank]; omega) (by simp only [Pc.fits]; omega) ho
     ·exact ih _ _ _ _ (by simp [Pc.rank]; omega) (by simp only [Pc.fits]; omega) ho
  | begin =>
   have hp : p < s.length := hp
   simp only [Pc.rank] at h
   unfold rd
   rw [List.getElem?_eq_getElem hp]
   simp only
   split
   ·exact ⟨_, rfl⟩
   ·exact ih _ _ _ _ (by simp [Pc.rank]; omega) (by simp only [Pc.fits]; omega) ho
  | finish =>
   have hp : p < s.length := hp
   simp only [Pc.rank] at h
   unfold rd
   cases r with
   | nil => exact ⟨_, rfl⟩
   | cons f r =>
    simp only
    split
    ·exact ⟨_, rfl⟩
    ·exact ih _ _ _ _ (by simp [Pc.rank] at h ⊢; omega) (by simp only [Pc.fits]; omega) ho
  | token =>
   have hp : p < s.length := hp
   simp only [Pc.rank] at h
   unfold rd
   split
   ·exact ⟨_, rfl⟩
   ·rename_i k t m ht
    have h1 := tokOf_pos ht
    have h2 := tokOf_le ht
    simp only [List.length_drop] at h2
    exact ih _ _ _ _ (by simp [Pc.rank]; omega) (by simp only [Pc.fits]; omega) ho
  | put d =>
   have hp : p ≤ s.length := hp
   simp only [Pc.rank] at h
   unfold rd
   split
   ·rename_i hq
    cases r with
    | nil => exact absurd hq (by rw [show e.q = false from ho]; decide)
    | cons f r => exact ih _ _ _ _ (by simp [Pc.rank] at h ⊢; omega) hp ho
   ·exact ih _ _ _ _ (by simp [Pc.rank] at h ⊢; omega) hp (ho.add d)
  | stop => unfold rd; split <;> exact ⟨_, rfl⟩
end Go.Proofs.Ytecljchifebljaa
namespace Go.Proofs.Ytecljchifebljaa
open Go.RowKit Go.BigM
def wgt (e : En) (r : List En) : Nat := match r with | [] => 1 + Dt.sizes e.ds | f :: r' => 1 + Dt.sizes e.ds + wgt f r'
def Pc.wgt : Pc → Nat | .put d => d.size | _ => 0
theorem sizes_snoc : ∀ (l : List Dt) (d : Dt), Dt.sizes (l ++ [d]) = Dt.sizes l + d.size
 | [], d => by simp [Dt.sizes]
 | x :: l, d => by simp only [List.cons_append, Dt.sizes]; rw [sizes_snoc l d]; omega
theorem wgt_add (e : En) (r : List En) (d : Dt) : wgt (e.add d) r = wgt e r + d.size := by
 cases r <;> simp [wgt, En.add, sizes_snoc] <;> omega
theorem dt_size (e : En) : e.dt.size = 1 + Dt.sizes e.ds := by simp [En.dt, Dt.size]
theorem rd_size (s : List UInt8) : ∀ (n : Nat) (pc : Pc) (p : Nat) (e : En) (r : List En) (ds : List Dt), rd s n pc p e r = some (.ok ds) → pc.fits s p → wgt e r + pc.wgt ≤ 2 * p + 1 → Dt.sizes ds ≤ 2 * s.length := by
 intro n
 induction n with
 | zero => intro pc p e r ds h; cases h
 | succ n ih =>
  intro pc p e r ds h hf hw
  cases pc with
  | next =>
   have hg := gapOf_le false (s.drop p)
   rw [List.length_drop] at hg
   have hf' : p ≤ s.length := hf
   simp only [Pc.wgt] at hw
   unfold rd at h
   split at h
   ·exact ih _ _ _ _ _ h (by show _ ≤ _; omega) (by simp only [Pc.wgt]; omega)
   ·rename_i b hb
    have hlt : p + gapOf false (s.drop p) < s.length := (List.getElem?_eq_some_iff.1 hb).1
    split at h
    ·exact ih _ _ _ _ _ h hlt (by simp only [Pc.wgt]; omega)
    ·split at h
     ·exact ih _ _ _ _ _ h hlt (by simp only [Pc.wgt]; omega)
     ·exact ih _ _ _ _ _ h hlt (by simp only [Pc.wgt]; omega)
  | begin =>
   have hf' : p < s.length := hf
   simp only [Pc.wgt] at hw
   unfold rd at h
   split at h
   ·cases h
   ·rename_i b hb
    split at h
    ·cases h
    ·refine ih _ _ _ _ _ h (by show _ ≤ _; omega) ?_
     simp only [Pc.wgt, wgt]
     split <;> simp [Dt.sizes, Dt.size] <;> omega
  | finish =>
   have hf' : p < s.length := hf
   simp only [Pc.wgt] at hw
   unfold rd at h
   cases r with
   | nil => cases h
   | cons f r' =>
    simp only [] at h
    split at h
    ·cases h
    ·refine ih _ _ _ _ _ h (by show _ ≤ _; omega) ?_
     simp only [Pc.wgt, dt_size]
     simp only [wgt] at hw
     omega
  | token =>
   have hf' : p < s.length := hf
   simp only [Pc.wgt] at hw
   unfold rd at h
   split at h
   ·cases h
   ·rename_i k t m ht
    have m1 := tokOf_pos ht
    have m2 := tokOf_le ht
    rw [List.length_drop] at m2
    refine ih _ _ _ _ _ h (by show _ ≤ _; omega) ?_
    simp only [Pc.wgt, Dt.size, Dt.sizes]
    omega
  | put d =>
   have hf' : p ≤ s.length := hf
   simp only [Pc.wgt] at hw
   unfold rd at h
   split at h
   ·cases r with
    | nil => cases h
    | cons f r' =>
     simp only [] at h
     refine ih _ _ _ _ _ h (by show _ ≤ _; omega) ?_
     simp only [Pc.wgt, dt_size]
     have h2 := wgt_add e (f :: r') d
     simp only [wgt] at hw h2
     omega
   ·refine ih _ _ _ _ _ h (by show _ ≤ _; omega) ?_
    simp only [Pc.wgt]
    rw [wgt_add]; omega
  | stop =>
   have hf' : p ≤ s.length := hf
   simp only [Pc.wgt] at hw
   unfold rd at h
   split at h
   ·cases h
   ·rename_i hr
    injection h with h
    injection h with h
    subst h
    have : r = [] := by cases r with | nil => rfl | cons _ _ => simp at hr
    subst this
    simp only [wgt] at hw
    omega
end Go.Proofs.Ytecljchifebljaa
namespace Go
section
variable {P : Program} {a : Act} {w : World} {Q : Exit → Act → World → Prop}
theorem Exit.jumps_mono {J J' : Nat → Act → World → Prop} (h : ∀ l a w, J l a w → J' l a w) : ∀ e a w, Exit.jumps J Q e a w → Exit.jumps J' Q e a w
 | .goto l, a, w, hj => h l a w hj
 | .normal, _, _, hj => hj
 | .exit _, _, _, hj => hj
 | .ret, _, _, hj => hj
 | .panic _, _, _, hj => hj
 | .outgrown, _, _, hj => hj
theorem wp_scope_fuel2 {c : Code} (J : Nat → Nat → Act → World → Prop) (l1 : Nat)
  (pass1 : ∀ n a w, J n l1 a w → ∃ x', findLabel c l1 = some (Code.skip.seq x') ∧ x'.wp P (Exit.jumps (fun l' a' w' => ∃ n', n' < n ∧ J n' l' a' w') Q) a w)
  (pass : (∀ n m a w x', n ≤ m → J n l1 a w → findLabel c l1 = some (Code.skip.seq x') → x'.wp P (Exit.jumps (fun l' a' w' => ∃ n', n' < m ∧ J n' l' a' w') Q) a w) → ∀ n l a w, l ≠ l1 → J n l a w →
   ∃ x', findLabel c l = some (Code.skip.seq x') ∧ x'.wp P (Exit.jumps (fun l' a' w' => ∃ n', n' < n ∧ J n' l' a' w') Q) a w)
  (first : (∀ n l a w x', J n l a w → findLabel c l = some (Code.skip.seq x') → x'.wp P (Exit.jumps (fun l' a' w' => ∃ n', J n' l' a' w') Q) a w) → c.wp P (Exit.jumps (fun l' a' w' => ∃ n', J n' l' a' w') Q) a w) : (Code.scope c).wp P Q a w := by
 have all : ∀ n l a w, J n l a w → ∃ x', findLabel c l = some (Code.skip.seq x') ∧ x'.wp P (Exit.jumps (fun l' a' w' => ∃ n', n' < n ∧ J n' l' a' w') Q) a w := by
  intro n l a w hJ
  by_cases hl : l = l1
  ·subst hl; exact pass1 n a w hJ
  ·refine pass (fun n m a w x' hm hj hf => ?_) n l a w hl hJ
   obtain ⟨y, hy, hw⟩ := pass1 n a w hj
   rw [hf] at hy
   injection hy with hy
   injection hy with _ hy
   subst hy
   exact wp_mono hw (Exit.jumps_mono fun l a w ⟨k, hk, hj⟩ => ⟨k, by omega, hj⟩)
 refine wp_scope_fuel J (first fun n l a w x' hj hf => ?_) (fun n l a w hJ => ?_)
 ·obtain ⟨y, hy, hw⟩ := all n l a w hj
  rw [hf] at hy
  injection hy with hy
  injection hy with _ hy
  subst hy
  exact wp_mono hw (Exit.jumps_mono fun l a w ⟨k, _, hj⟩ => ⟨k, hj⟩)
 ·obtain ⟨y, hy, hw⟩ := all n l a w hJ
  exact ⟨_, hy, wp_seq (wp_skip hw)⟩
end
end Go
namespace Go.Proofs.Ytecljchifebljaa
open Go.RowKit
/-- What Read leaves. -/
def RetRead (w0 : World) (R : Rs) (e : Ending) (w : World) : Prop :=
 Below w0.heap.size w0 w ∧ match R with
 | .ok ds => ∃ v, e = .returned (.tuple #[v, .int .i64 0, .int .i64 0]) ∧ LAt (fun g => w0.heap.size ≤ g) w v ds
 | .err c p => e = .returned (.tuple #[.slice none 0 0, .int .i64 p, .int .i64 c])
end Go.Proofs.Ytecljchifebljaa
namespace Go.Proofs.Ytecljchifebljaa
open Go.RowKit
theorem byte_at (s : ByteArray) (i : Nat) (h : i < s.size) : s.data.toList[i]? = some s[i] := by
 rw [List.getElem?_eq_getElem (by rw [← Lib.size_eq]; exact h)]
 simp
 rfl
theorem setRow_box (w : World) (g : Nat) (C cs : Array Value) (h : w.heap[g]? = some (.cells C 29 (0, 0))) : (w.setRow g cs).heap[g]? = some (.cells cs 29 (0, 0)) := setRow_heap w g C cs 29 (0, 0) h
end Go.Proofs.Ytecljchifebljaa
namespace Go.Proofs.Ytecljchifebljaa
open Go.RowKit Go.BigM
/-- The reader's state lies at g: the text, the place, what is open, what is done. -/
def Rs3 (w : World) (g : Nat) (s : ByteArray) (p : Nat) (ov dv : Value) : Prop := w.heap[g]? = some (.cells #[.string s, .int .i64 (p : Int), ov, dv] 114 (0, 0))
theorem Rs3.lt {w : World} {g p : Nat} {s : ByteArray} {ov dv : Value} (h : Rs3 w g s p ov dv) : g < w.heap.size := (Array.getElem?_eq_some_iff.1 h).1
theorem Rs3.cells {w : World} {g p : Nat} {s : ByteArray} {ov dv : Value} (h : Rs3 w g s p ov dv) : w.cell? ⟨g, 0, none⟩ = some (.string s) ∧ w.cell? ⟨g, 1, none⟩ = some (.int .i64 (p : Int)) ∧ w.cell? ⟨g, 2, none⟩ = some ov ∧ w.cell? ⟨g, 3, none⟩ = some dv := by
 unfold Rs3 at h
 refine ⟨?_, ?_, ?_, ?_⟩ <;> (rw [Lib.cell_of_heap h]; rfl)
/-- Only the block g has turned; no block came. -/
structure Only (g : Nat) (w w' : World) : Prop where
 os : w'.os = w.os
 tape : w'.tape = w.tape
 output : w'.output = w.output
 size : w'.heap.size = w.heap.size
 block : ∀ k, k ≠ g → w'.heap[k]? = w.heap[k]?
theorem Only.refl (g : Nat) (w : World) : Only g w w := ⟨rfl, rfl, rfl, rfl, fun _ _ => rfl⟩
theorem Only.trans {g : Nat} {a b c : World} (h : Only g a b) (k : Only g b c) : Only g a c := ⟨k.os.trans h.os, k.tape.trans h.tape, k.output.trans h.output, k.size.trans h.size, fun x hx => (k.block x hx).trans (h.block x hx)⟩
theorem Only.set (g o : Nat) (v : Value) (w : World) : Only g w (w.setCell ⟨g, o, none⟩ v) := ⟨rfl, rfl, rfl, by simp [World.setCell], fun k hk => Below.heap_setCell w _ v k (fun e => hk e)⟩
/-- The place turns. -/
theorem Rs3.setP {w : World} {g p : Nat} {s : ByteArray} {ov dv : Value} (h : Rs3 w g s p ov dv) (q : Nat) : Rs3 (w.setCell ⟨g, 1, none⟩ (.int .i64 (q : Int))) g s q ov dv := by
 have := heap_setCell_same w g 1 _ 114 (.int .i64 (q : Int)) h
 unfold Rs3; rw [this]; rfl
theorem gap_blank {c : UInt8} (l : List UInt8) (h : c = 32 ∨ c = 9 ∨ c = 10) : gapOf false (c :: l) = 1 + gapOf false l := by
 rcases h with rfl | rfl | rfl <;> simp [gapOf]
theorem gap_semi (l : List UInt8) : gapOf true (59 :: l) = gapOf false (59 :: l) := by simp [gapOf]
theorem gap_in {c : UInt8} (l : List UInt8) (h : c ≠ 10) : gapOf true (c :: l) = 1 + gapOf true l := by
 have : (c != 10) = true := by simpa using h
 simp [gapOf, this]
theorem gap_out (l : List UInt8) : gapOf true (10 :: l) = gapOf false (10 :: l) := by simp [gapOf]
theorem gap_stop {c : UInt8} (l : List UInt8) (h : ¬ (c = 32 ∨ c = 9 ∨ c = 10)) (h2 : c ≠ 59) : gapOf false (c :: l) = 0 := by
 have h3 : (c == 59) = false := by simpa using h2
 have h4 : ([9, 10, 32] : List UInt8).contains c = false := by
  simp only [List.contains_cons, List.contains_nil, Bool.or_false, Bool.or_eq_false_iff, beq_eq_false_iff_ne, ne_eq]
  exact ⟨fun e => h (.inr (.inl e)), fun e => h (.inr (.inr e)), fun e => h (.inl e)⟩
 unfold gapOf
 rw [h3, h4]
 rfl
theorem u8_all {P : UInt8 → Prop} (h : ∀ n : Fin 256, P (UInt8.ofNat n.1)) (c : UInt8) : P c := by
 have h1 := h ⟨c.toNat, c.toNat_lt⟩
 have h2 : UInt8.ofNat c.toNat = c := by simp
 rw [h2] at h1
 exact h1
end Go.Proofs.Ytecljchifebljaa
namespace Go.Proofs.Ytecljchifebljaa
open Go.RowKit Go.BigM
/-- The place at which what does not count ends. -/
def gapAt (s : ByteArray) (b : Bool) (p : Nat) : Nat := p + gapOf b (s.data.toList.drop p)
theorem drop_at (s : ByteArray) (p : Nat) (h : p < s.size) : s.data.toList.drop p = s[p] :: s.data.toList.drop (p + 1) := by
 have hl : p < s.data.toList.length := by rw [← Lib.size_eq]; exact h
 rw [List.drop_eq_getElem_cons hl]
 rfl
theorem gapAt_end (s : ByteArray) (b : Bool) (p : Nat) (h : p = s.size) : gapAt s b p = p := by
 unfold gapAt
 rw [List.drop_eq_nil_of_le (by rw [← Lib.size_eq]; omega)]
 simp [gapOf]
theorem gapAt_blank (s : ByteArray) (p : Nat) (h : p < s.size) (hc : s[p] = 32 ∨ s[p] = 9 ∨ s[p] = 10) : gapAt s false p = gapAt s false (p + 1) := by
 unfold gapAt
 rw [drop_at s p h, gap_blank _ hc]; omega
theorem gapAt_semi (s : ByteArray) (p : Nat) (h : p < s.size) (hc : s[p] = 59) : gapAt s false p = gapAt s true p := by
 unfold gapAt
 rw [drop_at s p h, hc, gap_semi]
theorem gapAt_in (s : ByteArray) (p : Nat) (h : p < s.size) (hc : s[p] ≠ 10) : gapAt s true p = gapAt s true (p + 1) := by
 unfold gapAt
 rw [drop_at s p h, gap_in _ hc]; omega
theorem gapAt_out (s : ByteArray) (p : Nat) (h : p < s.size) (hc : s[p] = 10) : gapAt s true p = gapAt s false p := by
 unfold gapAt
 rw [drop_at s p h, hc, gap_out]
theorem gapAt_stop (s : ByteArray) (p : Nat) (h : p < s.size) (hc : ¬ (s[p] = 32 ∨ s[p] = 9 ∨ s[p] = 10)) (h2 : s[p] ≠ 59) : gapAt s false p = p := by
 unfold gapAt
 rw [drop_at s p h, gap_stop _ hc h2]; omega
def RetSkip (g : Nat) (s : ByteArray) (p : Nat) (ov dv : Value) (w : World) (e : Ending) (w' : World) : Prop := e = .returned (.tuple #[]) ∧ Rs3 w' g s (gapAt s false p) ov dv ∧ Only g w w' ∧ gapAt s false p ≤ s.size
def SkInv (g : Nat) (s : ByteArray) (p : Nat) (b : Bool) (ov dv : Value) (w wr : World) : Prop := ∃ q : Nat, q ≤ s.size ∧ gapAt s b q = gapAt s false p ∧ Rs3 wr g s q ov dv ∧ Only g w wr
theorem Only.drew (g : Nat) (w : World) : Only g w w.drew := ⟨rfl, rfl, rfl, rfl, fun _ _ => rfl⟩
def plc (g : Nat) (w : World) : Nat := match w.cell? ⟨g, 1, none⟩ with | some (.int _ p) => p.toNat | _ => 0
theorem Rs3.plc {w : World} {g p : Nat} {s : ByteArray} {ov dv : Value} (h : Rs3 w g s p ov dv) : plc g w = p := by
 unfold Go.Proofs.Ytecljchifebljaa.plc
 rw [h.cells.2.1]; simp
theorem Rs3.frozen {w : World} {g p : Nat} {s : ByteArray} {ov dv : Value} (h : Rs3 w g s p ov dv) (i : Nat) : w.frozen? ⟨g, i, none⟩ = false := frozen_of_row w g i _ 114 h
def SkIn (g : Nat) (s : ByteArray) (p q : Nat) (ov dv : Value) (w wr : World) : Prop := ∃ q2 : Nat, q ≤ q2 ∧ q2 ≤ s.size ∧ gapAt s true q2 = gapAt s false p ∧ Rs3 wr g s q2 ov dv ∧ Only g w wr
theorem wrap_succ (q : Nat) (h : q ≤ 9000) : IntKind.i64.wrap ((q : Int) + 1) = ((q + 1 : Nat) : Int) := by rw [IntKind.wrap_i64]; omega
theorem u8_is (c : UInt8) (v : Nat) (h : c.toNat = v) : c = UInt8.ofNat v := by rw [← h]; simp
set_option maxHeartbeats 16000000 in
set_option maxRecDepth 100000 in
theorem skip_any (g : Nat) (s : ByteArray) (p : Nat) (ov dv : Value) (w : World) (h : Rs3 w g s p ov dv) (hp : p ≤ s.size) (hs : s.size ≤ 9000) : Calls Try.prog 63 #[.pointer (some ⟨g, 0, none⟩)] w (RetSkip g s p ov dv w) := by
 have HST0 : Hid (SkInv g s p false ov dv w w) := ⟨p, hp, rfl, h, Only.refl _ _⟩
 clear h
 go_enter Try.func63, Try.ntmps63
 go_wp2_with fail
 go_loopw [] (fun wr => SkInv g s p false ov dv w wr) (fun wr => s.size - plc g wr)
 case atStart => exact HST0.out
 case round =>
  obtain ⟨q, hq, hgap, hR, hO⟩ := hrel
  have HPW := Lib.hid hR.plc
  have HR := Lib.hid hR
  have HO := Lib.hid hO
  have HG := Lib.hid hgap
  clear hR hO hgap HST0
  by_cases hlt : q < s.size
  ·have q1 : decide ((q : Int) < (s.size : Int)) = true := decide_eq_true (by omega)
   go_upto_region 0 with fail
   have HC : Hid (∀ w', Below wr.heap.size wr w' → w'.cell? ⟨g, 0, none⟩ = some (.string s) ∧ w'.cell? ⟨g, 1, none⟩ = some (.int .i64 (q : Int)) ∧ w'.cell? ⟨g, 2, none⟩ = some ov ∧ w'.cell? ⟨g, 3, none⟩ = some dv) := fun w' hw' => by
    have h9 : w'.heap[g]? = some (.cells #[.string s, .int .i64 (q : Int), ov, dv] 114 (0, 0)) := by rw [hw'.block g HR.out.lt]; exact HR.out
    exact Rs3.cells (p := q) h9
   have HS0 : Hid (Below wr.heap.size wr wr.drew) := (Below.refl _ _).drew
   replace HO : Hid (Only g w wr.drew) := HO.out.trans (Only.drew g wr)
   replace HR : Hid (Rs3 wr.drew g s q ov dv) := HR.out
   refine wp_region_noPanic ?_
   refine wp_region_held_drew (S := Below wr.heap.size wr) (by kernel_rfl) HS0.out (fun hHeld => ?_)
   generalize wr.drew = X0 at HS0 HO HR hHeld ⊢
   refine qts [0, 1, 2, 3, 4, 5, 6, 7, 8, 9] hHeld ?_
   iterate 2 (refine qtc (v := Value.pointer (some ⟨g, 0, none⟩)) rfl rfl (fun w' hw' => ?_) ?_; (focus (go_simp)); simp only [zt,zs,zz,Act.put,zi,zy,zx])
   (refine qtc (v := Value.pointer (some ⟨g, 1, none⟩)) rfl rfl (fun w' hw' => ?_) ?_; (focus (go_simp)); simp only [zt,zs,zz,Act.put,zi,zy,zx])
   (refine qtc (v := Value.int .i64 (q : Int)) rfl rfl (fun w' hw' => ?_) ?_; (focus (obtain ⟨d0, d1, d2, d3⟩ := HC.out w' hw'; go_simp)); simp only [zt,zs,zz,Act.put,zi,zy,zx])
   iterate 3 (refine qtc (v := Value.pointer (some ⟨g, 0, none⟩)) rfl rfl (fun w' hw' => ?_) ?_; (focus (go_simp)); simp only [zt,zs,zz,Act.put,zi,zy,zx])
   (refine qtc (v := Value.string s) rfl rfl (fun w' hw' => ?_) ?_; (focus (obtain ⟨d0, d1, d2, d3⟩ := HC.out w' hw'; go_simp)); simp only [zt,zs,zz,Act.put,zi,zy,zx])
   (refine qtc (v := Value.int .i64 (s.size : Int)) rfl rfl (fun w' hw' => ?_) ?_; (focus (go_simp)); simp only [zt,zs,zz,Act.put,zi,zy,zx])
   (refine qtc (v := Value.bool true) rfl rfl (fun w' hw' => ?_) ?_; (focus (go_simp)); simp only [zt,zs,zz,Act.put,zi,zy,zx])
   refine qtn ?_
   simp only [zt,zs,zz,Act.put,zi,zy,zx,qzl,qzn,qza,Nat.reduceAdd,Nat.reduceSub]
   refine wpAnyH_done (by kernel_rfl) ?_ _
   refine NoPanic.normal ?_
   clear hHeld
   clear HC HS0
   go_upto_region 1 with fail
   have HC : Hid (∀ w', Below X0.heap.size X0 w' → w'.cell? ⟨g, 0, none⟩ = some (.string s) ∧ w'.cell? ⟨g, 1, none⟩ = some (.int .i64 (q : Int)) ∧ w'.cell? ⟨g, 2, none⟩ = some ov ∧ w'.cell? ⟨g, 3, none⟩ = some dv) := fun w' hw' => by
    have h9 : w'.heap[g]? = some (.cells #[.string s, .int .i64 (q : Int), ov, dv] 114 (0, 0)) := by rw [hw'.block g HR.out.lt]; exact HR.out
    exact Rs3.cells (p := q) h9
   have HS0 : Hid (Below X0.heap.size X0 X0.drew) := (Below.refl _ _).drew
   replace HO : Hid (Only g w X0.drew) := HO.out.trans (Only.drew g X0)
   replace HR : Hid (Rs3 X0.drew g s q ov dv) := HR.out
   refine wp_region_noPanic ?_
   refine wp_region_held_drew (S := Below X0.heap.size X0) (by kernel_rfl) HS0.out (fun hHeld => ?_)
   generalize X0.drew = X1 at HS0 HO HR hHeld ⊢
   refine qts [0, 1, 2, 3, 4, 5, 6, 7, 8, 9] hHeld ?_
   iterate 3 (refine qtc (v := Value.pointer (some ⟨g, 0, none⟩)) rfl rfl (fun w' hw' => ?_) ?_; (focus (go_simp)); simp only [zt,zs,zz,Act.put,zi,zy,zx])
   (refine qtc (v := Value.string s) rfl rfl (fun w' hw' => ?_) ?_; (focus (obtain ⟨d0, d1, d2, d3⟩ := HC.out w' hw'; go_simp)); simp only [zt,zs,zz,Act.put,zi,zy,zx])
   iterate 2 (refine qtc (v := Value.pointer (some ⟨g, 0, none⟩)) rfl rfl (fun w' hw' => ?_) ?_; (focus (go_simp)); simp only [zt,zs,zz,Act.put,zi,zy,zx])
   (refine qtc (v := Value.pointer (some ⟨g, 1, none⟩)) rfl rfl (fun w' hw' => ?_) ?_; (focus (go_simp)); simp only [zt,zs,zz,Act.put,zi,zy,zx])
   (refine qtc (v := Value.int .i64 (q : Int)) rfl rfl (fun w' hw' => ?_) ?_; (focus (obtain ⟨d0, d1, d2, d3⟩ := HC.out w' hw'; go_simp)); simp only [zt,zs,zz,Act.put,zi,zy,zx])
   iterate 2 (refine qtc (v := Value.int .u8 ((s[q]'hlt).toNat : Int)) rfl rfl (fun w' hw' => ?_) ?_; (focus (go_simp)); simp only [zt,zs,zz,Act.put,zi,zy,zx])
   refine qtn ?_
   simp only [zt,zs,zz,Act.put,zi,zy,zx,qzl,qzn,qza,Nat.reduceAdd,Nat.reduceSub]
   refine wpAnyH_done (by kernel_rfl) ?_ _
   refine NoPanic.normal ?_
   clear hHeld
   clear HC HS0
   obtain ⟨c, hc⟩ : ∃ c, c = s[q]'hlt := ⟨_, rfl⟩
   simp only [← hc]
   by_cases h32 : c.toNat = 32
   ·skip
    have E32 : ((c.toNat : Int) == 32) = true := by simpa using (show (c.toNat : Int) = 32 by omega)
    have HST : Hid (gapAt s false q = gapAt s false (q + 1)) := gapAt_blank s q hlt (by rw [← hc]; exact .inl (u8_is c 32 h32))
    have HCC := Lib.hid hc
    clear hc h32
    have d1 := HR.out.cells.2.1
    have fz := HR.out.frozen 1
    have HR1 := Lib.hid (HR.out.setP (q + 1))
    have HO1 := Lib.hid (HO.out.trans (Only.set g 1 (.int .i64 ((q + 1 : Nat) : Int)) X1))
    have e9 := wrap_succ q (by omega)
    have hpl := HR1.out.plc
    have HPL := Lib.hid hpl
    clear hpl HR HO
    go_wp2_with fail
    go_roundw
    case rel => exact ⟨q + 1, by omega, by rw [← HST.out]; exact HG.out, HR1.out, HO1.out⟩
    case measure =>
     have h1 := HPL.out
     push_cast at h1
     have h2 := HPW.out
     omega
   ·by_cases h9 : c.toNat = 9
    ·skip
     have E32 : ((c.toNat : Int) == 32) = false := by simpa using (show ¬ (c.toNat : Int) = 32 by omega)
     have E9 : ((c.toNat : Int) == 9) = true := by simpa using (show (c.toNat : Int) = 9 by omega)
     have HST : Hid (gapAt s false q = gapAt s false (q + 1)) := gapAt_blank s q hlt (by rw [← hc]; exact .inr (.inl (u8_is c 9 h9)))
     have HCC := Lib.hid hc
     clear hc h32 h9
     have d1 := HR.out.cells.2.1
     have fz := HR.out.frozen 1
     have HR1 := Lib.hid (HR.out.setP (q + 1))
     have HO1 := Lib.hid (HO.out.trans (Only.set g 1 (.int .i64 ((q + 1 : Nat) : Int)) X1))
     have e9 := wrap_succ q (by omega)
     have hpl := HR1.out.plc
     have HPL := Lib.hid hpl
     clear hpl HR HO
     go_wp2_with fail
     go_roundw
     case rel => exact ⟨q + 1, by omega, by rw [← HST.out]; exact HG.out, HR1.out, HO1.out⟩
     case measure =>
      have h1 := HPL.out
      push_cast at h1
      have h2 := HPW.out
      omega
    ·by_cases h10 : c.toNat = 10
     ·skip
      have E32 : ((c.toNat : Int) == 32) = false := by simpa using (show ¬ (c.toNat : Int) = 32 by omega)
      have E9 : ((c.toNat : Int) == 9) = false := by simpa using (show ¬ (c.toNat : Int) = 9 by omega)
      have E10 : ((c.toNat : Int) == 10) = true := by simpa using (show (c.toNat : Int) = 10 by omega)
      have HST : Hid (gapAt s false q = gapAt s false (q + 1)) := gapAt_blank s q hlt (by rw [← hc]; exact .inr (.inr (u8_is c 10 h10)))
      have HCC := Lib.hid hc
      clear hc h32 h9 h10
      have d1 := HR.out.cells.2.1
      have fz := HR.out.frozen 1
      have HR1 := Lib.hid (HR.out.setP (q + 1))
      have HO1 := Lib.hid (HO.out.trans (Only.set g 1 (.int .i64 ((q + 1 : Nat) : Int)) X1))
      have e9 := wrap_succ q (by omega)
      have hpl := HR1.out.plc
      have HPL := Lib.hid hpl
      clear hpl HR HO
      go_wp2_with fail
      go_roundw
      case rel => exact ⟨q + 1, by omega, by rw [← HST.out]; exact HG.out, HR1.out, HO1.out⟩
      case measure =>
       have h1 := HPL.out
       push_cast at h1
       have h2 := HPW.out
       omega
     ·by_cases h59 : c.toNat = 59
      ·skip
       have E32 : ((c.toNat : Int) == 32) = false := by simpa using (show ¬ (c.toNat : Int) = 32 by omega)
       have E9 : ((c.toNat : Int) == 9) = false := by simpa using (show ¬ (c.toNat : Int) = 9 by omega)
       have E10 : ((c.toNat : Int) == 10) = false := by simpa using (show ¬ (c.toNat : Int) = 10 by omega)
       have E59 : ((c.toNat : Int) == 59) = true := by simpa using (show (c.toNat : Int) = 59 by omega)
       have HSE : Hid (gapAt s false q = gapAt s true q) := gapAt_semi s q hlt (by rw [← hc]; exact u8_is c 59 h59)
       have HNE : Hid ((s[q]'hlt).toNat ≠ 10) := by show _ ≠ _; rw [← hc]; exact h10
       have HCC := Lib.hid hc
       clear hc h32 h9 h10 h59
       obtain ⟨wo, rfl⟩ : ∃ wo, wo = wr := ⟨_, rfl⟩
       go_wp2_with fail
       go_loopw [] (fun wz => SkIn g s p q ov dv w wz) (fun wz => s.size - plc g wz)
       case atStart => exact ⟨q, Nat.le_refl _, hq, by rw [← HSE.out]; exact HG.out, HR.out, HO.out⟩
       case round =>
        obtain ⟨q2, hqq, hq2, hgap2, hR2, hO2⟩ := hrel
        have HPW2 := Lib.hid hR2.plc
        have HG2 := Lib.hid hgap2
        clear HR HO
        have HR := Lib.hid hR2
        have HO := Lib.hid hO2
        clear hR2 hO2 hgap2
        by_cases hlt2 : q2 < s.size
        ·have q3 : decide ((q2 : Int) < (s.size : Int)) = true := decide_eq_true (by omega)
         by_cases h10b : (s[q2]'hlt2).toNat = 10
         ·have E10 : (((s[q2]'hlt2).toNat : Int) == 10) = true := by simpa using (show ((s[q2]'hlt2).toNat : Int) = 10 by omega)
          have E10b : (((s[q2]'hlt2).toNat : Int) != 10) = false := by simp [bne, E10]
          have hne : q ≠ q2 := by
           intro e
           subst e
           exact HNE.out (by omega)
          have HGG : Hid (gapAt s true q2 = gapAt s false q2) := gapAt_out s q2 hlt2 (u8_is _ 10 h10b)
          have HH := Lib.hid h10b
          clear h10b
          go_upto_region 5 with fail
          have HC : Hid (∀ w', Below wr.heap.size wr w' → w'.cell? ⟨g, 0, none⟩ = some (.string s) ∧ w'.cell? ⟨g, 1, none⟩ = some (.int .i64 (q2 : Int)) ∧ w'.cell? ⟨g, 2, none⟩ = some ov ∧ w'.cell? ⟨g, 3, none⟩ = some dv) := fun w' hw' => by
           have h9 : w'.heap[g]? = some (.cells #[.string s, .int .i64 (q2 : Int), ov, dv] 114 (0, 0)) := by rw [hw'.block g HR.out.lt]; exact HR.out
           exact Rs3.cells (p := q2) h9
          have HS0 : Hid (Below wr.heap.size wr wr.drew) := (Below.refl _ _).drew
          replace HO : Hid (Only g w wr.drew) := HO.out.trans (Only.drew g wr)
          replace HR : Hid (Rs3 wr.drew g s q2 ov dv) := HR.out
          refine wp_region_noPanic ?_
          refine wp_region_held_drew (S := Below wr.heap.size wr) (by kernel_rfl) HS0.out (fun hHeld => ?_)
          generalize wr.drew = X2 at HS0 HO HR hHeld ⊢
          refine qts [0, 1, 2, 3, 4, 5, 6, 7, 8, 9, 10, 11, 12, 13, 14, 15, 16, 17, 18, 19, 20, 21] hHeld ?_
          iterate 2 (refine qtc (v := Value.pointer (some ⟨g, 0, none⟩)) rfl rfl (fun w' hw' => ?_) ?_; (focus (go_simp)); simp only [zt,zs,zz,Act.put,zi,zy,zx])
          (refine qtc (v := Value.pointer (some ⟨g, 1, none⟩)) rfl rfl (fun w' hw' => ?_) ?_; (focus (go_simp)); simp only [zt,zs,zz,Act.put,zi,zy,zx])
          (refine qtc (v := Value.int .i64 (q2 : Int)) rfl rfl (fun w' hw' => ?_) ?_; (focus (obtain ⟨d0, d1, d2, d3⟩ := HC.out w' hw'; go_simp)); simp only [zt,zs,zz,Act.put,zi,zy,zx])
          iterate 3 (refine qtc (v := Value.pointer (some ⟨g, 0, none⟩)) rfl rfl (fun w' hw' => ?_) ?_; (focus (go_simp)); simp only [zt,zs,zz,Act.put,zi,zy,zx])
          (refine qtc (v := Value.string s) rfl rfl (fun w' hw' => ?_) ?_; (focus (obtain ⟨d0, d1, d2, d3⟩ := HC.out w' hw'; go_simp)); simp only [zt,zs,zz,Act.put,zi,zy,zx])
          (refine qtc (v := Value.int .i64 (s.size : Int)) rfl rfl (fun w' hw' => ?_) ?_; (focus (go_simp)); simp only [zt,zs,zz,Act.put,zi,zy,zx])
          iterate 2 (refine qtc (v := Value.bool true) rfl rfl (fun w' hw' => ?_) ?_; (focus (go_simp)); simp only [zt,zs,zz,Act.put,zi,zy,zx])
          iterate 3 (refine qtc (v := Value.pointer (some ⟨g, 0, none⟩)) rfl rfl (fun w' hw' => ?_) ?_; (focus (go_simp)); simp only [zt,zs,zz,Act.put,zi,zy,zx])
          (refine qtc (v := Value.string s) rfl rfl (fun w' hw' => ?_) ?_; (focus (obtain ⟨d0, d1, d2, d3⟩ := HC.out w' hw'; go_simp)); simp only [zt,zs,zz,Act.put,zi,zy,zx])
          iterate 2 (refine qtc (v := Value.pointer (some ⟨g, 0, none⟩)) rfl rfl (fun w' hw' => ?_) ?_; (focus (go_simp)); simp only [zt,zs,zz,Act.put,zi,zy,zx])
          (refine qtc (v := Value.pointer (some ⟨g, 1, none⟩)) rfl rfl (fun w' hw' => ?_) ?_; (focus (go_simp)); simp only [zt,zs,zz,Act.put,zi,zy,zx])
          (refine qtc (v := Value.int .i64 (q2 : Int)) rfl rfl (fun w' hw' => ?_) ?_; (focus (obtain ⟨d0, d1, d2, d3⟩ := HC.out w' hw'; go_simp)); simp only [zt,zs,zz,Act.put,zi,zy,zx])
          (refine qtc (v := Value.int .u8 ((s[q2]'hlt2).toNat : Int)) rfl rfl (fun w' hw' => ?_) ?_; (focus (go_simp)); simp only [zt,zs,zz,Act.put,zi,zy,zx])
          iterate 2 (refine qtc (v := Value.bool false) rfl rfl (fun w' hw' => ?_) ?_; (focus (go_simp)); simp only [zt,zs,zz,Act.put,zi,zy,zx])
          refine qtn ?_
          simp only [zt,zs,zz,Act.put,zi,zy,zx,qzl,qzn,qza,Nat.reduceAdd,Nat.reduceSub]
          refine wpAnyH_done (by kernel_rfl) ?_ _
          refine NoPanic.normal ?_
          clear hHeld
          clear HC HS0
          go_wp2_with fail
          go_roundw
          case rel => exact ⟨q2, hq2, by rw [← HGG.out]; exact HG2.out, HR.out, HO.out⟩
          case measure =>
           have h1 := HR.out.plc
           have h2 := HPW.out
           omega
         ·have E10 : (((s[q2]'hlt2).toNat : Int) == 10) = false := by simpa using (show ¬ ((s[q2]'hlt2).toNat : Int) = 10 by omega)
          have E10b : (((s[q2]'hlt2).toNat : Int) != 10) = true := by simp [bne, E10]
          have HGG : Hid (gapAt s true q2 = gapAt s true (q2 + 1)) := gapAt_in s q2 hlt2 (fun e => h10b (by rw [e]; rfl))
          have HH := Lib.hid h10b
          clear h10b
          go_upto_region 5 with fail
          have HC : Hid (∀ w', Below wr.heap.size wr w' → w'.cell? ⟨g, 0, none⟩ = some (.string s) ∧ w'.cell? ⟨g, 1, none⟩ = some (.int .i64 (q2 : Int)) ∧ w'.cell? ⟨g, 2, none⟩ = some ov ∧ w'.cell? ⟨g, 3, none⟩ = some dv) := fun w' hw' => by
           have h9 : w'.heap[g]? = some (.cells #[.string s, .int .i64 (q2 : Int), ov, dv] 114 (0, 0)) := by rw [hw'.block g HR.out.lt]; exact HR.out
           exact Rs3.cells (p := q2) h9
          have HS0 : Hid (Below wr.heap.size wr wr.drew) := (Below.refl _ _).drew
          replace HO : Hid (Only g w wr.drew) := HO.out.trans (Only.drew g wr)
          replace HR : Hid (Rs3 wr.drew g s q2 ov dv) := HR.out
          refine wp_region_noPanic ?_
          refine wp_region_held_drew (S := Below wr.heap.size wr) (by kernel_rfl) HS0.out (fun hHeld => ?_)
          generalize wr.drew = X2 at HS0 HO HR hHeld ⊢
          refine qts [0, 1, 2, 3, 4, 5, 6, 7, 8, 9, 10, 11, 12, 13, 14, 15, 16, 17, 18, 19, 20, 21] hHeld ?_
          iterate 2 (refine qtc (v := Value.pointer (some ⟨g, 0, none⟩)) rfl rfl (fun w' hw' => ?_) ?_; (focus (go_simp)); simp only [zt,zs,zz,Act.put,zi,zy,zx])
          (refine qtc (v := Value.pointer (some ⟨g, 1, none⟩)) rfl rfl (fun w' hw' => ?_) ?_; (focus (go_simp)); simp only [zt,zs,zz,Act.put,zi,zy,zx])
          (refine qtc (v := Value.int .i64 (q2 : Int)) rfl rfl (fun w' hw' => ?_) ?_; (focus (obtain ⟨d0, d1, d2, d3⟩ := HC.out w' hw'; go_simp)); simp only [zt,zs,zz,Act.put,zi,zy,zx])
          iterate 3 (refine qtc (v := Value.pointer (some ⟨g, 0, none⟩)) rfl rfl (fun w' hw' => ?_) ?_; (focus (go_simp)); simp only [zt,zs,zz,Act.put,zi,zy,zx])
          (refine qtc (v := Value.string s) rfl rfl (fun w' hw' => ?_) ?_; (focus (obtain ⟨d0, d1, d2, d3⟩ := HC.out w' hw'; go_simp)); simp only [zt,zs,zz,Act.put,zi,zy,zx])
          (refine qtc (v := Value.int .i64 (s.size : Int)) rfl rfl (fun w' hw' => ?_) ?_; (focus (go_simp)); simp only [zt,zs,zz,Act.put,zi,zy,zx])
          iterate 2 (refine qtc (v := Value.bool true) rfl rfl (fun w' hw' => ?_) ?_; (focus (go_simp)); simp only [zt,zs,zz,Act.put,zi,zy,zx])
          iterate 3 (refine qtc (v := Value.pointer (some ⟨g, 0, none⟩)) rfl rfl (fun w' hw' => ?_) ?_; (focus (go_simp)); simp only [zt,zs,zz,Act.put,zi,zy,zx])
          (refine qtc (v := Value.string s) rfl rfl (fun w' hw' => ?_) ?_; (focus (obtain ⟨d0, d1, d2, d3⟩ := HC.out w' hw'; go_simp)); simp only [zt,zs,zz,Act.put,zi,zy,zx])
          iterate 2 (refine qtc (v := Value.pointer (some ⟨g, 0, none⟩)) rfl rfl (fun w' hw' => ?_) ?_; (focus (go_simp)); simp only [zt,zs,zz,Act.put,zi,zy,zx])
          (refine qtc (v := Value.pointer (some ⟨g, 1, none⟩)) rfl rfl (fun w' hw' => ?_) ?_; (focus (go_simp)); simp only [zt,zs,zz,Act.put,zi,zy,zx])
          (refine qtc (v := Value.int .i64 (q2 : Int)) rfl rfl (fun w' hw' => ?_) ?_; (focus (obtain ⟨d0, d1, d2, d3⟩ := HC.out w' hw'; go_simp)); simp only [zt,zs,zz,Act.put,zi,zy,zx])
          (refine qtc (v := Value.int .u8 ((s[q2]'hlt2).toNat : Int)) rfl rfl (fun w' hw' => ?_) ?_; (focus (go_simp)); simp only [zt,zs,zz,Act.put,zi,zy,zx])
          iterate 2 (refine qtc (v := Value.bool true) rfl rfl (fun w' hw' => ?_) ?_; (focus (go_simp)); simp only [zt,zs,zz,Act.put,zi,zy,zx])
          refine qtn ?_
          simp only [zt,zs,zz,Act.put,zi,zy,zx,qzl,qzn,qza,Nat.reduceAdd,Nat.reduceSub]
          refine wpAnyH_done (by kernel_rfl) ?_ _
          refine NoPanic.normal ?_
          clear hHeld
          clear HC HS0
          have d1 := HR.out.cells.2.1
          have fz := HR.out.frozen 1
          have HR1 := Lib.hid (HR.out.setP (q2 + 1))
          have HO1 := Lib.hid (HO.out.trans (Only.set g 1 (.int .i64 ((q2 + 1 : Nat) : Int)) X2))
          have e9 := wrap_succ q2 (by omega)
          have hpl := HR1.out.plc
          have HPL := Lib.hid hpl
          clear hpl HR HO
          go_wp2_with fail
          go_roundw
          case rel => exact ⟨q2 + 1, by omega, by omega, by rw [← HGG.out]; exact HG2.out, HR1.out, HO1.out⟩
          case measure =>
           have h1 := HPL.out
           push_cast at h1
           have h2 := HPW2.out
           omega
        ·have q3 : decide ((q2 : Int) < (s.size : Int)) = false := decide_eq_false (by omega)
         have hqe : q2 = s.size := by omega
         have HGG : Hid (gapAt s true q2 = gapAt s false q2) := by show _ = _; rw [gapAt_end s true q2 hqe, gapAt_end s false q2 hqe]
         have hne : q ≠ q2 := by omega
         clear hqe
         go_upto_region 5 with fail
         have HC : Hid (∀ w', Below wr.heap.size wr w' → w'.cell? ⟨g, 0, none⟩ = some (.string s) ∧ w'.cell? ⟨g, 1, none⟩ = some (.int .i64 (q2 : Int)) ∧ w'.cell? ⟨g, 2, none⟩ = some ov ∧ w'.cell? ⟨g, 3, none⟩ = some dv) := fun w' hw' => by
          have h9 : w'.heap[g]? = some (.cells #[.string s, .int .i64 (q2 : Int), ov, dv] 114 (0, 0)) := by rw [hw'.block g HR.out.lt]; exact HR.out
          exact Rs3.cells (p := q2) h9
         have HS0 : Hid (Below wr.heap.size wr wr.drew) := (Below.refl _ _).drew
         replace HO : Hid (Only g w wr.drew) := HO.out.trans (Only.drew g wr)
         replace HR : Hid (Rs3 wr.drew g s q2 ov dv) := HR.out
         refine wp_region_noPanic ?_
         refine wp_region_held_drew (S := Below wr.heap.size wr) (by kernel_rfl) HS0.out (fun hHeld => ?_)
         generalize wr.drew = X2 at HS0 HO HR hHeld ⊢
         refine qts [0, 1, 2, 3, 4, 5, 6, 7, 8, 9, 10, 11, 12, 13, 14, 15, 16, 17, 18, 19, 20, 21] hHeld ?_
         iterate 2 (refine qtc (v := Value.pointer (some ⟨g, 0, none⟩)) rfl rfl (fun w' hw' => ?_) ?_; (focus (go_simp)); simp only [zt,zs,zz,Act.put,zi,zy,zx])
         (refine qtc (v := Value.pointer (some ⟨g, 1, none⟩)) rfl rfl (fun w' hw' => ?_) ?_; (focus (go_simp)); simp only [zt,zs,zz,Act.put,zi,zy,zx])
         (refine qtc (v := Value.int .i64 (q2 : Int)) rfl rfl (fun w' hw' => ?_) ?_; (focus (obtain ⟨d0, d1, d2, d3⟩ := HC.out w' hw'; go_simp)); simp only [zt,zs,zz,Act.put,zi,zy,zx])
         iterate 3 (refine qtc (v := Value.pointer (some ⟨g, 0, none⟩)) rfl rfl (fun w' hw' => ?_) ?_; (focus (go_simp)); simp only [zt,zs,zz,Act.put,zi,zy,zx])
         (refine qtc (v := Value.string s) rfl rfl (fun w' hw' => ?_) ?_; (focus (obtain ⟨d0, d1, d2, d3⟩ := HC.out w' hw'; go_simp)); simp only [zt,zs,zz,Act.put,zi,zy,zx])
         (refine qtc (v := Value.int .i64 (s.size : Int)) rfl rfl (fun w' hw' => ?_) ?_; (focus (go_simp)); simp only [zt,zs,zz,Act.put,zi,zy,zx])
         iterate 2 (refine qtc (v := Value.bool false) rfl rfl (fun w' hw' => ?_) ?_; (focus (go_simp)); simp only [zt,zs,zz,Act.put,zi,zy,zx])
         iterate 10 (refine qtz rfl rfl ?_; simp only [zt,zs,zz,Act.put,zi,zy,zx])
         (refine qtc (v := Value.bool false) rfl rfl (fun w' hw' => ?_) ?_; (focus (go_simp)); simp only [zt,zs,zz,Act.put,zi,zy,zx])
         refine qtn ?_
         simp only [zt,zs,zz,Act.put,zi,zy,zx,qzl,qzn,qza,Nat.reduceAdd,Nat.reduceSub]
         refine wpAnyH_done (by kernel_rfl) ?_ _
         refine NoPanic.normal ?_
         clear hHeld
         clear HC HS0
         go_wp2_with fail
         go_roundw
         case rel => exact ⟨q2, hq2, by rw [← HGG.out]; exact HG2.out, HR.out, HO.out⟩
         case measure =>
          have h1 := HR.out.plc
          have h2 := HPW.out
          omega
      ·skip
       have E32 : ((c.toNat : Int) == 32) = false := by simpa using (show ¬ (c.toNat : Int) = 32 by omega)
       have E9 : ((c.toNat : Int) == 9) = false := by simpa using (show ¬ (c.toNat : Int) = 9 by omega)
       have E10 : ((c.toNat : Int) == 10) = false := by simpa using (show ¬ (c.toNat : Int) = 10 by omega)
       have E59 : ((c.toNat : Int) == 59) = false := by simpa using (show ¬ (c.toNat : Int) = 59 by omega)
       have HSE : Hid (gapAt s false q = q) := gapAt_stop s q hlt (by
        rw [← hc]
        rintro (e | e | e)
        ·exact h32 (by rw [e]; rfl)
        ·exact h9 (by rw [e]; rfl)
        ·exact h10 (by rw [e]; rfl)) (by rw [← hc]; exact fun e => h59 (by rw [e]; rfl))
       have HCC := Lib.hid hc
       clear hc h32 h9 h10 h59
       have HFIN : Hid (RetSkip g s p ov dv w (.returned (.tuple #[])) X1) := ⟨rfl, by rw [← HG.out, HSE.out]; exact HR.out, HO.out, by rw [← HG.out, HSE.out]; exact hq⟩
       go_wp2_with fail
       refine bodyPost_ret (results_none rfl _ _ _) rfl ?_
       exact HFIN.out
  ·have q1 : decide ((q : Int) < (s.size : Int)) = false := decide_eq_false (by omega)
   have hqe : q = s.size := by omega
   have HSE : Hid (gapAt s false q = q) := gapAt_end s false q hqe
   clear hqe
   go_upto_region 0 with fail
   have HC : Hid (∀ w', Below wr.heap.size wr w' → w'.cell? ⟨g, 0, none⟩ = some (.string s) ∧ w'.cell? ⟨g, 1, none⟩ = some (.int .i64 (q : Int)) ∧ w'.cell? ⟨g, 2, none⟩ = some ov ∧ w'.cell? ⟨g, 3, none⟩ = some dv) := fun w' hw' => by
    have h9 : w'.heap[g]? = some (.cells #[.string s, .int .i64 (q : Int), ov, dv] 114 (0, 0)) := by rw [hw'.block g HR.out.lt]; exact HR.out
    exact Rs3.cells (p := q) h9
   have HS0 : Hid (Below wr.heap.size wr wr.drew) := (Below.refl _ _).drew
   replace HO : Hid (Only g w wr.drew) := HO.out.trans (Only.drew g wr)
   replace HR : Hid (Rs3 wr.drew g s q ov dv) := HR.out
   refine wp_region_noPanic ?_
   refine wp_region_held_drew (S := Below wr.heap.size wr) (by kernel_rfl) HS0.out (fun hHeld => ?_)
   generalize wr.drew = X0 at HS0 HO HR hHeld ⊢
   refine qts [0, 1, 2, 3, 4, 5, 6, 7, 8, 9] hHeld ?_
   iterate 2 (refine qtc (v := Value.pointer (some ⟨g, 0, none⟩)) rfl rfl (fun w' hw' => ?_) ?_; (focus (go_simp)); simp only [zt,zs,zz,Act.put,zi,zy,zx])
   (refine qtc (v := Value.pointer (some ⟨g, 1, none⟩)) rfl rfl (fun w' hw' => ?_) ?_; (focus (go_simp)); simp only [zt,zs,zz,Act.put,zi,zy,zx])
   (refine qtc (v := Value.int .i64 (q : Int)) rfl rfl (fun w' hw' => ?_) ?_; (focus (obtain ⟨d0, d1, d2, d3⟩ := HC.out w' hw'; go_simp)); simp only [zt,zs,zz,Act.put,zi,zy,zx])
   iterate 3 (refine qtc (v := Value.pointer (some ⟨g, 0, none⟩)) rfl rfl (fun w' hw' => ?_) ?_; (focus (go_simp)); simp only [zt,zs,zz,Act.put,zi,zy,zx])
   (refine qtc (v := Value.string s) rfl rfl (fun w' hw' => ?_) ?_; (focus (obtain ⟨d0, d1, d2, d3⟩ := HC.out w' hw'; go_simp)); simp only [zt,zs,zz,Act.put,zi,zy,zx])
   (refine qtc (v := Value.int .i64 (s.size : Int)) rfl rfl (fun w' hw' => ?_) ?_; (focus (go_simp)); simp only [zt,zs,zz,Act.put,zi,zy,zx])
   (refine qtc (v := Value.bool false) rfl rfl (fun w' hw' => ?_) ?_; (focus (go_simp)); simp only [zt,zs,zz,Act.put,zi,zy,zx])
   refine qtn ?_
   simp only [zt,zs,zz,Act.put,zi,zy,zx,qzl,qzn,qza,Nat.reduceAdd,Nat.reduceSub]
   refine wpAnyH_done (by kernel_rfl) ?_ _
   refine NoPanic.normal ?_
   clear hHeld
   clear HC HS0
   have HFIN : Hid (RetSkip g s p ov dv w (.returned (.tuple #[])) X0) := ⟨rfl, by rw [← HG.out, HSE.out]; exact HR.out, HO.out, by rw [← HG.out, HSE.out]; exact hq⟩
   go_wp2_with fail
   refine bodyPost_ret (results_none rfl _ _ _) rfl ?_
   exact HFIN.out
end Go.Proofs.Ytecljchifebljaa
