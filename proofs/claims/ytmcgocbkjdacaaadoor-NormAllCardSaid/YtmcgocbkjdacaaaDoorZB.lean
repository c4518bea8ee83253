/- The contracts of textRight, namesRight, partsRight. -/
import Derived.Test.YtmcgocbkjdacaaaDoorZA
import Derived.Laws.AppendOwn
import Derived.Laws.MakeOwn
import Derived.Deep.AppendSrc
import Derived.Deep.Slices
import Derived.Deep.Fields
import Derived.ChangeSame
import Derived.Below
namespace Go.Proofs.YtmcgocbkjdacaaaDoor
open Go.RowKit Go.BigM
set_option linter.unusedVariables false
set_option linter.unusedSimpArgs false
def num (s : ByteArray) : Bool := decide (Canon s.data.toList)
theorem isEmpty_eq (t : ByteArray) : t.toList.isEmpty = (t.toList == []) := by
  rw [Lib.toList_data]
  cases t.data.toList <;> rfl
end Go.Proofs.YtmcgocbkjdacaaaDoor
namespace Go.Proofs.YtmcgocbkjdacaaaDoor
open Go.RowKit Go.BigM
set_option linter.unusedVariables false
set_option linter.unusedSimpArgs false
def IxInv (l : List Et) (w : World) (iv : Value) (wr : World) : Prop := ∃ j : Nat, j ≤ l.length ∧ iv = .int .i64 (j : Int) ∧ Et.rights num (l.take j) = true ∧ Below w.heap.size w wr
def RetIx (l : List Et) (w : World) (e : Ending) (w' : World) : Prop := ∃ r : Int, e = .returned (.int .i64 r) ∧ decide (0 ≤ r) = (!Et.rights num l) ∧ Below w.heap.size w w'
end Go.Proofs.YtmcgocbkjdacaaaDoor
namespace Go.Proofs.YtmcgocbkjdacaaaDoor
open Go.RowKit Go.BigM
set_option linter.unusedVariables false
set_option linter.unusedSimpArgs false
abbrev nilC : Array Value := #[.int .i64 3, .string ⟨#[]⟩, .slice none 0 0, .slice none 0 0]
theorem nil_at (S : Nat → Prop) (w : World) : Et.At S w (.mk 3 ⟨#[]⟩ [] []) nilC := by
  rw [EAt_mk]; exact ⟨_, _, rfl, .inl ⟨rfl, rfl⟩, .inl ⟨rfl, rfl⟩⟩
end Go.Proofs.YtmcgocbkjdacaaaDoor
namespace Go.Proofs.YtmcgocbkjdacaaaDoor
open Go.RowKit Go.BigM
set_option linter.unusedVariables false
set_option linter.unusedSimpArgs false
theorem within_any (a n : Int) (w : World) (h1 : -9223372036854775808 ≤ a) (h2 : a ≤ 9223372036854775807) (h3 : 1 ≤ n) (h4 : n ≤ 4000000000) :
    Calls Tryd.prog 46 #[.int .i64 a, .int .i64 n] w fun e w' => e = .returned (.int .i64 (a % n)) ∧ w = w' := by
  have hr := Int.emod_nonneg a (show n ≠ 0 by omega)
  have hl := Int.emod_lt_of_pos a (show 0 < n by omega)
  by_cases h : 0 ≤ a
  · have ht := Int.tmod_eq_emod_of_nonneg (b := n) h
    go_enter Tryd.func46, Tryd.ntmps46
    go_wp2
    go_ret
    exact ⟨rfl, rfl⟩
  · by_cases hd : a % n = 0
    · have ht : a.tmod n = 0 := by rw [Int.tmod_eq_emod, if_pos (Or.inr (Int.dvd_of_emod_eq_zero hd))]; omega
      go_enter Tryd.func46, Tryd.ntmps46
      go_wp2
      go_ret
      exact ⟨ret_int (by omega), rfl⟩
    · have ht : a.tmod n = a % n - n := by
        rw [Int.tmod_eq_emod, if_neg]
        · omega
        · rintro (h' | h')
          · exact h h'
          · exact hd (Int.emod_eq_zero_of_dvd h')
      have ht2 : a % n - n < 0 := by omega
      clear hd
      go_enter Tryd.func46, Tryd.ntmps46
      go_wp2
      go_ret
      exact ⟨ret_int (by omega), rfl⟩


/-- Some number from 0 to n - 1 comes back. -/
def SomeR (n : Nat) (w : World) (e : Ending) (w' : World) : Prop := ∃ r : Nat, r < n ∧ e = .returned (.int .i64 r) ∧ w = w'
def I64 (a : Int) : Prop := -9223372036854775808 ≤ a ∧ a ≤ 9223372036854775807
theorem wf_I64 (a : Int) (h : (Lit.int .i64 a).wf = true) : I64 a := by
  simpa [Lit.wf, IntKind.min, IntKind.max, IntKind.signed, IntKind.bits, I64] using h
theorem within_some (a : Int) (n : Nat) (ha : I64 a) (h1 : 1 ≤ n) (h2 : n ≤ 1000) (w : World) : Calls Tryd.prog 46 #[.int .i64 a, .int .i64 n] w (SomeR n w) := by
  refine (within_any a n w ha.1 ha.2 (by omega) (by omega)).mono ?_
  rintro e w' ⟨he, hw⟩
  have h3 := Int.emod_nonneg a (show (n : Int) ≠ 0 by omega)
  have h4 := Int.emod_lt_of_pos a (show (0 : Int) < n by omega)
  exact ⟨(a % n).toNat, by omega, by rw [he]; exact ret_int (by omega), hw⟩
/-- What is known of a slice of integers that came in: it is nil, or leads to a row of so many cells. -/
def IsRow (k : IntKind) (w : World) (a : Option Addr) (len cap : Nat) (zs : List Int) : Prop :=
  (a = none ∧ len = 0 ∧ cap = 0 ∧ zs = []) ∨
  ∃ x, a = some x ∧ len ≤ cap ∧ cap ≤ maxLen ∧ zs.length = cap ∧ (∀ i, i < zs.length → w.cell? (x.add i) = some (.int k (zs.getD i 0))) ∧ ∀ n ∈ zs, (Lit.int k n).wf = true

theorem within_is (a : Int) (n : Nat) (q : Int) (ha : I64 a) (h1 : 1 ≤ n) (h2 : n ≤ 1000) (hq : a % n = q) (w : World) : Calls Tryd.prog 46 #[.int .i64 a, .int .i64 n] w fun e w' => e = .returned (.int .i64 q) ∧ w = w' := by
  subst hq
  exact within_any a n w ha.1 ha.2 (by omega) (by omega)
def tabT : List ByteArray := [⟨#[43]⟩, ⟨#[45]⟩, ⟨#[42]⟩, ⟨#[113, 117, 111, 116, 105, 101, 110, 116]⟩, ⟨#[114, 101, 109, 97, 105, 110, 100, 101, 114]⟩, ⟨#[60]⟩, ⟨#[61]⟩, ⟨#[101, 113, 63]⟩, ⟨#[99, 111, 110, 115]⟩, ⟨#[115, 101, 113]⟩, ⟨#[99, 97, 114]⟩, ⟨#[99, 100, 114]⟩, ⟨#[110, 117, 108, 108, 63]⟩, ⟨#[112, 97, 105, 114, 63]⟩, ⟨#[110, 111, 116]⟩, ⟨#[105, 110, 116, 101, 103, 101, 114, 63]⟩, ⟨#[115, 121, 109, 98, 111, 108, 63]⟩, ⟨#[101, 114, 114, 111, 114]⟩, ⟨#[]⟩, ⟨#[108, 97, 109, 98, 100, 97]⟩, ⟨#[105, 102]⟩, ⟨#[67, 97, 114]⟩, ⟨#[43, 32]⟩, ⟨#[105, 110, 112, 117, 116]⟩]
theorem tabT_get (k : Nat) (h : k < 24) : arity (tabT.getD k ⟨#[]⟩) = if k < 10 then 2 else if k < 18 then 1 else 0 := by
  match k, h with
  | 0, _ => simp [tabT, arity, arityIn, prims, Lib.toList_data]
  | 1, _ => simp [tabT, arity, arityIn, prims, Lib.toList_data]
  | 2, _ => simp [tabT, arity, arityIn, prims, Lib.toList_data]
  | 3, _ => simp [tabT, arity, arityIn, prims, Lib.toList_data]
  | 4, _ => simp [tabT, arity, arityIn, prims, Lib.toList_data]
  | 5, _ => simp [tabT, arity, arityIn, prims, Lib.toList_data]
  | 6, _ => simp [tabT, arity, arityIn, prims, Lib.toList_data]
  | 7, _ => simp [tabT, arity, arityIn, prims, Lib.toList_data]
  | 8, _ => simp [tabT, arity, arityIn, prims, Lib.toList_data]
  | 9, _ => simp [tabT, arity, arityIn, prims, Lib.toList_data]
  | 10, _ => simp [tabT, arity, arityIn, prims, Lib.toList_data]
  | 11, _ => simp [tabT, arity, arityIn, prims, Lib.toList_data]
  | 12, _ => simp [tabT, arity, arityIn, prims, Lib.toList_data]
  | 13, _ => simp [tabT, arity, arityIn, prims, Lib.toList_data]
  | 14, _ => simp [tabT, arity, arityIn, prims, Lib.toList_data]
  | 15, _ => simp [tabT, arity, arityIn, prims, Lib.toList_data]
  | 16, _ => simp [tabT, arity, arityIn, prims, Lib.toList_data]
  | 17, _ => simp [tabT, arity, arityIn, prims, Lib.toList_data]
  | 18, _ => simp [tabT, arity, arityIn, prims, Lib.toList_data]
  | 19, _ => simp [tabT, arity, arityIn, prims, Lib.toList_data]
  | 20, _ => simp [tabT, arity, arityIn, prims, Lib.toList_data]
  | 21, _ => simp [tabT, arity, arityIn, prims, Lib.toList_data]
  | 22, _ => simp [tabT, arity, arityIn, prims, Lib.toList_data]
  | 23, _ => simp [tabT, arity, arityIn, prims, Lib.toList_data]
  | n + 24, h => exact absurd h (by omega)
end Go.Proofs.YtmcgocbkjdacaaaDoor
namespace Go.Proofs.YtmcgocbkjdacaaaDoor
open Go.RowKit
set_option linter.unusedVariables false
set_option linter.unusedSimpArgs false
/-- A row of data that the call owns (from block B on): v leads to it; the data's own blocks are others. -/
def OwnA (B : Nat) (w : World) (v : Value) (ds : List Et) : Prop :=
  ∃ xs, w.ownsRow B 28 4 v ds.length xs ∧ ∀ j (h : j < ds.length), ∃ cs : Array Value, cs.size = 4 ∧ (∀ i, i < 4 → xs[4 * j + i]? = cs[i]?) ∧ Et.At (fun g => B ≤ g ∧ v.ownBlock ≠ some g) w ds[j] cs
theorem OwnA.nil (B : Nat) (w : World) : OwnA B w (.slice none 0 0) [] := ⟨[], World.ownsRow_nil _ _ _ _, fun j h => by simp at h⟩
/-- It reads as a slice of these. -/
theorem OwnA.at {B : Nat} {w : World} {v : Value} {ds : List Et} (h : OwnA B w v ds) : AAt (fun g => B ≤ g) w v ds := by
  obtain ⟨xs, hown, hd⟩ := h
  rcases hown.2 with ⟨rfl, hz⟩ | ⟨g, cap, cur, rfl, hbg, hg, hnc, hcm, hcs, htake⟩
  · exact .inl ⟨rfl, List.length_eq_zero_iff.1 hz⟩
  · refine .inr ⟨g, 0, cap, cur, (0, 0), rfl, hbg, hg, Ets.At.of_get _ _ _ fun j hj => ?_, hnc⟩
    obtain ⟨cs, h5, h1, h2⟩ := hd j hj
    refine ⟨cs, fun i hi => ?_, Et.At.mono (fun g h => h.1) _ _ h2⟩
    rw [← h1 i hi, ← htake, List.getElem?_take, if_pos (by omega)]
    simp
/-- What a world that grows by one row keeps. -/
theorem Keeps.of_grown {S : Nat → Prop} {w w' : World} {row : Option Nat} (h : w.grownBy w' row) (hS : ∀ g, S g → some g ≠ row) : Keeps S w w' := by
  intro g c T fz hs hg _
  exact ⟨fz, by rw [h.block g (Array.getElem?_eq_some_iff.1 hg).1 (hS g hs)]; exact hg⟩
/-- One datum more at the row's end. -/
theorem OwnA.snoc {B : Nat} {w w' : World} {v v' : Value} {ds : List Et} {xs : List Value} {d : Et} {cs : Array Value} (hx : ∀ j (h : j < ds.length), ∃ cs : Array Value, cs.size = 4 ∧ (∀ i, i < 4 → xs[4 * j + i]? = cs[i]?) ∧ Et.At (fun g => B ≤ g ∧ v.ownBlock ≠ some g) w ds[j] cs)
    (hl : xs.length = ds.length * 4) (h5 : cs.size = 4) (hd : Et.At (fun g => B ≤ g ∧ v.ownBlock ≠ some g) w d cs)
    (hown : w'.ownsRow B 28 4 v' (ds.length + 1) (xs ++ cs.toList)) (hg : w.grownBy w' v.ownBlock) (hv : v'.ownBlock = v.ownBlock ∨ v'.ownBlock = some w.heap.size) : OwnA B w' v' (ds ++ [d]) := by
  have key : ∀ (d : Et) (cs : Array Value), Et.At (fun g => B ≤ g ∧ v.ownBlock ≠ some g) w d cs → Et.At (fun g => B ≤ g ∧ v'.ownBlock ≠ some g) w' d cs := by
    intro d cs h
    have h1 := Et.At.bound d cs h
    have h2 := Et.At.keeps (Keeps.of_grown hg (S := fun g => (B ≤ g ∧ v.ownBlock ≠ some g) ∧ g < w.heap.size) (fun g hs e => hs.1.2 e.symm)) d cs h1
    refine Et.At.mono (fun g hs => ⟨hs.1.1, ?_⟩) d cs h2
    rcases hv with e | e
    · rw [e]; exact hs.1.2
    · rw [e]; intro e2; injection e2 with e2; omega
  refine ⟨xs ++ cs.toList, by simpa using hown, fun j hj => ?_⟩
  by_cases hlt : j < ds.length
  · obtain ⟨c, c5, c1, c2⟩ := hx j hlt
    refine ⟨c, c5, fun i hi => ?_, ?_⟩
    · rw [List.getElem?_append_left (by omega)]; exact c1 i hi
    · rw [List.getElem_append_left hlt]; exact key _ _ c2
  · have hj' : j = ds.length := by simp at hj; omega
    subst hj'
    refine ⟨cs, h5, fun i hi => ?_, ?_⟩
    · rw [List.getElem?_append_right (by omega), show 4 * ds.length + i - xs.length = i by omega]; simp
    · rw [List.getElem_append_right (by omega)]
      simp
      exact key _ _ hd
theorem infoD : (Tryd.prog.info? 28).map (fun i => (i.zero, i.size, i.bytes)) = some (some (.agg Z4), 4, 72) := by kernel_rfl

theorem run_app (w : World) (B ty : Nat) (v : Value) (n : Nat) (xs : List Value) (hown : w.ownsRow B 28 4 v n xs) (g0 c : Nat) (news : List Value) (hl : news.length = 4)
    (hnews : ∀ j u, news[j]? = some u → w.cell? ⟨g0, j, none⟩ = some u) (h1 : ∀ u ∈ news, u.oneCell' = true) (hn : n + 1 ≤ 1000000000) (hB : B ≤ w.heap.size) :
    ∃ v' w', (Builtin.append_ #[26, 26] ty #[v, .slice (some ⟨g0, 0, none⟩) 1 c]).run Tryd.prog w = .ok v' w' ∧ w'.ownsRow B 28 4 v' (n + 1) (xs ++ news) ∧ w.grownBy w' v.ownBlock ∧ (v'.ownBlock = v.ownBlock ∨ v'.ownBlock = some w.heap.size) := by
  obtain ⟨i, hi, hz, hs, hb⟩ := info_parts infoD
  have hnews' : ∀ j u, news[j]? = some u → w.cell? ((⟨g0, 0, none⟩ : Addr).add j) = some u := by
    intro j u hu
    have e : (⟨g0, 0, none⟩ : Addr).add j = ⟨g0, j, none⟩ := by unfold Addr.add; split <;> simp_all
    rw [e]; exact hnews j u hu
  have hl1 : news.length = 1 * 4 := by omega
  obtain ⟨v', w', hr, h2, h3, _⟩ := run_append_own (P := Tryd.prog) w B 26 ty 28 i (.agg Z4) 4 72 Tryd.underlying26 hi hz hs hb rfl (by decide) v n xs hown ⟨g0, 0, none⟩ 1 c news hl1 hnews' h1 (by unfold maxLen; omega) (by omega) hB
  refine ⟨v', w', hr, h2, h3, ?_⟩
  have hl2 : news.length = 1 * i.size := by rw [hs]; exact hl1
  rcases hown.2 with ⟨rfl, rfl⟩ | ⟨g, cap, cur, rfl, hbg, hg, hnc, hcm, hcs, htake⟩
  · have hr2 := run_append_nil (P := Tryd.prog) w 26 ty 28 i (.agg Z4) Tryd.underlying26 hi hz ⟨g0, 0, none⟩ 1 c news hl2 hnews' (by decide) (by decide) (by rw [hb]; decide)
    rw [hr] at hr2
    injection hr2 with e1 e2
    right; rw [e1]; rfl
  · by_cases hroom : n + 1 ≤ cap
    · have hfit : n * i.size + news.length ≤ cur.size := by rw [hs, hl, hcs]; omega
      have hr2 := run_append_room (P := Tryd.prog) w 26 ty 28 i Tryd.underlying26 hi g n cap cur hg ⟨g0, 0, none⟩ 1 c news hl2 hnews' h1 hroom hfit
      rw [hr] at hr2
      injection hr2 with e1 e2
      left; rw [e1]; rfl
    · have hlo : xs.length = n * i.size := by rw [hs]; exact hown.1
      have hr2 := run_append_grow (P := Tryd.prog) w 26 ty 28 i (.agg Z4) Tryd.underlying26 hi hz ⟨g, 0, none⟩ n cap xs hlo (hown.cells (g := g) rfl) ⟨g0, 0, none⟩ 1 c news hl2 hnews' (by omega) (by omega) (growslice_fits (by omega) (by rw [hb]; omega))
      rw [hr] at hr2
      injection hr2 with e1 e2
      right; rw [e1]; rfl

theorem wp_app {o : Oper} {a : Act} {w : World} {K : Act → World → Prop} {Q : Exit → Act → World → Prop} (s x : Operand)
    (ho : o.op = .call { callee := .builtin .append, args := #[s, x], argTypes := #[26, 26] }) (B : Nat) (v : Value) (n : Nat) (xs : List Value) (hs : a.eval s = v) (hown : w.ownsRow B 28 4 v n xs)
    (g0 c : Nat) (hx : a.eval x = .slice (some ⟨g0, 0, none⟩) 1 c) (news : List Value) (hl : news.length = 4)
    (hnews : ∀ j u, news[j]? = some u → w.cell? ⟨g0, j, none⟩ = some u) (h1 : ∀ u ∈ news, u.oneCell' = true) (hn : n + 1 ≤ 1000000000) (hB : B ≤ w.heap.size)
    (h : ∀ v' w', w'.ownsRow B 28 4 v' (n + 1) (xs ++ news) → w.grownBy w' v.ownBlock → (v'.ownBlock = v.ownBlock ∨ v'.ownBlock = some w.heap.size) → K (a.put o.dst v') w') : o.wp Tryd.prog a w K Q := by
  obtain ⟨v', w', hr, h2, h3, h4⟩ := run_app w B o.type v n xs hown g0 c news hl hnews h1 hn hB
  unfold Oper.wp execOp
  simp only [ho, resolve, invoke, builtin, Sem.run_bind, Sem.run_pure, Result.andThen_ok, List.map_toArray, List.map_cons, List.map_nil, hs, hx, hr]
  exact h v' w' h2 h3 h4

theorem Below.grownRow {w w' : World} (h : Below w.heap.size w w') (row : Option Nat) : w.grownBy w' row := ⟨h.os, h.tape, h.output, h.size, fun k hk _ => h.block k hk⟩
theorem grownRow_of {w w' : World} (h : Below w.heap.size w w') (row : Option Nat) : w.grownBy w' row := ⟨h.os, h.tape, h.output, h.size, fun k hk _ => h.block k hk⟩
theorem OwnA.below {B : Nat} {w w' : World} {v : Value} {ds : List Et} (h : OwnA B w v ds) (hb : Below w.heap.size w w') : OwnA B w' v ds := by
  obtain ⟨xs, hown, hd⟩ := h
  refine ⟨xs, hown.kept (grownRow_of hb none) ?_, fun j hj => ?_⟩
  · cases v.ownBlock <;> simp
  · obtain ⟨cs, h5, h1, h2⟩ := hd j hj
    exact ⟨cs, h5, h1, Et.At.keeps (Keeps.of_below hb) _ _ h2⟩
theorem OwnA.lt {B : Nat} {w : World} {v : Value} {ds : List Et} (h : OwnA B w v ds) {k : Nat} (hk : v.ownBlock = some k) : B ≤ k ∧ k < w.heap.size := by
  obtain ⟨xs, hown, _⟩ := h
  exact hown.lt k hk
theorem own_form {w : World} {B ty sz n : Nat} {v : Value} {xs : List Value} (h : w.ownsRow B ty sz v n xs) : ∃ ao c, v = .slice ao n c := by
  rcases h.2 with ⟨rfl, hz⟩ | ⟨g, cap, cur, rfl, _⟩
  · exact ⟨none, 0, by rw [hz]⟩
  · exact ⟨_, _, rfl⟩
/-- Rows of texts that a call owns. -/
def OwnN (B : Nat) (w : World) (v : Value) (ns : List ByteArray) : Prop := w.ownsRow B 9 1 v ns.length (ns.map Value.string)
theorem OwnN.nil (B : Nat) (w : World) : OwnN B w (.slice none 0 0) [] := World.ownsRow_nil _ _ _ _
theorem OwnN.at {B : Nat} {w : World} {v : Value} {ns : List ByteArray} (h : OwnN B w v ns) : NAt (fun g => B ≤ g ∧ v.ownBlock = some g) w v ns := by
  rcases h.2 with ⟨rfl, hz⟩ | ⟨g, cap, cur, rfl, hbg, hg, hnc, hcm, hcs, htake⟩
  · exact .inl ⟨rfl, List.length_eq_zero_iff.1 hz⟩
  · refine .inr ⟨g, 0, cap, cur, (0, 0), rfl, ⟨hbg, rfl⟩, hg, fun j hj => ?_, hnc⟩
    rw [Nat.zero_add]
    have h5 : (cur.toList.take (ns.length * 1))[j]? = (ns.map Value.string)[j]? := by rw [htake]
    rw [List.getElem?_take, if_pos (by omega), List.getElem?_map, List.getElem?_eq_getElem hj] at h5
    simpa using h5
theorem infoS : (Tryd.prog.info? 9).map (fun i => (i.zero, i.size, i.bytes)) = some (some (.string ⟨#[]⟩), 1, 16) := by kernel_rfl
theorem wp_appN1 {o : Oper} {a : Act} {w : World} {K : Act → World → Prop} {Q : Exit → Act → World → Prop} (s x : Operand)
    (ho : o.op = .call { callee := .builtin .append, args := #[s, x], argTypes := #[25, 25] }) (B : Nat) (v : Value) (L : List ByteArray) (hs : a.eval s = v) (hown : OwnN B w v L)
    (g0 : Nat) (hx : a.eval x = .slice (some ⟨g0, 0, none⟩) 1 1) (d : ByteArray) (hc : w.cell? ⟨g0, 0, none⟩ = some (.string d)) (hb : L.length ≤ 100000) (hB : B ≤ w.heap.size)
    (h : ∀ v' w', OwnN B w' v' (L ++ [d]) → w.grownBy w' v.ownBlock → K (a.put o.dst v') w') : o.wp Tryd.prog a w K Q := by
  obtain ⟨i, hi, hz, hsz, hby⟩ := info_parts infoS
  refine wp_append_own w s x 25 ho B 9 i (.string ⟨#[]⟩) 1 16 Tryd.underlying25 hi hz hsz hby rfl (by decide) v L.length _ hs hown ⟨g0, 0, none⟩ 1 1 [.string d] hx rfl (fun j u hu => ?_) (fun u hu => ?_) (by unfold maxLen; omega) (by omega) hB ?_
  · have hj : j = 0 := by
      rcases j with _ | j
      · rfl
      · simp at hu
    subst hj
    simp at hu
    subst hu
    exact hc
  · simp at hu; subst hu; rfl
  · intro v' w' h2 h3 _
    refine h v' w' ?_ h3
    unfold OwnN
    rw [List.map_append, List.length_append]; exact h2
theorem OwnN.below {B : Nat} {w w' : World} {v : Value} {ns : List ByteArray} (h : OwnN B w v ns) (hb : Below w.heap.size w w') : OwnN B w' v ns := by
  refine World.ownsRow.kept h (grownRow_of hb none) ?_
  cases v.ownBlock <;> simp
end Go.Proofs.YtmcgocbkjdacaaaDoor
namespace Go.Proofs.YtmcgocbkjdacaaaDoor
open Go.RowKit Go.ChangeShapes Go.WideShapes Go.Deep
set_option linter.unusedVariables false
set_option linter.unusedSimpArgs false

/-- A raw datum: two numbers, and parts. -/
inductive Rw where
  | mk (k n : Int) (l : List Rw) : Rw
namespace Rw
def num : Rw → Int | mk k _ _ => k
def at_ : Rw → Int | mk _ n _ => n
def parts : Rw → List Rw | mk _ _ l => l
mutual
/-- How many there are, with itself. -/
def cnt : Rw → Nat
  | mk _ _ l => 1 + cnts l
def cnts : List Rw → Nat
  | [] => 0
  | r :: l => r.cnt + cnts l
end
end Rw

mutual
/-- At this address lies this raw datum. -/
def Rw.At (w : World) : Rw → Addr → Prop
  | .mk k n l, a => w.cell? (a.add 0) = some (.int .i64 k) ∧ w.cell? (a.add 1) = some (.int .i64 n) ∧ I64 k ∧ I64 n ∧
      ∃ ao cap, w.cell? (a.add 2) = some (.slice ao l.length cap) ∧ l.length ≤ maxLen ∧ (l = [] ∨ ∃ b, ao = some b ∧ Rws.At w l b)
/-- From this address on lie these, one behind the other. -/
def Rws.At (w : World) : List Rw → Addr → Prop
  | [], _ => True
  | r :: l, b => Rw.At w r b ∧ Rws.At w l (b.add 3)
end
/-- A slice that reads as these. -/
def RsAt (w : World) (ao : Option Addr) (l : List Rw) : Prop := l.length ≤ maxLen ∧ (l = [] ∨ ∃ b, ao = some b ∧ Rws.At w l b)

theorem Rws.At.get {w : World} : ∀ (l : List Rw) (b : Addr), Rws.At w l b → ∀ j (h : j < l.length), Rw.At w l[j] (b.add (j * 3))
  | [], _, _, j, h => by simp at h
  | r :: l, b, H, 0, _ => by
    unfold Rws.At at H
    have e : b.add (0 * 3) = b := by simp [Addr.add]
    rw [e]; exact H.1
  | r :: l, b, H, j + 1, h => by
    unfold Rws.At at H
    have := Rws.At.get l (b.add 3) H.2 j (by simpa using h)
    rw [add_add] at this
    have e : 3 + j * 3 = (j + 1) * 3 := by omega
    rw [e] at this
    exact this
theorem Rws.At.of_get {w : World} : ∀ (l : List Rw) (b : Addr), (∀ j (h : j < l.length), Rw.At w l[j] (b.add (j * 3))) → Rws.At w l b
  | [], _, _ => by unfold Rws.At; trivial
  | r :: l, b, H => by
    unfold Rws.At
    refine ⟨?_, Rws.At.of_get l (b.add 3) fun j h => ?_⟩
    · have := H 0 (by simp)
      have e : b.add (0 * 3) = b := by simp [Addr.add]
      rw [e] at this; exact this
    · have := H (j + 1) (by simpa using h)
      rw [add_add]
      have e : 3 + j * 3 = (j + 1) * 3 := by omega
      rw [e]; exact this
theorem cell_below {w w' : World} (h : Below w.heap.size w w') {a : Addr} {v : Value} (hc : w.cell? a = some v) : w'.cell? a = some v := by
  rw [h.cell (World.block_lt_of_cell? w a hc)]; exact hc
mutual
theorem Rw.At.below {w w' : World} (h : Below w.heap.size w w') : ∀ (r : Rw) (a : Addr), Rw.At w r a → Rw.At w' r a
  | .mk k n l, a, H => by
    unfold Rw.At at H ⊢
    obtain ⟨h1, h2, h3, h4, ao, cap, h5, h6, h7⟩ := H
    refine ⟨cell_below h h1, cell_below h h2, h3, h4, ao, cap, cell_below h h5, h6, ?_⟩
    rcases h7 with h7 | ⟨b, h8, h9⟩
    · exact .inl h7
    · exact .inr ⟨b, h8, Rws.At.below h l b h9⟩
theorem Rws.At.below {w w' : World} (h : Below w.heap.size w w') : ∀ (l : List Rw) (b : Addr), Rws.At w l b → Rws.At w' l b
  | [], _, _ => by unfold Rws.At; trivial
  | r :: l, b, H => by
    unfold Rws.At at H ⊢
    exact ⟨Rw.At.below h r b H.1, Rws.At.below h l (b.add 3) H.2⟩
end
theorem RsAt.below {w w' : World} {ao : Option Addr} {l : List Rw} (H : RsAt w ao l) (h : Below w.heap.size w w') : RsAt w' ao l := by
  refine ⟨H.1, ?_⟩
  rcases H.2 with h7 | ⟨b, h8, h9⟩
  · exact .inl h7
  · exact .inr ⟨b, h8, Rws.At.below h l b h9⟩
/-- One part of a slice: its cells, and its own parts. -/
theorem RsAt.get {w : World} {ao : Option Addr} {l : List Rw} (H : RsAt w ao l) (j : Nat) (h : j < l.length) :
    ∃ b k n po pl pc, ao = some b ∧ l[j] = .mk k n pl ∧ w.cell? (b.add (j * 3)) = some (.int .i64 k) ∧ w.cell? ⟨(b.add (j * 3)).block, (b.add (j * 3)).off + 1, none⟩ = some (.int .i64 n) ∧ w.cell? ⟨(b.add (j * 3)).block, (b.add (j * 3)).off + 2, none⟩ = some (.slice po pl.length pc) ∧
      I64 k ∧ I64 n ∧ RsAt w po pl := by
  rcases H.2 with rfl | ⟨b, h8, h9⟩
  · simp at h
  · have := Rws.At.get l b h9 j h
    generalize hd : l[j] = d at this
    obtain ⟨k, n, pl⟩ := d
    unfold Rw.At at this
    obtain ⟨h1, h2, h3, h4, po, pc, h5, h6, h7⟩ := this
    have e : (b.add (j * 3)).add 0 = b.add (j * 3) := by simp [Addr.add]
    rw [e] at h1
    exact ⟨b, k, n, po, pl, pc, h8, rfl, h1, h2, h5, h3, h4, h6, h7⟩
theorem cnts_get : ∀ (l : List Rw) (j : Nat) (h : j < l.length), l[j].cnt ≤ Rw.cnts l
  | [], j, h => by simp at h
  | r :: l, 0, _ => by simp [Rw.cnts]
  | r :: l, j + 1, h => by
    have := cnts_get l j (by simpa using h)
    simp only [Rw.cnts, List.getElem_cons_succ]; omega
theorem length_cnts : ∀ (l : List Rw), l.length ≤ Rw.cnts l
  | [] => by simp
  | r :: l => by
    have h1 := length_cnts l
    have h2 : 1 ≤ r.cnt := by cases r; simp only [Rw.cnt]; omega
    simp only [List.length_cons, Rw.cnts]; omega

theorem list_of {α : Type} (p : Nat → α → Prop) : ∀ (n : Nat), (∀ i, i < n → ∃ r, p i r) → ∃ l : List α, l.length = n ∧ ∀ i (h : i < l.length), p i l[i]
  | 0, _ => ⟨[], rfl, fun i h => by simp at h⟩
  | n + 1, H => by
    obtain ⟨l, hl, hp⟩ := list_of p n (fun i hi => H i (by omega))
    obtain ⟨r, hr⟩ := H n (by omega)
    refine ⟨l ++ [r], by simp [hl], fun i h => ?_⟩
    by_cases hi : i < l.length
    · rw [List.getElem_append_left hi]; exact hp i hi
    · have : i = l.length := by simp at h; omega
      subst this
      rw [List.getElem_append_right (by omega)]
      simp [hl]; exact hr
theorem cells44 : Tryd.prog.cellsOf 53 = 3 := by kernel_rfl

section
variable {H : Type} {enc : TypeId × Value → H} {w : World} {base : Nat} {spare : Nat → Bool} {held : Bool}
set_option maxRecDepth 100000 in
theorem raws_open (N : Nat) : ∀ (fuel : Nat), fuel ≤ N → ∀ (cs : List Value) (x : DataW H × List MemPlace), DataW.trod enc Tryd.prog w base spare held fuel 22 cs = some x →
    ∃ ao cap, ∃ l : List Rw, cs = [.slice ao l.length cap] ∧ RsAt w ao l := by
  induction N with
  | zero =>
    intro fuel hf cs x h
    obtain rfl : fuel = 0 := by omega
    simp [DataW.trod] at h
  | succ N ih =>
    intro fuel hf cs x h
    rcases DataW.trod_slice Tryd.underlying22 h with ⟨rfl, _⟩ | ⟨a, len, cap, elems, rest, n, rfl, rfl, _, _, hlc, hcm, hlen, hel, _, _⟩
    · exact ⟨none, 0, [], rfl, by simp [maxLen], .inl rfl⟩
    · have one : ∀ i, i < len → ∃ r, Rw.At w r (a.add (i * 3)) := by
        intro i hi
        have h1 := hel i hi
        rw [cells44] at h1
        have h2 : elems[i]? = some (elems[i]'(by omega)) := List.getElem?_eq_getElem (by omega)
        rw [h2] at h1
        obtain ⟨cs', hc, ht⟩ := Option.bind_eq_some_iff.1 h1
        obtain ⟨_, hcl, hat⟩ := World.cells?_some hc
        obtain ⟨ys, n', rfl, _, _, hyl, hfield⟩ := DataW.trod_struct Tryd.underlying53 ht
        match cs', hcl with
        | [c0, c1, c2], _ =>
          have f0 := hfield 0 _ rfl
          have f1 := hfield 1 _ rfl
          have f2 := hfield 2 _ rfl
          obtain ⟨y0, g0⟩ : ∃ y, ys[0]? = some y := ⟨_, List.getElem?_eq_getElem (by rw [hyl]; decide)⟩
          obtain ⟨y1, g1⟩ : ∃ y, ys[1]? = some y := ⟨_, List.getElem?_eq_getElem (by rw [hyl]; decide)⟩
          obtain ⟨y2, g2⟩ : ∃ y, ys[2]? = some y := ⟨_, List.getElem?_eq_getElem (by rw [hyl]; decide)⟩
          have c1' : Tryd.prog.cellsOf 3 = 1 := by kernel_rfl
          have c2' : Tryd.prog.cellsOf 22 = 1 := by kernel_rfl
          have f0' : DataW.trod enc Tryd.prog w base spare held n' 3 [c0] = some y0 := by
            have := f0.trans g0
            simpa [c1'] using this
          have f1' : DataW.trod enc Tryd.prog w base spare held n' 3 [c1] = some y1 := by
            have := f1.trans g1
            simpa [c1'] using this
          have f2' : DataW.trod enc Tryd.prog w base spare held n' 22 [c2] = some y2 := by
            have := f2.trans g2
            simpa [c2'] using this
          obtain ⟨k, e0, _, w0⟩ := DataW.trod_int Tryd.underlying3 f0'
          obtain ⟨m, e1, _, w1⟩ := DataW.trod_int Tryd.underlying3 f1'
          obtain ⟨po, pc, pl, e2, hp⟩ := ih n' (by omega) _ _ f2'
          have q0 := hat 0 (by decide)
          have q1 := hat 1 (by decide)
          have q2 := hat 2 (by decide)
          simp only [List.cons.injEq, and_true] at e0 e1 e2
          subst e0 e1 e2
          refine ⟨.mk k m pl, ?_⟩
          unfold Rw.At
          exact ⟨q0, q1, wf_I64 _ w0, wf_I64 _ w1, po, pc, q2, hp.1, hp.2⟩
      obtain ⟨l, hl, hp⟩ := list_of _ len one
      subst hl
      exact ⟨some a, cap, l, rfl, by omega, .inr ⟨a, rfl, Rws.At.of_get l a hp⟩⟩
set_option maxRecDepth 100000 in
/-- A slice of raw data among the arguments. -/
theorem open_raws {v : Value} {d : DataW H} {p : List MemPlace} (hv : ∃ a n c, v = .slice a n c) (h : DataW.Trod enc Tryd.prog w base spare held 22 v d p) :
    ∃ ao cap, ∃ l : List Rw, v = .slice ao l.length cap ∧ RsAt w ao l := by
  obtain ⟨a, n, c, rfl⟩ := hv
  obtain ⟨fuel, hf⟩ := h
  obtain ⟨ao, cap, l, e, hl⟩ := raws_open fuel fuel (Nat.le_refl _) _ _ hf
  simp [Value.cells] at e
  obtain ⟨rfl, rfl, rfl⟩ := e
  exact ⟨_, _, l, rfl, hl⟩
end

theorem cnts_take (l : List Rw) (j : Nat) (h : j < l.length) : Rw.cnts (l.take (j + 1)) = Rw.cnts (l.take j) + l[j].cnt := by
  have hs : ∀ (a b : List Rw), Rw.cnts (a ++ b) = Rw.cnts a + Rw.cnts b := by
    intro a b
    induction a with
    | nil => simp [Rw.cnts]
    | cons d a ih => simp only [List.cons_append, Rw.cnts, ih]; omega
  rw [List.take_succ_eq_append_getElem h, hs]
  simp [Rw.cnts]
/-- A count: what it is where it is small. -/
def RetSz (l : List Rw) (deep : Nat) (w : World) (e : Ending) (w' : World) : Prop :=
  ∃ r : Nat, e = .returned (.int .i64 r) ∧ r ≤ 1000 + 41 * (13 - deep) ∧ (r ≤ 40 → Rw.cnts l = r) ∧ w = w'
def ZInv (l : List Rw) (deep : Nat) (nv iv : Value) : Prop :=
  ∃ j m : Nat, j ≤ l.length ∧ iv = .int .i64 j ∧ nv = .int .i64 m ∧ m ≤ 1000 + 41 * (13 - deep) ∧ (m ≤ 40 → Rw.cnts (l.take j) = m)

set_option maxHeartbeats 2000000 in
theorem rsize (N : Nat) : ∀ (l : List Rw), Rw.cnts l ≤ N → ∀ (deep : Nat), deep ≤ 13 → ∀ (ao : Option Addr) (cap : Nat) (w : World), RsAt w ao l →
    Calls Tryd.prog 29 #[.slice ao l.length cap, .int .i64 (deep : Int)] w (RetSz l deep w) := by
  have base : ∀ (l : List Rw) (ao : Option Addr) (cap : Nat) (w : World), Calls Tryd.prog 29 #[.slice ao l.length cap, .int .i64 ((13 : Nat) : Int)] w (RetSz l 13 w) := by
    intro l ao cap w
    go_enter Tryd.func29, Tryd.ntmps29
    go_wp2
    go_ret
    exact ⟨1000, rfl, by omega, by omega, rfl⟩
  induction N with
  | zero =>
    intro l hl deep hd ao cap w hR
    have hln := length_cnts l
    have h0 : l.length = 0 := by omega
    by_cases h13 : deep = 13
    · subst h13; exact base l ao cap w
    · have q0 : decide ((12 : Int) < (deep : Int)) = false := decide_eq_false (by omega)
      have HC : Hid (Rw.cnts l = 0) := by show _ = _; omega
      rw [h0]
      clear base hR hln h0 hl
      go_enter Tryd.func29, Tryd.ntmps29
      go_wp2_with fail
      go_loop [5, 6] (fun nv iv => nv = .int .i64 0 ∧ iv = .int .i64 0) (fun _ _ => 0)
      case atStart => exact ⟨rfl, rfl⟩
      case round =>
        obtain ⟨rfl, rfl⟩ := hrel
        go_wp2_with fail
        go_ret
        exact ⟨0, rfl, by omega, fun _ => HC.out, rfl⟩
  | succ N ih =>
    intro l hl deep hd ao cap w hR
    have hlm := hR.1
    by_cases h13 : deep = 13
    · subst h13; exact base l ao cap w
    · have q0 : decide ((12 : Int) < (deep : Int)) = false := decide_eq_false (by omega)
      have IH := Lib.hid ih
      have HR := Lib.hid hR
      unfold maxLen at hlm
      clear base ih hR
      go_enter Tryd.func29, Tryd.ntmps29
      go_wp2_with fail
      go_loop [5, 6] (fun nv iv => ZInv l deep nv iv) (fun _ iv => l.length - (intOf iv).toNat)
      case atStart => exact ⟨0, 0, Nat.zero_le _, rfl, rfl, by omega, fun _ => by simp [Rw.cnts]⟩
      case round =>
        obtain ⟨j, m, hj, rfl, rfl, hm1, hm2⟩ := hrel
        have HM := Lib.hid hm2
        clear hm2
        by_cases hlt : j < l.length
        · have q1 : decide ((j : Int) < (l.length : Int)) = true := decide_eq_true (by omega)
          by_cases h40 : m ≤ 40
          · have q2 : decide ((m : Int) ≤ 40) = true := decide_eq_true (by omega)
            obtain ⟨b, k, n, po, pl, pc, rfl, hlj, c0, c1, c2, i1, i2, hpl⟩ := HR.out.get j hlt
            have HP := Lib.hid hpl
            have hcj := cnts_get l j hlt
            have hct := cnts_take l j hlt
            rw [hlj] at hcj hct
            simp only [Rw.cnt] at hcj hct
            have HT := Lib.hid hct
            clear hpl hlj hct c0 c1
            go_wp2_with fail
            refine (IH.out pl (by omega) (deep + 1) (by omega) po pc w HP.out).mono ?_
            rintro e w' ⟨r, rfl, hr1, hr2, rfl⟩
            have HN := Lib.hid (show m + 1 + r ≤ 40 → Rw.cnts (l.take (j + 1)) = m + 1 + r by
              intro h
              have h1 := HM.out (by omega)
              have h2 := hr2 (by omega)
              rw [HT.out, h1, h2]; omega)
            have hb : m + 1 + r ≤ 1000 + 41 * (13 - deep) := by omega
            have hsm : m + 1 + r ≤ 100000 := by omega
            clear hr1 hr2
            go_wp2_with fail
            go_round
            case rel => exact ⟨j + 1, m + 1 + r, by omega, by go_num, by go_num, hb, HN.out⟩
            case measure => simp [intOf]; omega
          · have q2 : decide ((m : Int) ≤ 40) = false := decide_eq_false (by omega)
            go_wp2_with fail
            go_ret
            exact ⟨m, rfl, hm1, fun h => absurd h (by omega), rfl⟩
        · obtain rfl : j = l.length := by omega
          have HE : Hid (m ≤ 40 → Rw.cnts l = m) := by
            have h := HM.out
            have e : l.take l.length = l := List.take_length
            rw [e] at h; exact h
          clear hlt
          go_wp2_with fail
          go_ret
          exact ⟨m, rfl, hm1, HE.out, rfl⟩

/-- Whether they are few. -/
def RetFew (l : List Rw) (w : World) (e : Ending) (w' : World) : Prop := ∃ r : Bool, e = .returned (.bool r) ∧ (r = true → Rw.cnts l ≤ 40) ∧ w = w'
theorem few_any (l : List Rw) (ao : Option Addr) (cap : Nat) (w : World) (hR : RsAt w ao l) : Calls Tryd.prog 11 #[.slice ao l.length cap] w (RetFew l w) := by
  have HR := Lib.hid (rsize _ l (Nat.le_refl _) 0 (by decide) ao cap w hR)
  clear hR
  go_enter Tryd.func11, Tryd.ntmps11
  go_wp2_with fail
  refine HR.out.mono ?_
  rintro e w' ⟨r, rfl, hr1, hr2, rfl⟩
  have HN := Lib.hid hr2
  clear hr1 hr2
  by_cases h40 : r ≤ 40
  · have q : decide ((r : Int) ≤ 40) = true := decide_eq_true (by omega)
    go_wp2
    go_ret
    exact ⟨true, rfl, fun _ => by have := HN.out h40; omega, rfl⟩
  · have q : decide ((r : Int) ≤ 40) = false := decide_eq_false (by omega)
    go_wp2
    go_ret
    exact ⟨false, rfl, (fun h => by cases h), rfl⟩
end Go.Proofs.YtmcgocbkjdacaaaDoor
