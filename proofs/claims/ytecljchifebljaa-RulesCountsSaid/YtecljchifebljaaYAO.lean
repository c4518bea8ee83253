/- Rules: the program's tableOf. -/
import Derived.Test.YtecljchifebljaaYAM
import Derived.Test.YtecljchifebljaaYAC
set_option linter.unusedVariables false
set_option linter.unusedSimpArgs false
namespace Go.Proofs.Ytecljchifebljaa
open Go Go.RowKit
open Go.WideMaps (KeyLaw)
theorem run_makeMap76 (n : Nat) (w : World) : (Instr.makeMap 76 (some (.int .i64 (n : Int)))).run Try.prog w = .ok (.map (some w.heap.size)) (w.alloc (.map #[] 0)) := by
 simp [Instr.makeMap, run_underlying Try.underlying76, asInt, asIntOf]
/-- A name's key. -/
def keyD (d : Dt) : Value := .agg (keyV d)
def keysB (bs : List Bd) : List Value := bs.map fun b => keyD b.name
theorem lastM_mem {ms : List Int} (h : ms ≠ []) : lastM ms ∈ ms := by
 unfold lastM
 rw [List.getLastD_eq_getLast?, List.getLast?_eq_some_getLast h]
 exact List.getLast_mem h
theorem keyD_ok {d : Dt} (h : d.wf) (hm : d.marks.length ≤ 1000000000) : ∃ kl, keyOf Try.prog 120 (keyD d) = some kl := by
 refine key_ok d.text d.marks.length (lastM d.marks) h.short (WalkArith.wf_i64 (by omega)) ?_
 by_cases e : d.marks = []
 ·rw [e]; rfl
 ·exact h.nums _ (lastM_mem e)
theorem wpList_entry {ops : Array Oper} {rest : List Oper} {o : Oper} {a : Act} {Q : Exit → Act → World → Prop} (w : World) (hg : o.guard = none) (m x : Operand)
  (hop : o.op = Op.mapEntry 76 m x) (base b : Nat) (ks : List Value) (hm : a.eval m = .map (some b)) (hown : TbAt w base b ks) (key : Value) (kl : Lit) (hx : a.eval x = key) (hkey : keyOf Try.prog 120 key = some kl)
  (hK : ∀ (v : Value) (zs : List Nat) (st : Nat) (w1 : World), w.grownBy w1 (some b) → w1.heap.size = w.heap.size → OwnZ w1 base v zs → Spots ks key zs →
   Hid (∀ (w2 : World) (v' : Value), w1.grownBy w2 v.ownBlock → OwnZ w2 base v' (zs ++ [ks.length]) → (v'.ownBlock = v.ownBlock ∨ ∃ g, v'.ownBlock = some g ∧ w1.heap.size ≤ g) →
    ∃ w3, (Instr.entryStore 76 (.map (some b)) (goInt st) v').run Try.prog w2 = .ok () w3 ∧ TbAt w3 base b (ks ++ [key]) ∧ w2.grownBy w3 (some b)) →
   wpList Try.prog ops Q rest (a.put o.dst (.tuple #[v, goInt st])) w1) :
  wpList Try.prog ops Q (o :: rest) a w := by
 refine wpList_plain hg fun K' hK' => ?_
 obtain ⟨v, zs, st, w1, hrun, h1, h2, h3, h4, h5⟩ := run_entry hown hkey
 unfold Oper.wp
 simp [execOp, hop, hm, hx, hrun, Result.andThen]
 exact hK' _ _ (hK v zs st w1 h1 h2 h3 h4 (Lib.hid h5))
theorem wpList_entryStore {ops : Array Oper} {rest : List Oper} {o : Oper} {a : Act} {Q : Exit → Act → World → Prop} (w : World) (hg : o.guard = none) (m s v : Operand)
  (hop : o.op = Op.entryStore 76 m s v) (b : Nat) (st : Nat) (v' : Value) (T : World → Prop) (hm : a.eval m = .map (some b)) (hs : a.eval s = goInt st) (hv : a.eval v = v')
  (hrun : ∃ w3, (Instr.entryStore 76 (.map (some b)) (goInt st) v').run Try.prog w = .ok () w3 ∧ T w3)
  (hK : ∀ w3, T w3 → wpList Try.prog ops Q rest (a.put o.dst undef) w3) : wpList Try.prog ops Q (o :: rest) a w := by
 refine wpList_plain hg fun K' hK' => ?_
 obtain ⟨w3, hrun, hT⟩ := hrun
 unfold Oper.wp
 simp [execOp, hop, hm, hs, hv, hrun, Result.andThen]
 exact hK' _ _ (hK w3 hT)
end Go.Proofs.Ytecljchifebljaa
namespace Go.Proofs.Ytecljchifebljaa
open Go.RowKit
theorem info60 : (Try.prog.info? 60).map (·.size) = some 12 := by kernel_rfl
end Go.Proofs.Ytecljchifebljaa
