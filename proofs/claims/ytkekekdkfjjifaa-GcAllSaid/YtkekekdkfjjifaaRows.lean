/-
  No cell of these rows narrows 'for every input' (looked for: loops, veiled, ifaces, maps, wideKeys, modest, calm, conditions, laid).
  DERIVED. THE GIVEN ROWS OF THIS SEAT. 9 by the template 'for every input the law returns true; each argument reads behind the call as it read before'; 0 by the template 'total and deterministic' (their statements: YtkekekdkfjjifaaTotals.lean).
  GIVEN WITH THE SEED: the statements are not yours to turn. If you find one false, say at which input.
  Laid BY PROGRAM, IN A SANDBOX (cutbox-rows.mjs): the forced cells as the released guide's own fill.sh prints them over the translation 57b30323cf3318e0… (all of the seat's roots in one cut). By AI agents, Wed Nov 11 2026. No macro, syntax, notation, axiom, sorry.
-/
import Derived.Test.YtkekekdkfjjifaaChecked
import GoSem.Claim
import GoSem.ClaimJoined
import GoSem.ClaimMapViews
import Derived.JoinedTies
import Derived.KernelRfl
namespace Go.Proofs.Ytkekekdkfjjifaa
/- THE CELL 'sum', in the pinned program and in every row, IS THE sha256 OF THE DUMP (.gsa) THAT YtkekekdkfjjifaaProg.lean LOADS. Nothing in Lean hashes anything: it is a label: what it is worth is what the hold of that sum in a sandbox is worth. -/
noncomputable def Try.pinned : Pinned := { name := "ytkekekdkfjjifaa", sum := "57b30323cf3318e0f10a7cc7eadf2091fa804195049a7af2df0c98cadec54680", checked := Try.checked }
namespace Rows
def none {H : Type} : Left H := { results := [], args := [] }

/-- 'thunklaw12.GcAll': WHATEVER THE INPUT: true; the input reads as it did. -/
def gcAllSpec : ChangeSpec := { name := "gcAll", fn := fun _ => fun
  | [d1, d2, d3, d4] => { results := [.lit (.bool true)], args := [d1, d2, d3, d4] }
  | _ => none }
def gcAllRow : OpenClaim := { program := "ytkekekdkfjjifaa", sum := "57b30323cf3318e0f10a7cc7eadf2091fa804195049a7af2df0c98cadec54680", func := "thunk/thunklaw12.GcAll", spec := "gcAll", unfollowed := true, recurses := true, apart := false }
def GcAllSaid : Prop := gcAllRow.holds Try.pinned (OpenSpec.ofChange gcAllSpec)

/-- ITS FALSE NEIGHBOUR: 'it returns false'. Refute it at one input. -/
def gcAllWrong : ChangeSpec := { name := "gcAll", fn := fun _ => fun
  | [d1, d2, d3, d4] => { results := [.lit (.bool false)], args := [d1, d2, d3, d4] }
  | _ => none }
def GcAllWrongFalsely : Prop := gcAllRow.holds Try.pinned (OpenSpec.ofChange gcAllWrong)

/-- 'thunklaw12.GcAgain': WHATEVER THE INPUT: true; the input reads as it did. -/
def gcAgainSpec : ChangeSpec := { name := "gcAgain", fn := fun _ => fun
  | [d1, d2] => { results := [.lit (.bool true)], args := [d1, d2] }
  | _ => none }
def gcAgainRow : OpenClaim := { program := "ytkekekdkfjjifaa", sum := "57b30323cf3318e0f10a7cc7eadf2091fa804195049a7af2df0c98cadec54680", func := "thunk/thunklaw12.GcAgain", spec := "gcAgain", unfollowed := true, recurses := true, apart := false }
def GcAgainSaid : Prop := gcAgainRow.holds Try.pinned (OpenSpec.ofChange gcAgainSpec)

/-- ITS FALSE NEIGHBOUR: 'it returns false'. Refute it at one input. -/
def gcAgainWrong : ChangeSpec := { name := "gcAgain", fn := fun _ => fun
  | [d1, d2] => { results := [.lit (.bool false)], args := [d1, d2] }
  | _ => none }
def GcAgainWrongFalsely : Prop := gcAgainRow.holds Try.pinned (OpenSpec.ofChange gcAgainWrong)

/-- 'thunklaw12.GcReach': WHATEVER THE INPUT: true; the input reads as it did. -/
def gcReachSpec : ChangeSpec := { name := "gcReach", fn := fun _ => fun
  | [d1, d2, d3] => { results := [.lit (.bool true)], args := [d1, d2, d3] }
  | _ => none }
def gcReachRow : OpenClaim := { program := "ytkekekdkfjjifaa", sum := "57b30323cf3318e0f10a7cc7eadf2091fa804195049a7af2df0c98cadec54680", func := "thunk/thunklaw12.GcReach", spec := "gcReach", unfollowed := true, recurses := true, apart := false }
def GcReachSaid : Prop := gcReachRow.holds Try.pinned (OpenSpec.ofChange gcReachSpec)

/-- ITS FALSE NEIGHBOUR: 'it returns false'. Refute it at one input. -/
def gcReachWrong : ChangeSpec := { name := "gcReach", fn := fun _ => fun
  | [d1, d2, d3] => { results := [.lit (.bool false)], args := [d1, d2, d3] }
  | _ => none }
def GcReachWrongFalsely : Prop := gcReachRow.holds Try.pinned (OpenSpec.ofChange gcReachWrong)

/-- 'thunklaw12.GcSame': WHATEVER THE INPUT: true; the input reads as it did. -/
def gcSameSpec : ChangeSpec := { name := "gcSame", fn := fun _ => fun
  | [d1, d2] => { results := [.lit (.bool true)], args := [d1, d2] }
  | _ => none }
def gcSameRow : OpenClaim := { program := "ytkekekdkfjjifaa", sum := "57b30323cf3318e0f10a7cc7eadf2091fa804195049a7af2df0c98cadec54680", func := "thunk/thunklaw12.GcSame", spec := "gcSame", unfollowed := true, recurses := true, apart := false }
def GcSameSaid : Prop := gcSameRow.holds Try.pinned (OpenSpec.ofChange gcSameSpec)

/-- ITS FALSE NEIGHBOUR: 'it returns false'. Refute it at one input. -/
def gcSameWrong : ChangeSpec := { name := "gcSame", fn := fun _ => fun
  | [d1, d2] => { results := [.lit (.bool false)], args := [d1, d2] }
  | _ => none }
def GcSameWrongFalsely : Prop := gcSameRow.holds Try.pinned (OpenSpec.ofChange gcSameWrong)

/-- 'thunklaw12.GcSelectors': WHATEVER THE INPUT: true; the input reads as it did. -/
def gcSelectorsSpec : ChangeSpec := { name := "gcSelectors", fn := fun _ => fun
  | [d1, d2, d3, d4] => { results := [.lit (.bool true)], args := [d1, d2, d3, d4] }
  | _ => none }
def gcSelectorsRow : OpenClaim := { program := "ytkekekdkfjjifaa", sum := "57b30323cf3318e0f10a7cc7eadf2091fa804195049a7af2df0c98cadec54680", func := "thunk/thunklaw12.GcSelectors", spec := "gcSelectors", unfollowed := true, recurses := true, apart := false }
def GcSelectorsSaid : Prop := gcSelectorsRow.holds Try.pinned (OpenSpec.ofChange gcSelectorsSpec)

/-- ITS FALSE NEIGHBOUR: 'it returns false'. Refute it at one input. -/
def gcSelectorsWrong : ChangeSpec := { name := "gcSelectors", fn := fun _ => fun
  | [d1, d2, d3, d4] => { results := [.lit (.bool false)], args := [d1, d2, d3, d4] }
  | _ => none }
def GcSelectorsWrongFalsely : Prop := gcSelectorsRow.holds Try.pinned (OpenSpec.ofChange gcSelectorsWrong)

/-- 'thunklaw12.GcLeak': WHATEVER THE INPUT: true; the input reads as it did. -/
def gcLeakSpec : ChangeSpec := { name := "gcLeak", fn := fun _ => fun
  | [d1, d2] => { results := [.lit (.bool true)], args := [d1, d2] }
  | _ => none }
def gcLeakRow : OpenClaim := { program := "ytkekekdkfjjifaa", sum := "57b30323cf3318e0f10a7cc7eadf2091fa804195049a7af2df0c98cadec54680", func := "thunk/thunklaw12.GcLeak", spec := "gcLeak", unfollowed := true, recurses := true, apart := false }
def GcLeakSaid : Prop := gcLeakRow.holds Try.pinned (OpenSpec.ofChange gcLeakSpec)

/-- ITS FALSE NEIGHBOUR: 'it returns false'. Refute it at one input. -/
def gcLeakWrong : ChangeSpec := { name := "gcLeak", fn := fun _ => fun
  | [d1, d2] => { results := [.lit (.bool false)], args := [d1, d2] }
  | _ => none }
def GcLeakWrongFalsely : Prop := gcLeakRow.holds Try.pinned (OpenSpec.ofChange gcLeakWrong)

/-- 'thunklaw12.GcRoots': WHATEVER THE INPUT: true; the input reads as it did. -/
def gcRootsSpec : ChangeSpec := { name := "gcRoots", fn := fun _ => fun
  | [d1, d2] => { results := [.lit (.bool true)], args := [d1, d2] }
  | _ => none }
def gcRootsRow : OpenClaim := { program := "ytkekekdkfjjifaa", sum := "57b30323cf3318e0f10a7cc7eadf2091fa804195049a7af2df0c98cadec54680", func := "thunk/thunklaw12.GcRoots", spec := "gcRoots", unfollowed := true, recurses := true, apart := false }
def GcRootsSaid : Prop := gcRootsRow.holds Try.pinned (OpenSpec.ofChange gcRootsSpec)

/-- ITS FALSE NEIGHBOUR: 'it returns false'. Refute it at one input. -/
def gcRootsWrong : ChangeSpec := { name := "gcRoots", fn := fun _ => fun
  | [d1, d2] => { results := [.lit (.bool false)], args := [d1, d2] }
  | _ => none }
def GcRootsWrongFalsely : Prop := gcRootsRow.holds Try.pinned (OpenSpec.ofChange gcRootsWrong)

/-- 'thunklaw12.GcRings': WHATEVER THE INPUT: true; the input reads as it did. -/
def gcRingsSpec : ChangeSpec := { name := "gcRings", fn := fun _ => fun
  | [d1, d2, d3] => { results := [.lit (.bool true)], args := [d1, d2, d3] }
  | _ => none }
def gcRingsRow : OpenClaim := { program := "ytkekekdkfjjifaa", sum := "57b30323cf3318e0f10a7cc7eadf2091fa804195049a7af2df0c98cadec54680", func := "thunk/thunklaw12.GcRings", spec := "gcRings", unfollowed := true, recurses := true, apart := false }
def GcRingsSaid : Prop := gcRingsRow.holds Try.pinned (OpenSpec.ofChange gcRingsSpec)

/-- ITS FALSE NEIGHBOUR: 'it returns false'. Refute it at one input. -/
def gcRingsWrong : ChangeSpec := { name := "gcRings", fn := fun _ => fun
  | [d1, d2, d3] => { results := [.lit (.bool false)], args := [d1, d2, d3] }
  | _ => none }
def GcRingsWrongFalsely : Prop := gcRingsRow.holds Try.pinned (OpenSpec.ofChange gcRingsWrong)

/-- 'thunklaw12.GcDeeper': WHATEVER THE INPUT: true; the input reads as it did. -/
def gcDeeperSpec : ChangeSpec := { name := "gcDeeper", fn := fun _ => fun
  | [d1, d2, d3] => { results := [.lit (.bool true)], args := [d1, d2, d3] }
  | _ => none }
def gcDeeperRow : OpenClaim := { program := "ytkekekdkfjjifaa", sum := "57b30323cf3318e0f10a7cc7eadf2091fa804195049a7af2df0c98cadec54680", func := "thunk/thunklaw12.GcDeeper", spec := "gcDeeper", unfollowed := true, recurses := true, apart := false }
def GcDeeperSaid : Prop := gcDeeperRow.holds Try.pinned (OpenSpec.ofChange gcDeeperSpec)

/-- ITS FALSE NEIGHBOUR: 'it returns false'. Refute it at one input. -/
def gcDeeperWrong : ChangeSpec := { name := "gcDeeper", fn := fun _ => fun
  | [d1, d2, d3] => { results := [.lit (.bool false)], args := [d1, d2, d3] }
  | _ => none }
def GcDeeperWrongFalsely : Prop := gcDeeperRow.holds Try.pinned (OpenSpec.ofChange gcDeeperWrong)

/- THE SECOND FORM. 'bulk': how many values and letters a reading holds, each counted each time it is reached (what is shared counts as often as it is met; a slice's spare places count too). A statement '..UptoSaid' is the law's where the arguments, and the package variables that the reading takes, are together of bulk at most 1048576: NARROWER than '..Said'. Prove '..Said' where nothing that the law and all that it calls make is longer than what came in: it says more and counts as full. Else prove '..UptoSaid'. A law counts once. -/
mutual
def uptoBulk {H : Type} : DataW H → Nat
  | .lit (.string bytes) => bytes.length + 1
  | .lit _ => 1
  | .nil => 1
  | .ptr d => uptoBulk d + 1
  | .slice elems spare => uptoBulkAll elems + uptoBulkAll spare + 1
  | .agg parts => uptoBulkAll parts + 1
  | .iface _ d => uptoBulk d + 1
  | .map entries => uptoBulkEntries entries + 1
  | .held _ => 1
def uptoBulkAll {H : Type} : List (DataW H) → Nat
  | [] => 0
  | d :: r => uptoBulk d + uptoBulkAll r
def uptoBulkEntries {H : Type} : List (Lit × DataW H) → Nat
  | [] => 0
  | x :: r => uptoBulkEntry x + uptoBulkEntries r
def uptoBulkEntry {H : Type} : Lit × DataW H → Nat
  | (.string bytes, d) => bytes.length + uptoBulk d + 1
  | (_, d) => uptoBulk d + 1
 end
def uptoSmall : (H : Type) → List (DataW H) → Bool := fun _ ds => decide (uptoBulkAll ds ≤ 1048576)
def OpenSpec.upto (s : _root_.Go.ChangeSpec) : _root_.Go.OpenSpec := { _root_.Go.OpenSpec.ofChange s with cond := some uptoSmall }

/-- 'thunklaw12.GcAll', WHERE WHAT IT READS IS OF BULK AT MOST 1048576: true; the input reads as it did. -/
def gcAllUptoRow : OpenClaim := { program := "ytkekekdkfjjifaa", sum := "57b30323cf3318e0f10a7cc7eadf2091fa804195049a7af2df0c98cadec54680", func := "thunk/thunklaw12.GcAll", spec := "gcAll", unfollowed := true, recurses := true, apart := false, narrowed := true }
def GcAllUptoSaid : Prop := gcAllUptoRow.holds Try.pinned (OpenSpec.upto gcAllSpec)

/-- 'thunklaw12.GcAgain', WHERE WHAT IT READS IS OF BULK AT MOST 1048576: true; the input reads as it did. -/
def gcAgainUptoRow : OpenClaim := { program := "ytkekekdkfjjifaa", sum := "57b30323cf3318e0f10a7cc7eadf2091fa804195049a7af2df0c98cadec54680", func := "thunk/thunklaw12.GcAgain", spec := "gcAgain", unfollowed := true, recurses := true, apart := false, narrowed := true }
def GcAgainUptoSaid : Prop := gcAgainUptoRow.holds Try.pinned (OpenSpec.upto gcAgainSpec)

/-- 'thunklaw12.GcReach', WHERE WHAT IT READS IS OF BULK AT MOST 1048576: true; the input reads as it did. -/
def gcReachUptoRow : OpenClaim := { program := "ytkekekdkfjjifaa", sum := "57b30323cf3318e0f10a7cc7eadf2091fa804195049a7af2df0c98cadec54680", func := "thunk/thunklaw12.GcReach", spec := "gcReach", unfollowed := true, recurses := true, apart := false, narrowed := true }
def GcReachUptoSaid : Prop := gcReachUptoRow.holds Try.pinned (OpenSpec.upto gcReachSpec)

/-- 'thunklaw12.GcSame', WHERE WHAT IT READS IS OF BULK AT MOST 1048576: true; the input reads as it did. -/
def gcSameUptoRow : OpenClaim := { program := "ytkekekdkfjjifaa", sum := "57b30323cf3318e0f10a7cc7eadf2091fa804195049a7af2df0c98cadec54680", func := "thunk/thunklaw12.GcSame", spec := "gcSame", unfollowed := true, recurses := true, apart := false, narrowed := true }
def GcSameUptoSaid : Prop := gcSameUptoRow.holds Try.pinned (OpenSpec.upto gcSameSpec)

/-- 'thunklaw12.GcSelectors', WHERE WHAT IT READS IS OF BULK AT MOST 1048576: true; the input reads as it did. -/
def gcSelectorsUptoRow : OpenClaim := { program := "ytkekekdkfjjifaa", sum := "57b30323cf3318e0f10a7cc7eadf2091fa804195049a7af2df0c98cadec54680", func := "thunk/thunklaw12.GcSelectors", spec := "gcSelectors", unfollowed := true, recurses := true, apart := false, narrowed := true }
def GcSelectorsUptoSaid : Prop := gcSelectorsUptoRow.holds Try.pinned (OpenSpec.upto gcSelectorsSpec)

/-- 'thunklaw12.GcLeak', WHERE WHAT IT READS IS OF BULK AT MOST 1048576: true; the input reads as it did. -/
def gcLeakUptoRow : OpenClaim := { program := "ytkekekdkfjjifaa", sum := "57b30323cf3318e0f10a7cc7eadf2091fa804195049a7af2df0c98cadec54680", func := "thunk/thunklaw12.GcLeak", spec := "gcLeak", unfollowed := true, recurses := true, apart := false, narrowed := true }
def GcLeakUptoSaid : Prop := gcLeakUptoRow.holds Try.pinned (OpenSpec.upto gcLeakSpec)

/-- 'thunklaw12.GcRoots', WHERE WHAT IT READS IS OF BULK AT MOST 1048576: true; the input reads as it did. -/
def gcRootsUptoRow : OpenClaim := { program := "ytkekekdkfjjifaa", sum := "57b30323cf3318e0f10a7cc7eadf2091fa804195049a7af2df0c98cadec54680", func := "thunk/thunklaw12.GcRoots", spec := "gcRoots", unfollowed := true, recurses := true, apart := false, narrowed := true }
def GcRootsUptoSaid : Prop := gcRootsUptoRow.holds Try.pinned (OpenSpec.upto gcRootsSpec)

/-- 'thunklaw12.GcRings', WHERE WHAT IT READS IS OF BULK AT MOST 1048576: true; the input reads as it did. -/
def gcRingsUptoRow : OpenClaim := { program := "ytkekekdkfjjifaa", sum := "57b30323cf3318e0f10a7cc7eadf2091fa804195049a7af2df0c98cadec54680", func := "thunk/thunklaw12.GcRings", spec := "gcRings", unfollowed := true, recurses := true, apart := false, narrowed := true }
def GcRingsUptoSaid : Prop := gcRingsUptoRow.holds Try.pinned (OpenSpec.upto gcRingsSpec)

/-- 'thunklaw12.GcDeeper', WHERE WHAT IT READS IS OF BULK AT MOST 1048576: true; the input reads as it did. -/
def gcDeeperUptoRow : OpenClaim := { program := "ytkekekdkfjjifaa", sum := "57b30323cf3318e0f10a7cc7eadf2091fa804195049a7af2df0c98cadec54680", func := "thunk/thunklaw12.GcDeeper", spec := "gcDeeper", unfollowed := true, recurses := true, apart := false, narrowed := true }
def GcDeeperUptoSaid : Prop := gcDeeperUptoRow.holds Try.pinned (OpenSpec.upto gcDeeperSpec)

end Rows
end Go.Proofs.Ytkekekdkfjjifaa
