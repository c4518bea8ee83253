/-
  NARROWER THAN 'FOR EVERY INPUT', by the rows' own cells (each row's printed sentence says how): CoreRight: loops · CoreAll: loops · CoreFree: loops · CoreSize: loops · CoreBinds: loops.
  DERIVED. THE GIVEN ROWS OF THIS SEAT. 8 by the template 'for every input the law returns true; each argument reads behind the call as it read before'; 0 by the template 'total and deterministic' (their statements: YtcalbcllmmoldaaTotals.lean).
  GIVEN WITH THE SEED: the statements are not yours to turn. If you find one false, say at which input.
  Laid BY PROGRAM, IN A SANDBOX (cutbox-rows.mjs): the forced cells as the released guide's own fill.sh prints them over the translation f167739460bb63e6… (all of the seat's roots in one cut). By AI agents, Wed Nov 11 2026. No macro, syntax, notation, axiom, sorry.
-/
import Derived.Test.YtcalbcllmmoldaaChecked
import GoSem.Claim
import GoSem.ClaimJoined
import GoSem.ClaimMapViews
import Derived.JoinedTies
import Derived.KernelRfl
namespace Go.Proofs.Ytcalbcllmmoldaa
/- THE CELL 'sum', in the pinned program and in every row, IS THE sha256 OF THE DUMP (.gsa) THAT YtcalbcllmmoldaaProg.lean LOADS. Nothing in Lean hashes anything: it is a label: what it is worth is what the hold of that sum in a sandbox is worth. -/
noncomputable def Try.pinned : Pinned := { name := "ytcalbcllmmoldaa", sum := "f167739460bb63e69a852d91f7f3eb785f8efcb139666eaad7cfd677a7701b43", checked := Try.checked }
namespace Rows
def none {H : Type} : Left H := { results := [], args := [] }

/-- 'thunklaw5.CoreRight': WHATEVER THE INPUT: true; the input reads as it did. -/
def coreRightSpec : ChangeSpec := { name := "coreRight", fn := fun _ => fun
  | [d1, d2, d3, d4] => { results := [.lit (.bool true)], args := [d1, d2, d3, d4] }
  | _ => none }
def coreRightRow : OpenClaim := { program := "ytcalbcllmmoldaa", sum := "f167739460bb63e69a852d91f7f3eb785f8efcb139666eaad7cfd677a7701b43", func := "thunk/thunklaw5.CoreRight", spec := "coreRight", inPlace := ["internal/abi.NoEscape", "internal/bytealg.MakeNoZero"], unfollowed := true, recurses := true, loops := true, apart := false }
def CoreRightSaid : Prop := coreRightRow.holds Try.pinned (OpenSpec.ofChange coreRightSpec)

/-- ITS FALSE NEIGHBOUR: 'it returns false'. Refute it at one input. -/
def coreRightWrong : ChangeSpec := { name := "coreRight", fn := fun _ => fun
  | [d1, d2, d3, d4] => { results := [.lit (.bool false)], args := [d1, d2, d3, d4] }
  | _ => none }
def CoreRightWrongFalsely : Prop := coreRightRow.holds Try.pinned (OpenSpec.ofChange coreRightWrong)

/-- 'thunklaw5.CoreAll': WHATEVER THE INPUT: true; the input reads as it did. -/
def coreAllSpec : ChangeSpec := { name := "coreAll", fn := fun _ => fun
  | [d1, d2] => { results := [.lit (.bool true)], args := [d1, d2] }
  | _ => none }
def coreAllRow : OpenClaim := { program := "ytcalbcllmmoldaa", sum := "f167739460bb63e69a852d91f7f3eb785f8efcb139666eaad7cfd677a7701b43", func := "thunk/thunklaw5.CoreAll", spec := "coreAll", inPlace := ["internal/abi.NoEscape", "internal/bytealg.MakeNoZero"], unfollowed := true, recurses := true, loops := true, apart := false }
def CoreAllSaid : Prop := coreAllRow.holds Try.pinned (OpenSpec.ofChange coreAllSpec)

/-- ITS FALSE NEIGHBOUR: 'it returns false'. Refute it at one input. -/
def coreAllWrong : ChangeSpec := { name := "coreAll", fn := fun _ => fun
  | [d1, d2] => { results := [.lit (.bool false)], args := [d1, d2] }
  | _ => none }
def CoreAllWrongFalsely : Prop := coreAllRow.holds Try.pinned (OpenSpec.ofChange coreAllWrong)

/-- 'thunklaw5.CoreFree': WHATEVER THE INPUT: true; the input reads as it did. -/
def coreFreeSpec : ChangeSpec := { name := "coreFree", fn := fun _ => fun
  | [d1, d2] => { results := [.lit (.bool true)], args := [d1, d2] }
  | _ => none }
def coreFreeRow : OpenClaim := { program := "ytcalbcllmmoldaa", sum := "f167739460bb63e69a852d91f7f3eb785f8efcb139666eaad7cfd677a7701b43", func := "thunk/thunklaw5.CoreFree", spec := "coreFree", inPlace := ["internal/abi.NoEscape", "internal/bytealg.MakeNoZero"], unfollowed := true, recurses := true, loops := true, apart := false }
def CoreFreeSaid : Prop := coreFreeRow.holds Try.pinned (OpenSpec.ofChange coreFreeSpec)

/-- ITS FALSE NEIGHBOUR: 'it returns false'. Refute it at one input. -/
def coreFreeWrong : ChangeSpec := { name := "coreFree", fn := fun _ => fun
  | [d1, d2] => { results := [.lit (.bool false)], args := [d1, d2] }
  | _ => none }
def CoreFreeWrongFalsely : Prop := coreFreeRow.holds Try.pinned (OpenSpec.ofChange coreFreeWrong)

/-- 'thunklaw5.CoreTable': WHATEVER THE INPUT: true; the input reads as it did. -/
def coreTableSpec : ChangeSpec := { name := "coreTable", fn := fun _ => fun
  | [d] => { results := [.lit (.bool true)], args := [d] }
  | _ => none }
def coreTableRow : OpenClaim := { program := "ytcalbcllmmoldaa", sum := "f167739460bb63e69a852d91f7f3eb785f8efcb139666eaad7cfd677a7701b43", func := "thunk/thunklaw5.CoreTable", spec := "coreTable", inPlace := ["internal/abi.NoEscape", "internal/bytealg.MakeNoZero"], unfollowed := true, recurses := true, apart := false }
def CoreTableSaid : Prop := coreTableRow.holds Try.pinned (OpenSpec.ofChange coreTableSpec)

/-- ITS FALSE NEIGHBOUR: 'it returns false'. Refute it at one input. -/
def coreTableWrong : ChangeSpec := { name := "coreTable", fn := fun _ => fun
  | [d] => { results := [.lit (.bool false)], args := [d] }
  | _ => none }
def CoreTableWrongFalsely : Prop := coreTableRow.holds Try.pinned (OpenSpec.ofChange coreTableWrong)

/-- 'thunklaw5.CoreKnown': WHATEVER THE INPUT: true; the input reads as it did. -/
def coreKnownSpec : ChangeSpec := { name := "coreKnown", fn := fun _ => fun
  | [d] => { results := [.lit (.bool true)], args := [d] }
  | _ => none }
def coreKnownRow : OpenClaim := { program := "ytcalbcllmmoldaa", sum := "f167739460bb63e69a852d91f7f3eb785f8efcb139666eaad7cfd677a7701b43", func := "thunk/thunklaw5.CoreKnown", spec := "coreKnown", inPlace := ["internal/abi.NoEscape", "internal/bytealg.MakeNoZero"], unfollowed := true, recurses := true, apart := false }
def CoreKnownSaid : Prop := coreKnownRow.holds Try.pinned (OpenSpec.ofChange coreKnownSpec)

/-- ITS FALSE NEIGHBOUR: 'it returns false'. Refute it at one input. -/
def coreKnownWrong : ChangeSpec := { name := "coreKnown", fn := fun _ => fun
  | [d] => { results := [.lit (.bool false)], args := [d] }
  | _ => none }
def CoreKnownWrongFalsely : Prop := coreKnownRow.holds Try.pinned (OpenSpec.ofChange coreKnownWrong)

/-- 'thunklaw5.CoreSize': WHATEVER THE INPUT: true; the input reads as it did. -/
def coreSizeSpec : ChangeSpec := { name := "coreSize", fn := fun _ => fun
  | [d] => { results := [.lit (.bool true)], args := [d] }
  | _ => none }
def coreSizeRow : OpenClaim := { program := "ytcalbcllmmoldaa", sum := "f167739460bb63e69a852d91f7f3eb785f8efcb139666eaad7cfd677a7701b43", func := "thunk/thunklaw5.CoreSize", spec := "coreSize", inPlace := ["internal/abi.NoEscape", "internal/bytealg.MakeNoZero"], unfollowed := true, recurses := true, loops := true, apart := false }
def CoreSizeSaid : Prop := coreSizeRow.holds Try.pinned (OpenSpec.ofChange coreSizeSpec)

/-- ITS FALSE NEIGHBOUR: 'it returns false'. Refute it at one input. -/
def coreSizeWrong : ChangeSpec := { name := "coreSize", fn := fun _ => fun
  | [d] => { results := [.lit (.bool false)], args := [d] }
  | _ => none }
def CoreSizeWrongFalsely : Prop := coreSizeRow.holds Try.pinned (OpenSpec.ofChange coreSizeWrong)

/-- 'thunklaw5.CoreBinds': WHATEVER THE INPUT: true; the input reads as it did. -/
def coreBindsSpec : ChangeSpec := { name := "coreBinds", fn := fun _ => fun
  | [d1, d2, d3] => { results := [.lit (.bool true)], args := [d1, d2, d3] }
  | _ => none }
def coreBindsRow : OpenClaim := { program := "ytcalbcllmmoldaa", sum := "f167739460bb63e69a852d91f7f3eb785f8efcb139666eaad7cfd677a7701b43", func := "thunk/thunklaw5.CoreBinds", spec := "coreBinds", inPlace := ["internal/abi.NoEscape", "internal/bytealg.MakeNoZero"], unfollowed := true, recurses := true, loops := true, apart := false }
def CoreBindsSaid : Prop := coreBindsRow.holds Try.pinned (OpenSpec.ofChange coreBindsSpec)

/-- ITS FALSE NEIGHBOUR: 'it returns false'. Refute it at one input. -/
def coreBindsWrong : ChangeSpec := { name := "coreBinds", fn := fun _ => fun
  | [d1, d2, d3] => { results := [.lit (.bool false)], args := [d1, d2, d3] }
  | _ => none }
def CoreBindsWrongFalsely : Prop := coreBindsRow.holds Try.pinned (OpenSpec.ofChange coreBindsWrong)

/-- 'thunklaw5.CoreShapes': WHATEVER THE INPUT: true; the input reads as it did. -/
def coreShapesSpec : ChangeSpec := { name := "coreShapes", fn := fun _ => fun
  | [d1, d2, d3, d4] => { results := [.lit (.bool true)], args := [d1, d2, d3, d4] }
  | _ => none }
def coreShapesRow : OpenClaim := { program := "ytcalbcllmmoldaa", sum := "f167739460bb63e69a852d91f7f3eb785f8efcb139666eaad7cfd677a7701b43", func := "thunk/thunklaw5.CoreShapes", spec := "coreShapes", inPlace := ["internal/abi.NoEscape", "internal/bytealg.MakeNoZero"], unfollowed := true, recurses := true, apart := false }
def CoreShapesSaid : Prop := coreShapesRow.holds Try.pinned (OpenSpec.ofChange coreShapesSpec)

/-- ITS FALSE NEIGHBOUR: 'it returns false'. Refute it at one input. -/
def coreShapesWrong : ChangeSpec := { name := "coreShapes", fn := fun _ => fun
  | [d1, d2, d3, d4] => { results := [.lit (.bool false)], args := [d1, d2, d3, d4] }
  | _ => none }
def CoreShapesWrongFalsely : Prop := coreShapesRow.holds Try.pinned (OpenSpec.ofChange coreShapesWrong)

/- THE SECOND FORM. 'bulk': how many values and letters a reading holds, each counted each time it is reached (what is shared counts as often as it is met; a slice's spare places count too). A statement '..UptoSaid' is the law's where the arguments, and the package variables that the reading takes, are together of bulk at most 1048576: NARROWER than '..Said'. Prove '..Said' where nothing that the law and all that it calls make is longer than what came in: it says more and counts as full. Else prove '..UptoSaid'. A law counts once. -/
mutual
def uptoBulk {H : Type} : DataW H → Nat
  | .lit (.string bytes) => bytes.length + 1
  | .lit _ => 1
  | .nil => 1
  | .ptr d => uptoBulk d + 1
  | .slice elems spare => uptoBulkAll elems + uptoBulkAll spare + 1
  | .agg parts => uptoBulkAll parts + 1
  | .iface _ d => uptoBulk d + 1
  | .map entries => uptoBulkEntries entries + 1
  | .held _ => 1
def uptoBulkAll {H : Type} : List (DataW H) → Nat
  | [] => 0
  | d :: r => uptoBulk d + uptoBulkAll r
def uptoBulkEntries {H : Type} : List (Lit × DataW H) → Nat
  | [] => 0
  | x :: r => uptoBulkEntry x + uptoBulkEntries r
def uptoBulkEntry {H : Type} : Lit × DataW H → Nat
  | (.string bytes, d) => bytes.length + uptoBulk d + 1
  | (_, d) => uptoBulk d + 1
 end
def uptoSmall : (H : Type) → List (DataW H) → Bool := fun _ ds => decide (uptoBulkAll ds ≤ 1048576)
def OpenSpec.upto (s : _root_.Go.ChangeSpec) : _root_.Go.OpenSpec := { _root_.Go.OpenSpec.ofChange s with cond := some uptoSmall }

/-- 'thunklaw5.CoreRight', WHERE WHAT IT READS IS OF BULK AT MOST 1048576: true; the input reads as it did. -/
def coreRightUptoRow : OpenClaim := { program := "ytcalbcllmmoldaa", sum := "f167739460bb63e69a852d91f7f3eb785f8efcb139666eaad7cfd677a7701b43", func := "thunk/thunklaw5.CoreRight", spec := "coreRight", inPlace := ["internal/abi.NoEscape", "internal/bytealg.MakeNoZero"], unfollowed := true, recurses := true, loops := true, apart := false, narrowed := true }
def CoreRightUptoSaid : Prop := coreRightUptoRow.holds Try.pinned (OpenSpec.upto coreRightSpec)

/-- 'thunklaw5.CoreAll', WHERE WHAT IT READS IS OF BULK AT MOST 1048576: true; the input reads as it did. -/
def coreAllUptoRow : OpenClaim := { program := "ytcalbcllmmoldaa", sum := "f167739460bb63e69a852d91f7f3eb785f8efcb139666eaad7cfd677a7701b43", func := "thunk/thunklaw5.CoreAll", spec := "coreAll", inPlace := ["internal/abi.NoEscape", "internal/bytealg.MakeNoZero"], unfollowed := true, recurses := true, loops := true, apart := false, narrowed := true }
def CoreAllUptoSaid : Prop := coreAllUptoRow.holds Try.pinned (OpenSpec.upto coreAllSpec)

/-- 'thunklaw5.CoreFree', WHERE WHAT IT READS IS OF BULK AT MOST 1048576: true; the input reads as it did. -/
def coreFreeUptoRow : OpenClaim := { program := "ytcalbcllmmoldaa", sum := "f167739460bb63e69a852d91f7f3eb785f8efcb139666eaad7cfd677a7701b43", func := "thunk/thunklaw5.CoreFree", spec := "coreFree", inPlace := ["internal/abi.NoEscape", "internal/bytealg.MakeNoZero"], unfollowed := true, recurses := true, loops := true, apart := false, narrowed := true }
def CoreFreeUptoSaid : Prop := coreFreeUptoRow.holds Try.pinned (OpenSpec.upto coreFreeSpec)

/-- 'thunklaw5.CoreTable', WHERE WHAT IT READS IS OF BULK AT MOST 1048576: true; the input reads as it did. -/
def coreTableUptoRow : OpenClaim := { program := "ytcalbcllmmoldaa", sum := "f167739460bb63e69a852d91f7f3eb785f8efcb139666eaad7cfd677a7701b43", func := "thunk/thunklaw5.CoreTable", spec := "coreTable", inPlace := ["internal/abi.NoEscape", "internal/bytealg.MakeNoZero"], unfollowed := true, recurses := true, apart := false, narrowed := true }
def CoreTableUptoSaid : Prop := coreTableUptoRow.holds Try.pinned (OpenSpec.upto coreTableSpec)

/-- 'thunklaw5.CoreKnown', WHERE WHAT IT READS IS OF BULK AT MOST 1048576: true; the input reads as it did. -/
def coreKnownUptoRow : OpenClaim := { program := "ytcalbcllmmoldaa", sum := "f167739460bb63e69a852d91f7f3eb785f8efcb139666eaad7cfd677a7701b43", func := "thunk/thunklaw5.CoreKnown", spec := "coreKnown", inPlace := ["internal/abi.NoEscape", "internal/bytealg.MakeNoZero"], unfollowed := true, recurses := true, apart := false, narrowed := true }
def CoreKnownUptoSaid : Prop := coreKnownUptoRow.holds Try.pinned (OpenSpec.upto coreKnownSpec)

/-- 'thunklaw5.CoreSize', WHERE WHAT IT READS IS OF BULK AT MOST 1048576: true; the input reads as it did. -/
def coreSizeUptoRow : OpenClaim := { program := "ytcalbcllmmoldaa", sum := "f167739460bb63e69a852d91f7f3eb785f8efcb139666eaad7cfd677a7701b43", func := "thunk/thunklaw5.CoreSize", spec := "coreSize", inPlace := ["internal/abi.NoEscape", "internal/bytealg.MakeNoZero"], unfollowed := true, recurses := true, loops := true, apart := false, narrowed := true }
def CoreSizeUptoSaid : Prop := coreSizeUptoRow.holds Try.pinned (OpenSpec.upto coreSizeSpec)

/-- 'thunklaw5.CoreBinds', WHERE WHAT IT READS IS OF BULK AT MOST 1048576: true; the input reads as it did. -/
def coreBindsUptoRow : OpenClaim := { program := "ytcalbcllmmoldaa", sum := "f167739460bb63e69a852d91f7f3eb785f8efcb139666eaad7cfd677a7701b43", func := "thunk/thunklaw5.CoreBinds", spec := "coreBinds", inPlace := ["internal/abi.NoEscape", "internal/bytealg.MakeNoZero"], unfollowed := true, recurses := true, loops := true, apart := false, narrowed := true }
def CoreBindsUptoSaid : Prop := coreBindsUptoRow.holds Try.pinned (OpenSpec.upto coreBindsSpec)

/-- 'thunklaw5.CoreShapes', WHERE WHAT IT READS IS OF BULK AT MOST 1048576: true; the input reads as it did. -/
def coreShapesUptoRow : OpenClaim := { program := "ytcalbcllmmoldaa", sum := "f167739460bb63e69a852d91f7f3eb785f8efcb139666eaad7cfd677a7701b43", func := "thunk/thunklaw5.CoreShapes", spec := "coreShapes", inPlace := ["internal/abi.NoEscape", "internal/bytealg.MakeNoZero"], unfollowed := true, recurses := true, apart := false, narrowed := true }
def CoreShapesUptoSaid : Prop := coreShapesUptoRow.holds Try.pinned (OpenSpec.upto coreShapesSpec)

end Rows
end Go.Proofs.Ytcalbcllmmoldaa
