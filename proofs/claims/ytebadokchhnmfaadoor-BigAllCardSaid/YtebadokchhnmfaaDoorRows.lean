/-
  NARROWER THAN 'FOR EVERY INPUT', by the rows' own cells (each row's printed sentence says how): BigRight: laid · BigAll: laid · BigSmall: laid · BigRules: laid · BigQuo: laid · BigEnds: laid · BigOrder: laid · BigPowers: laid · BigSigns: laid · BigTens: laid.
  DERIVED. THE GIVEN ROWS OF THIS SEAT. 10 by the template 'for every input the law returns true; each argument reads behind the call as it read before'; 0 by the template 'total and deterministic' (their statements: YtebadokchhnmfaaDoorTotals.lean).
  GIVEN WITH THE SEED: the statements are not yours to turn. If you find one false, say at which input.
  Laid BY PROGRAM, IN A SANDBOX (cutbox-rows.mjs): the forced cells as the released guide's own fill.sh prints them over the translation 310860e36d4d4599… (all of the seat's roots in one cut). By AI agents, Wed Nov 11 2026. No macro, syntax, notation, axiom, sorry.
-/
import Derived.Test.YtebadokchhnmfaaDoorChecked
import GoSem.PinnedTables
import GoSem.Claim
import GoSem.ClaimJoined
import GoSem.ClaimMapViews
import Derived.JoinedTies
import Derived.KernelRfl
namespace Go.Proofs.YtebadokchhnmfaaDoor
/- THE CELL 'sum', in the pinned program and in every row, IS THE sha256 OF THE DUMP (.gsa) THAT YtebadokchhnmfaaDoorProg.lean LOADS. Nothing in Lean hashes anything: it is a label: what it is worth is what the hold of that sum in a sandbox is worth. -/
noncomputable def Tryd.pinned : Pinned := { name := "ytebadokchhnmfaadoor", sum := "310860e36d4d459946c85fec4301674c6cd382f4603f87d362c0a181148b5082", checked := Tryd.checked }
namespace Rows
def none {H : Type} : Left H := { results := [], args := [] }

/- WHAT THE LISTED PACKAGE-LEVEL VARIABLES READ AS WHEN THE CALL BEGINS. Each datum BY PROGRAM (the guide's laid-datum.mjs) off the statement by which the dump's own 'gosem.cut.vars' lays the variable. In a bare row this is a premise. The card (YtebadokchhnmfaaDoorCards.lean) ties it to the program's text. -/
def laid_unicode_utf8_acceptRanges {H : Type} : DataW H := .agg [.agg [.lit (.int .u8 128), .lit (.int .u8 191)], .agg [.lit (.int .u8 160), .lit (.int .u8 191)], .agg [.lit (.int .u8 128), .lit (.int .u8 159)], .agg [.lit (.int .u8 144), .lit (.int .u8 191)], .agg [.lit (.int .u8 128), .lit (.int .u8 143)], .agg [.lit (.int .u8 0), .lit (.int .u8 0)], .agg [.lit (.int .u8 0), .lit (.int .u8 0)], .agg [.lit (.int .u8 0), .lit (.int .u8 0)], .agg [.lit (.int .u8 0), .lit (.int .u8 0)], .agg [.lit (.int .u8 0), .lit (.int .u8 0)], .agg [.lit (.int .u8 0), .lit (.int .u8 0)], .agg [.lit (.int .u8 0), .lit (.int .u8 0)], .agg [.lit (.int .u8 0), .lit (.int .u8 0)], .agg [.lit (.int .u8 0), .lit (.int .u8 0)], .agg [.lit (.int .u8 0), .lit (.int .u8 0)], .agg [.lit (.int .u8 0), .lit (.int .u8 0)]]
/-- One of Go's own tables, pinned by name: the form's constant. -/
def laid_unicode_utf8_first : DataW Unit := Go.Pinned.utf8First

/-- 'thunklaw1.BigRight': WHATEVER THE INPUT: true; the input reads as it did. -/
def bigRightSpec : ChangeSpec := { name := "bigRight", fn := fun _ => fun
  | [d1, d2, d3, d4, d5, d6] => { results := [.lit (.bool true)], args := [d1, d2, d3, d4, d5, d6] }
  | _ => none }
def bigRightRow : OpenClaim := { program := "ytebadokchhnmfaadoor", sum := "310860e36d4d459946c85fec4301674c6cd382f4603f87d362c0a181148b5082", func := "thunk/thunklaw1.BigRight", spec := "bigRight", inPlace := ["internal/bytealg.IndexByteString", "internal/bytealg.IndexString"], named := ["unicode/utf8.first", "unicode/utf8.acceptRanges", "internal/bytealg.MaxLen"], apart := false, laid := [("unicode/utf8.acceptRanges", laid_unicode_utf8_acceptRanges), ("unicode/utf8.first", laid_unicode_utf8_first)] }
def BigRightSaid : Prop := bigRightRow.holds Tryd.pinned (OpenSpec.ofChange bigRightSpec)

/-- ITS FALSE NEIGHBOUR: 'it returns false'. Refute it at one input. -/
def bigRightWrong : ChangeSpec := { name := "bigRight", fn := fun _ => fun
  | [d1, d2, d3, d4, d5, d6] => { results := [.lit (.bool false)], args := [d1, d2, d3, d4, d5, d6] }
  | _ => none }
def BigRightWrongFalsely : Prop := bigRightRow.holds Tryd.pinned (OpenSpec.ofChange bigRightWrong)

/-- 'thunklaw1.BigAll': WHATEVER THE INPUT: true; the input reads as it did. -/
def bigAllSpec : ChangeSpec := { name := "bigAll", fn := fun _ => fun
  | [d1, d2, d3, d4] => { results := [.lit (.bool true)], args := [d1, d2, d3, d4] }
  | _ => none }
def bigAllRow : OpenClaim := { program := "ytebadokchhnmfaadoor", sum := "310860e36d4d459946c85fec4301674c6cd382f4603f87d362c0a181148b5082", func := "thunk/thunklaw1.BigAll", spec := "bigAll", inPlace := ["internal/bytealg.IndexByteString", "internal/bytealg.IndexString"], named := ["unicode/utf8.first", "unicode/utf8.acceptRanges", "math/bits.divideError", "math/bits.overflowError", "internal/bytealg.MaxLen"], apart := false, laid := [("unicode/utf8.acceptRanges", laid_unicode_utf8_acceptRanges), ("unicode/utf8.first", laid_unicode_utf8_first)] }
def BigAllSaid : Prop := bigAllRow.holds Tryd.pinned (OpenSpec.ofChange bigAllSpec)

/-- ITS FALSE NEIGHBOUR: 'it returns false'. Refute it at one input. -/
def bigAllWrong : ChangeSpec := { name := "bigAll", fn := fun _ => fun
  | [d1, d2, d3, d4] => { results := [.lit (.bool false)], args := [d1, d2, d3, d4] }
  | _ => none }
def BigAllWrongFalsely : Prop := bigAllRow.holds Tryd.pinned (OpenSpec.ofChange bigAllWrong)

/-- 'thunklaw1.BigSmall': WHATEVER THE INPUT: true; the input reads as it did. -/
def bigSmallSpec : ChangeSpec := { name := "bigSmall", fn := fun _ => fun
  | [d1, d2] => { results := [.lit (.bool true)], args := [d1, d2] }
  | _ => none }
def bigSmallRow : OpenClaim := { program := "ytebadokchhnmfaadoor", sum := "310860e36d4d459946c85fec4301674c6cd382f4603f87d362c0a181148b5082", func := "thunk/thunklaw1.BigSmall", spec := "bigSmall", inPlace := ["internal/bytealg.IndexByteString", "internal/bytealg.IndexString"], recurses := true, named := ["unicode/utf8.first", "unicode/utf8.acceptRanges", "math/bits.divideError", "math/bits.overflowError", "internal/bytealg.MaxLen"], apart := false, laid := [("unicode/utf8.acceptRanges", laid_unicode_utf8_acceptRanges), ("unicode/utf8.first", laid_unicode_utf8_first)] }
def BigSmallSaid : Prop := bigSmallRow.holds Tryd.pinned (OpenSpec.ofChange bigSmallSpec)

/-- ITS FALSE NEIGHBOUR: 'it returns false'. Refute it at one input. -/
def bigSmallWrong : ChangeSpec := { name := "bigSmall", fn := fun _ => fun
  | [d1, d2] => { results := [.lit (.bool false)], args := [d1, d2] }
  | _ => none }
def BigSmallWrongFalsely : Prop := bigSmallRow.holds Tryd.pinned (OpenSpec.ofChange bigSmallWrong)

/-- 'thunklaw1.BigRules': WHATEVER THE INPUT: true; the input reads as it did. -/
def bigRulesSpec : ChangeSpec := { name := "bigRules", fn := fun _ => fun
  | [d1, d2, d3, d4, d5] => { results := [.lit (.bool true)], args := [d1, d2, d3, d4, d5] }
  | _ => none }
def bigRulesRow : OpenClaim := { program := "ytebadokchhnmfaadoor", sum := "310860e36d4d459946c85fec4301674c6cd382f4603f87d362c0a181148b5082", func := "thunk/thunklaw1.BigRules", spec := "bigRules", inPlace := ["internal/bytealg.IndexByteString", "internal/bytealg.IndexString"], named := ["unicode/utf8.first", "unicode/utf8.acceptRanges", "internal/bytealg.MaxLen"], apart := false, laid := [("unicode/utf8.acceptRanges", laid_unicode_utf8_acceptRanges), ("unicode/utf8.first", laid_unicode_utf8_first)] }
def BigRulesSaid : Prop := bigRulesRow.holds Tryd.pinned (OpenSpec.ofChange bigRulesSpec)

/-- ITS FALSE NEIGHBOUR: 'it returns false'. Refute it at one input. -/
def bigRulesWrong : ChangeSpec := { name := "bigRules", fn := fun _ => fun
  | [d1, d2, d3, d4, d5] => { results := [.lit (.bool false)], args := [d1, d2, d3, d4, d5] }
  | _ => none }
def BigRulesWrongFalsely : Prop := bigRulesRow.holds Tryd.pinned (OpenSpec.ofChange bigRulesWrong)

/-- 'thunklaw1.BigQuo': WHATEVER THE INPUT: true; the input reads as it did. -/
def bigQuoSpec : ChangeSpec := { name := "bigQuo", fn := fun _ => fun
  | [d1, d2, d3, d4] => { results := [.lit (.bool true)], args := [d1, d2, d3, d4] }
  | _ => none }
def bigQuoRow : OpenClaim := { program := "ytebadokchhnmfaadoor", sum := "310860e36d4d459946c85fec4301674c6cd382f4603f87d362c0a181148b5082", func := "thunk/thunklaw1.BigQuo", spec := "bigQuo", inPlace := ["internal/bytealg.IndexByteString", "internal/bytealg.IndexString"], named := ["unicode/utf8.first", "unicode/utf8.acceptRanges", "math/bits.divideError", "math/bits.overflowError", "internal/bytealg.MaxLen"], apart := false, laid := [("unicode/utf8.acceptRanges", laid_unicode_utf8_acceptRanges), ("unicode/utf8.first", laid_unicode_utf8_first)] }
def BigQuoSaid : Prop := bigQuoRow.holds Tryd.pinned (OpenSpec.ofChange bigQuoSpec)

/-- ITS FALSE NEIGHBOUR: 'it returns false'. Refute it at one input. -/
def bigQuoWrong : ChangeSpec := { name := "bigQuo", fn := fun _ => fun
  | [d1, d2, d3, d4] => { results := [.lit (.bool false)], args := [d1, d2, d3, d4] }
  | _ => none }
def BigQuoWrongFalsely : Prop := bigQuoRow.holds Tryd.pinned (OpenSpec.ofChange bigQuoWrong)

/-- 'thunklaw1.BigEnds': WHATEVER THE INPUT: true; the input reads as it did. -/
def bigEndsSpec : ChangeSpec := { name := "bigEnds", fn := fun _ => fun
  | [d1, d2] => { results := [.lit (.bool true)], args := [d1, d2] }
  | _ => none }
def bigEndsRow : OpenClaim := { program := "ytebadokchhnmfaadoor", sum := "310860e36d4d459946c85fec4301674c6cd382f4603f87d362c0a181148b5082", func := "thunk/thunklaw1.BigEnds", spec := "bigEnds", inPlace := ["internal/bytealg.IndexByteString", "internal/bytealg.IndexString"], named := ["unicode/utf8.first", "unicode/utf8.acceptRanges", "internal/bytealg.MaxLen"], apart := false, laid := [("unicode/utf8.acceptRanges", laid_unicode_utf8_acceptRanges), ("unicode/utf8.first", laid_unicode_utf8_first)] }
def BigEndsSaid : Prop := bigEndsRow.holds Tryd.pinned (OpenSpec.ofChange bigEndsSpec)

/-- ITS FALSE NEIGHBOUR: 'it returns false'. Refute it at one input. -/
def bigEndsWrong : ChangeSpec := { name := "bigEnds", fn := fun _ => fun
  | [d1, d2] => { results := [.lit (.bool false)], args := [d1, d2] }
  | _ => none }
def BigEndsWrongFalsely : Prop := bigEndsRow.holds Tryd.pinned (OpenSpec.ofChange bigEndsWrong)

/-- 'thunklaw1.BigOrder': WHATEVER THE INPUT: true; the input reads as it did. -/
def bigOrderSpec : ChangeSpec := { name := "bigOrder", fn := fun _ => fun
  | [d1, d2, d3, d4, d5] => { results := [.lit (.bool true)], args := [d1, d2, d3, d4, d5] }
  | _ => none }
def bigOrderRow : OpenClaim := { program := "ytebadokchhnmfaadoor", sum := "310860e36d4d459946c85fec4301674c6cd382f4603f87d362c0a181148b5082", func := "thunk/thunklaw1.BigOrder", spec := "bigOrder", inPlace := ["internal/bytealg.IndexByteString", "internal/bytealg.IndexString"], named := ["unicode/utf8.first", "unicode/utf8.acceptRanges", "internal/bytealg.MaxLen"], apart := false, laid := [("unicode/utf8.acceptRanges", laid_unicode_utf8_acceptRanges), ("unicode/utf8.first", laid_unicode_utf8_first)] }
def BigOrderSaid : Prop := bigOrderRow.holds Tryd.pinned (OpenSpec.ofChange bigOrderSpec)

/-- ITS FALSE NEIGHBOUR: 'it returns false'. Refute it at one input. -/
def bigOrderWrong : ChangeSpec := { name := "bigOrder", fn := fun _ => fun
  | [d1, d2, d3, d4, d5] => { results := [.lit (.bool false)], args := [d1, d2, d3, d4, d5] }
  | _ => none }
def BigOrderWrongFalsely : Prop := bigOrderRow.holds Tryd.pinned (OpenSpec.ofChange bigOrderWrong)

/-- 'thunklaw1.BigPowers': WHATEVER THE INPUT: true; the input reads as it did. -/
def bigPowersSpec : ChangeSpec := { name := "bigPowers", fn := fun _ => fun
  | [d1, d2] => { results := [.lit (.bool true)], args := [d1, d2] }
  | _ => none }
def bigPowersRow : OpenClaim := { program := "ytebadokchhnmfaadoor", sum := "310860e36d4d459946c85fec4301674c6cd382f4603f87d362c0a181148b5082", func := "thunk/thunklaw1.BigPowers", spec := "bigPowers", inPlace := ["internal/bytealg.IndexByteString", "internal/bytealg.IndexString"], named := ["unicode/utf8.first", "unicode/utf8.acceptRanges", "math/bits.divideError", "math/bits.overflowError", "internal/bytealg.MaxLen"], apart := false, laid := [("unicode/utf8.acceptRanges", laid_unicode_utf8_acceptRanges), ("unicode/utf8.first", laid_unicode_utf8_first)] }
def BigPowersSaid : Prop := bigPowersRow.holds Tryd.pinned (OpenSpec.ofChange bigPowersSpec)

/-- ITS FALSE NEIGHBOUR: 'it returns false'. Refute it at one input. -/
def bigPowersWrong : ChangeSpec := { name := "bigPowers", fn := fun _ => fun
  | [d1, d2] => { results := [.lit (.bool false)], args := [d1, d2] }
  | _ => none }
def BigPowersWrongFalsely : Prop := bigPowersRow.holds Tryd.pinned (OpenSpec.ofChange bigPowersWrong)

/-- 'thunklaw1.BigSigns': WHATEVER THE INPUT: true; the input reads as it did. -/
def bigSignsSpec : ChangeSpec := { name := "bigSigns", fn := fun _ => fun
  | [d1, d2] => { results := [.lit (.bool true)], args := [d1, d2] }
  | _ => none }
def bigSignsRow : OpenClaim := { program := "ytebadokchhnmfaadoor", sum := "310860e36d4d459946c85fec4301674c6cd382f4603f87d362c0a181148b5082", func := "thunk/thunklaw1.BigSigns", spec := "bigSigns", inPlace := ["internal/bytealg.IndexByteString", "internal/bytealg.IndexString"], named := ["unicode/utf8.first", "unicode/utf8.acceptRanges", "internal/bytealg.MaxLen"], apart := false, laid := [("unicode/utf8.acceptRanges", laid_unicode_utf8_acceptRanges), ("unicode/utf8.first", laid_unicode_utf8_first)] }
def BigSignsSaid : Prop := bigSignsRow.holds Tryd.pinned (OpenSpec.ofChange bigSignsSpec)

/-- ITS FALSE NEIGHBOUR: 'it returns false'. Refute it at one input. -/
def bigSignsWrong : ChangeSpec := { name := "bigSigns", fn := fun _ => fun
  | [d1, d2] => { results := [.lit (.bool false)], args := [d1, d2] }
  | _ => none }
def BigSignsWrongFalsely : Prop := bigSignsRow.holds Tryd.pinned (OpenSpec.ofChange bigSignsWrong)

/-- 'thunklaw1.BigTens': WHATEVER THE INPUT: true; the input reads as it did. -/
def bigTensSpec : ChangeSpec := { name := "bigTens", fn := fun _ => fun
  | [d1, d2] => { results := [.lit (.bool true)], args := [d1, d2] }
  | _ => none }
def bigTensRow : OpenClaim := { program := "ytebadokchhnmfaadoor", sum := "310860e36d4d459946c85fec4301674c6cd382f4603f87d362c0a181148b5082", func := "thunk/thunklaw1.BigTens", spec := "bigTens", inPlace := ["internal/bytealg.IndexByteString", "internal/bytealg.IndexString"], recurses := true, named := ["unicode/utf8.first", "unicode/utf8.acceptRanges", "math/bits.divideError", "math/bits.overflowError", "internal/bytealg.MaxLen"], apart := false, laid := [("unicode/utf8.acceptRanges", laid_unicode_utf8_acceptRanges), ("unicode/utf8.first", laid_unicode_utf8_first)] }
def BigTensSaid : Prop := bigTensRow.holds Tryd.pinned (OpenSpec.ofChange bigTensSpec)

/-- ITS FALSE NEIGHBOUR: 'it returns false'. Refute it at one input. -/
def bigTensWrong : ChangeSpec := { name := "bigTens", fn := fun _ => fun
  | [d1, d2] => { results := [.lit (.bool false)], args := [d1, d2] }
  | _ => none }
def BigTensWrongFalsely : Prop := bigTensRow.holds Tryd.pinned (OpenSpec.ofChange bigTensWrong)

/- THE SECOND FORM. 'bulk': how many values and letters a reading holds, each counted each time it is reached (what is shared counts as often as it is met; a slice's spare places count too). A statement '..UptoSaid' is the law's where the arguments, and the package variables that the reading takes, are together of bulk at most 1048576: NARROWER than '..Said'. Prove '..Said' where nothing that the law and all that it calls make is longer than what came in: it says more and counts as full. Else prove '..UptoSaid'. A law counts once. -/
mutual
def uptoBulk {H : Type} : DataW H → Nat
  | .lit (.string bytes) => bytes.length + 1
  | .lit _ => 1
  | .nil => 1
  | .ptr d => uptoBulk d + 1
  | .slice elems spare => uptoBulkAll elems + uptoBulkAll spare + 1
  | .agg parts => uptoBulkAll parts + 1
  | .iface _ d => uptoBulk d + 1
  | .map entries => uptoBulkEntries entries + 1
  | .held _ => 1
def uptoBulkAll {H : Type} : List (DataW H) → Nat
  | [] => 0
  | d :: r => uptoBulk d + uptoBulkAll r
def uptoBulkEntries {H : Type} : List (Lit × DataW H) → Nat
  | [] => 0
  | x :: r => uptoBulkEntry x + uptoBulkEntries r
def uptoBulkEntry {H : Type} : Lit × DataW H → Nat
  | (.string bytes, d) => bytes.length + uptoBulk d + 1
  | (_, d) => uptoBulk d + 1
 end
def uptoSmall : (H : Type) → List (DataW H) → Bool := fun _ ds => decide (uptoBulkAll ds ≤ 1048576)
def OpenSpec.upto (s : _root_.Go.ChangeSpec) : _root_.Go.OpenSpec := { _root_.Go.OpenSpec.ofChange s with cond := some uptoSmall }

/-- 'thunklaw1.BigRight', WHERE WHAT IT READS IS OF BULK AT MOST 1048576: true; the input reads as it did. -/
def bigRightUptoRow : OpenClaim := { program := "ytebadokchhnmfaadoor", sum := "310860e36d4d459946c85fec4301674c6cd382f4603f87d362c0a181148b5082", func := "thunk/thunklaw1.BigRight", spec := "bigRight", inPlace := ["internal/bytealg.IndexByteString", "internal/bytealg.IndexString"], named := ["unicode/utf8.first", "unicode/utf8.acceptRanges", "internal/bytealg.MaxLen"], apart := false, laid := [("unicode/utf8.acceptRanges", laid_unicode_utf8_acceptRanges), ("unicode/utf8.first", laid_unicode_utf8_first)], narrowed := true }
def BigRightUptoSaid : Prop := bigRightUptoRow.holds Tryd.pinned (OpenSpec.upto bigRightSpec)

/-- 'thunklaw1.BigAll', WHERE WHAT IT READS IS OF BULK AT MOST 1048576: true; the input reads as it did. -/
def bigAllUptoRow : OpenClaim := { program := "ytebadokchhnmfaadoor", sum := "310860e36d4d459946c85fec4301674c6cd382f4603f87d362c0a181148b5082", func := "thunk/thunklaw1.BigAll", spec := "bigAll", inPlace := ["internal/bytealg.IndexByteString", "internal/bytealg.IndexString"], named := ["unicode/utf8.first", "unicode/utf8.acceptRanges", "math/bits.divideError", "math/bits.overflowError", "internal/bytealg.MaxLen"], apart := false, laid := [("unicode/utf8.acceptRanges", laid_unicode_utf8_acceptRanges), ("unicode/utf8.first", laid_unicode_utf8_first)], narrowed := true }
def BigAllUptoSaid : Prop := bigAllUptoRow.holds Tryd.pinned (OpenSpec.upto bigAllSpec)

/-- 'thunklaw1.BigSmall', WHERE WHAT IT READS IS OF BULK AT MOST 1048576: true; the input reads as it did. -/
def bigSmallUptoRow : OpenClaim := { program := "ytebadokchhnmfaadoor", sum := "310860e36d4d459946c85fec4301674c6cd382f4603f87d362c0a181148b5082", func := "thunk/thunklaw1.BigSmall", spec := "bigSmall", inPlace := ["internal/bytealg.IndexByteString", "internal/bytealg.IndexString"], recurses := true, named := ["unicode/utf8.first", "unicode/utf8.acceptRanges", "math/bits.divideError", "math/bits.overflowError", "internal/bytealg.MaxLen"], apart := false, laid := [("unicode/utf8.acceptRanges", laid_unicode_utf8_acceptRanges), ("unicode/utf8.first", laid_unicode_utf8_first)], narrowed := true }
def BigSmallUptoSaid : Prop := bigSmallUptoRow.holds Tryd.pinned (OpenSpec.upto bigSmallSpec)

/-- 'thunklaw1.BigRules', WHERE WHAT IT READS IS OF BULK AT MOST 1048576: true; the input reads as it did. -/
def bigRulesUptoRow : OpenClaim := { program := "ytebadokchhnmfaadoor", sum := "310860e36d4d459946c85fec4301674c6cd382f4603f87d362c0a181148b5082", func := "thunk/thunklaw1.BigRules", spec := "bigRules", inPlace := ["internal/bytealg.IndexByteString", "internal/bytealg.IndexString"], named := ["unicode/utf8.first", "unicode/utf8.acceptRanges", "internal/bytealg.MaxLen"], apart := false, laid := [("unicode/utf8.acceptRanges", laid_unicode_utf8_acceptRanges), ("unicode/utf8.first", laid_unicode_utf8_first)], narrowed := true }
def BigRulesUptoSaid : Prop := bigRulesUptoRow.holds Tryd.pinned (OpenSpec.upto bigRulesSpec)

/-- 'thunklaw1.BigQuo', WHERE WHAT IT READS IS OF BULK AT MOST 1048576: true; the input reads as it did. -/
def bigQuoUptoRow : OpenClaim := { program := "ytebadokchhnmfaadoor", sum := "310860e36d4d459946c85fec4301674c6cd382f4603f87d362c0a181148b5082", func := "thunk/thunklaw1.BigQuo", spec := "bigQuo", inPlace := ["internal/bytealg.IndexByteString", "internal/bytealg.IndexString"], named := ["unicode/utf8.first", "unicode/utf8.acceptRanges", "math/bits.divideError", "math/bits.overflowError", "internal/bytealg.MaxLen"], apart := false, laid := [("unicode/utf8.acceptRanges", laid_unicode_utf8_acceptRanges), ("unicode/utf8.first", laid_unicode_utf8_first)], narrowed := true }
def BigQuoUptoSaid : Prop := bigQuoUptoRow.holds Tryd.pinned (OpenSpec.upto bigQuoSpec)

/-- 'thunklaw1.BigEnds', WHERE WHAT IT READS IS OF BULK AT MOST 1048576: true; the input reads as it did. -/
def bigEndsUptoRow : OpenClaim := { program := "ytebadokchhnmfaadoor", sum := "310860e36d4d459946c85fec4301674c6cd382f4603f87d362c0a181148b5082", func := "thunk/thunklaw1.BigEnds", spec := "bigEnds", inPlace := ["internal/bytealg.IndexByteString", "internal/bytealg.IndexString"], named := ["unicode/utf8.first", "unicode/utf8.acceptRanges", "internal/bytealg.MaxLen"], apart := false, laid := [("unicode/utf8.acceptRanges", laid_unicode_utf8_acceptRanges), ("unicode/utf8.first", laid_unicode_utf8_first)], narrowed := true }
def BigEndsUptoSaid : Prop := bigEndsUptoRow.holds Tryd.pinned (OpenSpec.upto bigEndsSpec)

/-- 'thunklaw1.BigOrder', WHERE WHAT IT READS IS OF BULK AT MOST 1048576: true; the input reads as it did. -/
def bigOrderUptoRow : OpenClaim := { program := "ytebadokchhnmfaadoor", sum := "310860e36d4d459946c85fec4301674c6cd382f4603f87d362c0a181148b5082", func := "thunk/thunklaw1.BigOrder", spec := "bigOrder", inPlace := ["internal/bytealg.IndexByteString", "internal/bytealg.IndexString"], named := ["unicode/utf8.first", "unicode/utf8.acceptRanges", "internal/bytealg.MaxLen"], apart := false, laid := [("unicode/utf8.acceptRanges", laid_unicode_utf8_acceptRanges), ("unicode/utf8.first", laid_unicode_utf8_first)], narrowed := true }
def BigOrderUptoSaid : Prop := bigOrderUptoRow.holds Tryd.pinned (OpenSpec.upto bigOrderSpec)

/-- 'thunklaw1.BigPowers', WHERE WHAT IT READS IS OF BULK AT MOST 1048576: true; the input reads as it did. -/
def bigPowersUptoRow : OpenClaim := { program := "ytebadokchhnmfaadoor", sum := "310860e36d4d459946c85fec4301674c6cd382f4603f87d362c0a181148b5082", func := "thunk/thunklaw1.BigPowers", spec := "bigPowers", inPlace := ["internal/bytealg.IndexByteString", "internal/bytealg.IndexString"], named := ["unicode/utf8.first", "unicode/utf8.acceptRanges", "math/bits.divideError", "math/bits.overflowError", "internal/bytealg.MaxLen"], apart := false, laid := [("unicode/utf8.acceptRanges", laid_unicode_utf8_acceptRanges), ("unicode/utf8.first", laid_unicode_utf8_first)], narrowed := true }
def BigPowersUptoSaid : Prop := bigPowersUptoRow.holds Tryd.pinned (OpenSpec.upto bigPowersSpec)

/-- 'thunklaw1.BigSigns', WHERE WHAT IT READS IS OF BULK AT MOST 1048576: true; the input reads as it did. -/
def bigSignsUptoRow : OpenClaim := { program := "ytebadokchhnmfaadoor", sum := "310860e36d4d459946c85fec4301674c6cd382f4603f87d362c0a181148b5082", func := "thunk/thunklaw1.BigSigns", spec := "bigSigns", inPlace := ["internal/bytealg.IndexByteString", "internal/bytealg.IndexString"], named := ["unicode/utf8.first", "unicode/utf8.acceptRanges", "internal/bytealg.MaxLen"], apart := false, laid := [("unicode/utf8.acceptRanges", laid_unicode_utf8_acceptRanges), ("unicode/utf8.first", laid_unicode_utf8_first)], narrowed := true }
def BigSignsUptoSaid : Prop := bigSignsUptoRow.holds Tryd.pinned (OpenSpec.upto bigSignsSpec)

/-- 'thunklaw1.BigTens', WHERE WHAT IT READS IS OF BULK AT MOST 1048576: true; the input reads as it did. -/
def bigTensUptoRow : OpenClaim := { program := "ytebadokchhnmfaadoor", sum := "310860e36d4d459946c85fec4301674c6cd382f4603f87d362c0a181148b5082", func := "thunk/thunklaw1.BigTens", spec := "bigTens", inPlace := ["internal/bytealg.IndexByteString", "internal/bytealg.IndexString"], recurses := true, named := ["unicode/utf8.first", "unicode/utf8.acceptRanges", "math/bits.divideError", "math/bits.overflowError", "internal/bytealg.MaxLen"], apart := false, laid := [("unicode/utf8.acceptRanges", laid_unicode_utf8_acceptRanges), ("unicode/utf8.first", laid_unicode_utf8_first)], narrowed := true }
def BigTensUptoSaid : Prop := bigTensUptoRow.holds Tryd.pinned (OpenSpec.upto bigTensSpec)

end Rows
end Go.Proofs.YtebadokchhnmfaaDoor
