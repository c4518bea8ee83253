/-
  NARROWER THAN 'FOR EVERY INPUT', by the rows' own cells (each row's printed sentence says how): ReadAll: laid · ReadBack: loops, laid · ReadDeep: laid · ReadKnown: laid · ReadPlaces: laid · ReadLong: laid · ReadBlanks: loops, laid · ReadJoins: loops, laid · ReadQuotes: loops, laid · ReadEnds: loops, laid.
  DERIVED. THE GIVEN ROWS OF THIS SEAT. 10 by the template 'for every input the law returns true; each argument reads behind the call as it read before'; 0 by the template 'total and deterministic' (their statements: YtahdiknkcgnieaaDoorTotals.lean).
  GIVEN WITH THE SEED: the statements are not yours to turn. If you find one false, say at which input.
  Laid BY PROGRAM, IN A SANDBOX (cutbox-rows.mjs): the forced cells as the released guide's own fill.sh prints them over the translation cc7ad14b34ee610f… (all of the seat's roots in one cut). By AI agents, Wed Nov 11 2026. No macro, syntax, notation, axiom, sorry.
-/
import Derived.Test.YtahdiknkcgnieaaDoorChecked
import GoSem.PinnedTables
import GoSem.Claim
import GoSem.ClaimJoined
import GoSem.ClaimMapViews
import Derived.JoinedTies
import Derived.KernelRfl
namespace Go.Proofs.YtahdiknkcgnieaaDoor
/- THE CELL 'sum', in the pinned program and in every row, IS THE sha256 OF THE DUMP (.gsa) THAT YtahdiknkcgnieaaDoorProg.lean LOADS. Nothing in Lean hashes anything: it is a label: what it is worth is what the hold of that sum in a sandbox is worth. -/
noncomputable def Tryd.pinned : Pinned := { name := "ytahdiknkcgnieaadoor", sum := "cc7ad14b34ee610f592f5960bece2be7be33500b8a638af869f8a8796404e75a", checked := Tryd.checked }
namespace Rows
def none {H : Type} : Left H := { results := [], args := [] }

/- WHAT THE LISTED PACKAGE-LEVEL VARIABLES READ AS WHEN THE CALL BEGINS. Each datum BY PROGRAM (the guide's laid-datum.mjs) off the statement by which the dump's own 'gosem.cut.vars' lays the variable. In a bare row this is a premise. The card (YtahdiknkcgnieaaDoorCards.lean) ties it to the program's text. -/
def laid_unicode_utf8_acceptRanges {H : Type} : DataW H := .agg [.agg [.lit (.int .u8 128), .lit (.int .u8 191)], .agg [.lit (.int .u8 160), .lit (.int .u8 191)], .agg [.lit (.int .u8 128), .lit (.int .u8 159)], .agg [.lit (.int .u8 144), .lit (.int .u8 191)], .agg [.lit (.int .u8 128), .lit (.int .u8 143)], .agg [.lit (.int .u8 0), .lit (.int .u8 0)], .agg [.lit (.int .u8 0), .lit (.int .u8 0)], .agg [.lit (.int .u8 0), .lit (.int .u8 0)], .agg [.lit (.int .u8 0), .lit (.int .u8 0)], .agg [.lit (.int .u8 0), .lit (.int .u8 0)], .agg [.lit (.int .u8 0), .lit (.int .u8 0)], .agg [.lit (.int .u8 0), .lit (.int .u8 0)], .agg [.lit (.int .u8 0), .lit (.int .u8 0)], .agg [.lit (.int .u8 0), .lit (.int .u8 0)], .agg [.lit (.int .u8 0), .lit (.int .u8 0)], .agg [.lit (.int .u8 0), .lit (.int .u8 0)]]
/-- One of Go's own tables, pinned by name: the form's constant. -/
def laid_unicode_utf8_first : DataW Unit := Go.Pinned.utf8First

/-- 'thunklaw3.ReadAll': WHATEVER THE INPUT: true; the input reads as it did. -/
def readAllSpec : ChangeSpec := { name := "readAll", fn := fun _ => fun
  | [d1, d2, d3, d4] => { results := [.lit (.bool true)], args := [d1, d2, d3, d4] }
  | _ => none }
def readAllRow : OpenClaim := { program := "ytahdiknkcgnieaadoor", sum := "cc7ad14b34ee610f592f5960bece2be7be33500b8a638af869f8a8796404e75a", func := "thunk/thunklaw3.ReadAll", spec := "readAll", inPlace := ["internal/bytealg.IndexByteString", "internal/bytealg.IndexString"], recurses := true, named := ["unicode/utf8.first", "unicode/utf8.acceptRanges", "internal/bytealg.MaxLen"], apart := false, laid := [("unicode/utf8.acceptRanges", laid_unicode_utf8_acceptRanges), ("unicode/utf8.first", laid_unicode_utf8_first)] }
def ReadAllSaid : Prop := readAllRow.holds Tryd.pinned (OpenSpec.ofChange readAllSpec)

/-- ITS FALSE NEIGHBOUR: 'it returns false'. Refute it at one input. -/
def readAllWrong : ChangeSpec := { name := "readAll", fn := fun _ => fun
  | [d1, d2, d3, d4] => { results := [.lit (.bool false)], args := [d1, d2, d3, d4] }
  | _ => none }
def ReadAllWrongFalsely : Prop := readAllRow.holds Tryd.pinned (OpenSpec.ofChange readAllWrong)

/-- 'thunklaw3.ReadBack': WHATEVER THE INPUT: true; the input reads as it did. -/
def readBackSpec : ChangeSpec := { name := "readBack", fn := fun _ => fun
  | [d] => { results := [.lit (.bool true)], args := [d] }
  | _ => none }
def readBackRow : OpenClaim := { program := "ytahdiknkcgnieaadoor", sum := "cc7ad14b34ee610f592f5960bece2be7be33500b8a638af869f8a8796404e75a", func := "thunk/thunklaw3.ReadBack", spec := "readBack", inPlace := ["internal/bytealg.IndexByteString", "internal/bytealg.IndexString"], recurses := true, named := ["unicode/utf8.first", "unicode/utf8.acceptRanges", "internal/bytealg.MaxLen"], loops := true, apart := false, laid := [("unicode/utf8.acceptRanges", laid_unicode_utf8_acceptRanges), ("unicode/utf8.first", laid_unicode_utf8_first)] }
def ReadBackSaid : Prop := readBackRow.holds Tryd.pinned (OpenSpec.ofChange readBackSpec)

/-- ITS FALSE NEIGHBOUR: 'it returns false'. Refute it at one input. -/
def readBackWrong : ChangeSpec := { name := "readBack", fn := fun _ => fun
  | [d] => { results := [.lit (.bool false)], args := [d] }
  | _ => none }
def ReadBackWrongFalsely : Prop := readBackRow.holds Tryd.pinned (OpenSpec.ofChange readBackWrong)

/-- 'thunklaw3.ReadDeep': WHATEVER THE INPUT: true; the input reads as it did. -/
def readDeepSpec : ChangeSpec := { name := "readDeep", fn := fun _ => fun
  | [d1, d2] => { results := [.lit (.bool true)], args := [d1, d2] }
  | _ => none }
def readDeepRow : OpenClaim := { program := "ytahdiknkcgnieaadoor", sum := "cc7ad14b34ee610f592f5960bece2be7be33500b8a638af869f8a8796404e75a", func := "thunk/thunklaw3.ReadDeep", spec := "readDeep", inPlace := ["internal/bytealg.IndexByteString", "internal/bytealg.IndexString"], named := ["unicode/utf8.first", "unicode/utf8.acceptRanges", "internal/bytealg.MaxLen"], apart := false, laid := [("unicode/utf8.acceptRanges", laid_unicode_utf8_acceptRanges), ("unicode/utf8.first", laid_unicode_utf8_first)] }
def ReadDeepSaid : Prop := readDeepRow.holds Tryd.pinned (OpenSpec.ofChange readDeepSpec)

/-- ITS FALSE NEIGHBOUR: 'it returns false'. Refute it at one input. -/
def readDeepWrong : ChangeSpec := { name := "readDeep", fn := fun _ => fun
  | [d1, d2] => { results := [.lit (.bool false)], args := [d1, d2] }
  | _ => none }
def ReadDeepWrongFalsely : Prop := readDeepRow.holds Tryd.pinned (OpenSpec.ofChange readDeepWrong)

/-- 'thunklaw3.ReadKnown': WHATEVER THE INPUT: true; the input reads as it did. -/
def readKnownSpec : ChangeSpec := { name := "readKnown", fn := fun _ => fun
  | [d] => { results := [.lit (.bool true)], args := [d] }
  | _ => none }
def readKnownRow : OpenClaim := { program := "ytahdiknkcgnieaadoor", sum := "cc7ad14b34ee610f592f5960bece2be7be33500b8a638af869f8a8796404e75a", func := "thunk/thunklaw3.ReadKnown", spec := "readKnown", inPlace := ["internal/bytealg.IndexByteString", "internal/bytealg.IndexString"], recurses := true, named := ["unicode/utf8.first", "unicode/utf8.acceptRanges", "internal/bytealg.MaxLen"], apart := false, laid := [("unicode/utf8.acceptRanges", laid_unicode_utf8_acceptRanges), ("unicode/utf8.first", laid_unicode_utf8_first)] }
def ReadKnownSaid : Prop := readKnownRow.holds Tryd.pinned (OpenSpec.ofChange readKnownSpec)

/-- ITS FALSE NEIGHBOUR: 'it returns false'. Refute it at one input. -/
def readKnownWrong : ChangeSpec := { name := "readKnown", fn := fun _ => fun
  | [d] => { results := [.lit (.bool false)], args := [d] }
  | _ => none }
def ReadKnownWrongFalsely : Prop := readKnownRow.holds Tryd.pinned (OpenSpec.ofChange readKnownWrong)

/-- 'thunklaw3.ReadPlaces': WHATEVER THE INPUT: true; the input reads as it did. -/
def readPlacesSpec : ChangeSpec := { name := "readPlaces", fn := fun _ => fun
  | [d] => { results := [.lit (.bool true)], args := [d] }
  | _ => none }
def readPlacesRow : OpenClaim := { program := "ytahdiknkcgnieaadoor", sum := "cc7ad14b34ee610f592f5960bece2be7be33500b8a638af869f8a8796404e75a", func := "thunk/thunklaw3.ReadPlaces", spec := "readPlaces", inPlace := ["internal/bytealg.IndexByteString", "internal/bytealg.IndexString"], recurses := true, named := ["unicode/utf8.first", "unicode/utf8.acceptRanges", "internal/bytealg.MaxLen"], apart := false, laid := [("unicode/utf8.acceptRanges", laid_unicode_utf8_acceptRanges), ("unicode/utf8.first", laid_unicode_utf8_first)] }
def ReadPlacesSaid : Prop := readPlacesRow.holds Tryd.pinned (OpenSpec.ofChange readPlacesSpec)

/-- ITS FALSE NEIGHBOUR: 'it returns false'. Refute it at one input. -/
def readPlacesWrong : ChangeSpec := { name := "readPlaces", fn := fun _ => fun
  | [d] => { results := [.lit (.bool false)], args := [d] }
  | _ => none }
def ReadPlacesWrongFalsely : Prop := readPlacesRow.holds Tryd.pinned (OpenSpec.ofChange readPlacesWrong)

/-- 'thunklaw3.ReadLong': WHATEVER THE INPUT: true; the input reads as it did. -/
def readLongSpec : ChangeSpec := { name := "readLong", fn := fun _ => fun
  | [d] => { results := [.lit (.bool true)], args := [d] }
  | _ => none }
def readLongRow : OpenClaim := { program := "ytahdiknkcgnieaadoor", sum := "cc7ad14b34ee610f592f5960bece2be7be33500b8a638af869f8a8796404e75a", func := "thunk/thunklaw3.ReadLong", spec := "readLong", inPlace := ["internal/bytealg.IndexByteString", "internal/bytealg.IndexString"], named := ["unicode/utf8.first", "unicode/utf8.acceptRanges", "internal/bytealg.MaxLen"], apart := false, laid := [("unicode/utf8.acceptRanges", laid_unicode_utf8_acceptRanges), ("unicode/utf8.first", laid_unicode_utf8_first)] }
def ReadLongSaid : Prop := readLongRow.holds Tryd.pinned (OpenSpec.ofChange readLongSpec)

/-- ITS FALSE NEIGHBOUR: 'it returns false'. Refute it at one input. -/
def readLongWrong : ChangeSpec := { name := "readLong", fn := fun _ => fun
  | [d] => { results := [.lit (.bool false)], args := [d] }
  | _ => none }
def ReadLongWrongFalsely : Prop := readLongRow.holds Tryd.pinned (OpenSpec.ofChange readLongWrong)

/-- 'thunklaw3.ReadBlanks': WHATEVER THE INPUT: true; the input reads as it did. -/
def readBlanksSpec : ChangeSpec := { name := "readBlanks", fn := fun _ => fun
  | [d1, d2] => { results := [.lit (.bool true)], args := [d1, d2] }
  | _ => none }
def readBlanksRow : OpenClaim := { program := "ytahdiknkcgnieaadoor", sum := "cc7ad14b34ee610f592f5960bece2be7be33500b8a638af869f8a8796404e75a", func := "thunk/thunklaw3.ReadBlanks", spec := "readBlanks", inPlace := ["internal/bytealg.IndexByteString", "internal/bytealg.IndexString"], recurses := true, named := ["unicode/utf8.first", "unicode/utf8.acceptRanges", "internal/bytealg.MaxLen"], loops := true, apart := false, laid := [("unicode/utf8.acceptRanges", laid_unicode_utf8_acceptRanges), ("unicode/utf8.first", laid_unicode_utf8_first)] }
def ReadBlanksSaid : Prop := readBlanksRow.holds Tryd.pinned (OpenSpec.ofChange readBlanksSpec)

/-- ITS FALSE NEIGHBOUR: 'it returns false'. Refute it at one input. -/
def readBlanksWrong : ChangeSpec := { name := "readBlanks", fn := fun _ => fun
  | [d1, d2] => { results := [.lit (.bool false)], args := [d1, d2] }
  | _ => none }
def ReadBlanksWrongFalsely : Prop := readBlanksRow.holds Tryd.pinned (OpenSpec.ofChange readBlanksWrong)

/-- 'thunklaw3.ReadJoins': WHATEVER THE INPUT: true; the input reads as it did. -/
def readJoinsSpec : ChangeSpec := { name := "readJoins", fn := fun _ => fun
  | [d1, d2] => { results := [.lit (.bool true)], args := [d1, d2] }
  | _ => none }
def readJoinsRow : OpenClaim := { program := "ytahdiknkcgnieaadoor", sum := "cc7ad14b34ee610f592f5960bece2be7be33500b8a638af869f8a8796404e75a", func := "thunk/thunklaw3.ReadJoins", spec := "readJoins", inPlace := ["internal/bytealg.IndexByteString", "internal/bytealg.IndexString"], recurses := true, named := ["unicode/utf8.first", "unicode/utf8.acceptRanges", "internal/bytealg.MaxLen"], loops := true, apart := false, laid := [("unicode/utf8.acceptRanges", laid_unicode_utf8_acceptRanges), ("unicode/utf8.first", laid_unicode_utf8_first)] }
def ReadJoinsSaid : Prop := readJoinsRow.holds Tryd.pinned (OpenSpec.ofChange readJoinsSpec)

/-- ITS FALSE NEIGHBOUR: 'it returns false'. Refute it at one input. -/
def readJoinsWrong : ChangeSpec := { name := "readJoins", fn := fun _ => fun
  | [d1, d2] => { results := [.lit (.bool false)], args := [d1, d2] }
  | _ => none }
def ReadJoinsWrongFalsely : Prop := readJoinsRow.holds Tryd.pinned (OpenSpec.ofChange readJoinsWrong)

/-- 'thunklaw3.ReadQuotes': WHATEVER THE INPUT: true; the input reads as it did. -/
def readQuotesSpec : ChangeSpec := { name := "readQuotes", fn := fun _ => fun
  | [d1, d2] => { results := [.lit (.bool true)], args := [d1, d2] }
  | _ => none }
def readQuotesRow : OpenClaim := { program := "ytahdiknkcgnieaadoor", sum := "cc7ad14b34ee610f592f5960bece2be7be33500b8a638af869f8a8796404e75a", func := "thunk/thunklaw3.ReadQuotes", spec := "readQuotes", inPlace := ["internal/bytealg.IndexByteString", "internal/bytealg.IndexString"], recurses := true, named := ["unicode/utf8.first", "unicode/utf8.acceptRanges", "internal/bytealg.MaxLen"], loops := true, apart := false, laid := [("unicode/utf8.acceptRanges", laid_unicode_utf8_acceptRanges), ("unicode/utf8.first", laid_unicode_utf8_first)] }
def ReadQuotesSaid : Prop := readQuotesRow.holds Tryd.pinned (OpenSpec.ofChange readQuotesSpec)

/-- ITS FALSE NEIGHBOUR: 'it returns false'. Refute it at one input. -/
def readQuotesWrong : ChangeSpec := { name := "readQuotes", fn := fun _ => fun
  | [d1, d2] => { results := [.lit (.bool false)], args := [d1, d2] }
  | _ => none }
def ReadQuotesWrongFalsely : Prop := readQuotesRow.holds Tryd.pinned (OpenSpec.ofChange readQuotesWrong)

/-- 'thunklaw3.ReadEnds': WHATEVER THE INPUT: true; the input reads as it did. -/
def readEndsSpec : ChangeSpec := { name := "readEnds", fn := fun _ => fun
  | [d1, d2] => { results := [.lit (.bool true)], args := [d1, d2] }
  | _ => none }
def readEndsRow : OpenClaim := { program := "ytahdiknkcgnieaadoor", sum := "cc7ad14b34ee610f592f5960bece2be7be33500b8a638af869f8a8796404e75a", func := "thunk/thunklaw3.ReadEnds", spec := "readEnds", inPlace := ["internal/bytealg.IndexByteString", "internal/bytealg.IndexString"], recurses := true, named := ["unicode/utf8.first", "unicode/utf8.acceptRanges", "internal/bytealg.MaxLen"], loops := true, apart := false, laid := [("unicode/utf8.acceptRanges", laid_unicode_utf8_acceptRanges), ("unicode/utf8.first", laid_unicode_utf8_first)] }
def ReadEndsSaid : Prop := readEndsRow.holds Tryd.pinned (OpenSpec.ofChange readEndsSpec)

/-- ITS FALSE NEIGHBOUR: 'it returns false'. Refute it at one input. -/
def readEndsWrong : ChangeSpec := { name := "readEnds", fn := fun _ => fun
  | [d1, d2] => { results := [.lit (.bool false)], args := [d1, d2] }
  | _ => none }
def ReadEndsWrongFalsely : Prop := readEndsRow.holds Tryd.pinned (OpenSpec.ofChange readEndsWrong)

/- THE SECOND FORM. 'bulk': how many values and letters a reading holds, each counted each time it is reached (what is shared counts as often as it is met; a slice's spare places count too). A statement '..UptoSaid' is the law's where the arguments, and the package variables that the reading takes, are together of bulk at most 1048576: NARROWER than '..Said'. Prove '..Said' where nothing that the law and all that it calls make is longer than what came in: it says more and counts as full. Else prove '..UptoSaid'. A law counts once. -/
mutual
def uptoBulk {H : Type} : DataW H → Nat
  | .lit (.string bytes) => bytes.length + 1
  | .lit _ => 1
  | .nil => 1
  | .ptr d => uptoBulk d + 1
  | .slice elems spare => uptoBulkAll elems + uptoBulkAll spare + 1
  | .agg parts => uptoBulkAll parts + 1
  | .iface _ d => uptoBulk d + 1
  | .map entries => uptoBulkEntries entries + 1
  | .held _ => 1
def uptoBulkAll {H : Type} : List (DataW H) → Nat
  | [] => 0
  | d :: r => uptoBulk d + uptoBulkAll r
def uptoBulkEntries {H : Type} : List (Lit × DataW H) → Nat
  | [] => 0
  | x :: r => uptoBulkEntry x + uptoBulkEntries r
def uptoBulkEntry {H : Type} : Lit × DataW H → Nat
  | (.string bytes, d) => bytes.length + uptoBulk d + 1
  | (_, d) => uptoBulk d + 1
 end
def uptoSmall : (H : Type) → List (DataW H) → Bool := fun _ ds => decide (uptoBulkAll ds ≤ 1048576)
def OpenSpec.upto (s : _root_.Go.ChangeSpec) : _root_.Go.OpenSpec := { _root_.Go.OpenSpec.ofChange s with cond := some uptoSmall }

/-- 'thunklaw3.ReadAll', WHERE WHAT IT READS IS OF BULK AT MOST 1048576: true; the input reads as it did. -/
def readAllUptoRow : OpenClaim := { program := "ytahdiknkcgnieaadoor", sum := "cc7ad14b34ee610f592f5960bece2be7be33500b8a638af869f8a8796404e75a", func := "thunk/thunklaw3.ReadAll", spec := "readAll", inPlace := ["internal/bytealg.IndexByteString", "internal/bytealg.IndexString"], recurses := true, named := ["unicode/utf8.first", "unicode/utf8.acceptRanges", "internal/bytealg.MaxLen"], apart := false, laid := [("unicode/utf8.acceptRanges", laid_unicode_utf8_acceptRanges), ("unicode/utf8.first", laid_unicode_utf8_first)], narrowed := true }
def ReadAllUptoSaid : Prop := readAllUptoRow.holds Tryd.pinned (OpenSpec.upto readAllSpec)

/-- 'thunklaw3.ReadBack', WHERE WHAT IT READS IS OF BULK AT MOST 1048576: true; the input reads as it did. -/
def readBackUptoRow : OpenClaim := { program := "ytahdiknkcgnieaadoor", sum := "cc7ad14b34ee610f592f5960bece2be7be33500b8a638af869f8a8796404e75a", func := "thunk/thunklaw3.ReadBack", spec := "readBack", inPlace := ["internal/bytealg.IndexByteString", "internal/bytealg.IndexString"], recurses := true, named := ["unicode/utf8.first", "unicode/utf8.acceptRanges", "internal/bytealg.MaxLen"], loops := true, apart := false, laid := [("unicode/utf8.acceptRanges", laid_unicode_utf8_acceptRanges), ("unicode/utf8.first", laid_unicode_utf8_first)], narrowed := true }
def ReadBackUptoSaid : Prop := readBackUptoRow.holds Tryd.pinned (OpenSpec.upto readBackSpec)

/-- 'thunklaw3.ReadDeep', WHERE WHAT IT READS IS OF BULK AT MOST 1048576: true; the input reads as it did. -/
def readDeepUptoRow : OpenClaim := { program := "ytahdiknkcgnieaadoor", sum := "cc7ad14b34ee610f592f5960bece2be7be33500b8a638af869f8a8796404e75a", func := "thunk/thunklaw3.ReadDeep", spec := "readDeep", inPlace := ["internal/bytealg.IndexByteString", "internal/bytealg.IndexString"], named := ["unicode/utf8.first", "unicode/utf8.acceptRanges", "internal/bytealg.MaxLen"], apart := false, laid := [("unicode/utf8.acceptRanges", laid_unicode_utf8_acceptRanges), ("unicode/utf8.first", laid_unicode_utf8_first)], narrowed := true }
def ReadDeepUptoSaid : Prop := readDeepUptoRow.holds Tryd.pinned (OpenSpec.upto readDeepSpec)

/-- 'thunklaw3.ReadKnown', WHERE WHAT IT READS IS OF BULK AT MOST 1048576: true; the input reads as it did. -/
def readKnownUptoRow : OpenClaim := { program := "ytahdiknkcgnieaadoor", sum := "cc7ad14b34ee610f592f5960bece2be7be33500b8a638af869f8a8796404e75a", func := "thunk/thunklaw3.ReadKnown", spec := "readKnown", inPlace := ["internal/bytealg.IndexByteString", "internal/bytealg.IndexString"], recurses := true, named := ["unicode/utf8.first", "unicode/utf8.acceptRanges", "internal/bytealg.MaxLen"], apart := false, laid := [("unicode/utf8.acceptRanges", laid_unicode_utf8_acceptRanges), ("unicode/utf8.first", laid_unicode_utf8_first)], narrowed := true }
def ReadKnownUptoSaid : Prop := readKnownUptoRow.holds Tryd.pinned (OpenSpec.upto readKnownSpec)

/-- 'thunklaw3.ReadPlaces', WHERE WHAT IT READS IS OF BULK AT MOST 1048576: true; the input reads as it did. -/
def readPlacesUptoRow : OpenClaim := { program := "ytahdiknkcgnieaadoor", sum := "cc7ad14b34ee610f592f5960bece2be7be33500b8a638af869f8a8796404e75a", func := "thunk/thunklaw3.ReadPlaces", spec := "readPlaces", inPlace := ["internal/bytealg.IndexByteString", "internal/bytealg.IndexString"], recurses := true, named := ["unicode/utf8.first", "unicode/utf8.acceptRanges", "internal/bytealg.MaxLen"], apart := false, laid := [("unicode/utf8.acceptRanges", laid_unicode_utf8_acceptRanges), ("unicode/utf8.first", laid_unicode_utf8_first)], narrowed := true }
def ReadPlacesUptoSaid : Prop := readPlacesUptoRow.holds Tryd.pinned (OpenSpec.upto readPlacesSpec)

/-- 'thunklaw3.ReadLong', WHERE WHAT IT READS IS OF BULK AT MOST 1048576: true; the input reads as it did. -/
def readLongUptoRow : OpenClaim := { program := "ytahdiknkcgnieaadoor", sum := "cc7ad14b34ee610f592f5960bece2be7be33500b8a638af869f8a8796404e75a", func := "thunk/thunklaw3.ReadLong", spec := "readLong", inPlace := ["internal/bytealg.IndexByteString", "internal/bytealg.IndexString"], named := ["unicode/utf8.first", "unicode/utf8.acceptRanges", "internal/bytealg.MaxLen"], apart := false, laid := [("unicode/utf8.acceptRanges", laid_unicode_utf8_acceptRanges), ("unicode/utf8.first", laid_unicode_utf8_first)], narrowed := true }
def ReadLongUptoSaid : Prop := readLongUptoRow.holds Tryd.pinned (OpenSpec.upto readLongSpec)

/-- 'thunklaw3.ReadBlanks', WHERE WHAT IT READS IS OF BULK AT MOST 1048576: true; the input reads as it did. -/
def readBlanksUptoRow : OpenClaim := { program := "ytahdiknkcgnieaadoor", sum := "cc7ad14b34ee610f592f5960bece2be7be33500b8a638af869f8a8796404e75a", func := "thunk/thunklaw3.ReadBlanks", spec := "readBlanks", inPlace := ["internal/bytealg.IndexByteString", "internal/bytealg.IndexString"], recurses := true, named := ["unicode/utf8.first", "unicode/utf8.acceptRanges", "internal/bytealg.MaxLen"], loops := true, apart := false, laid := [("unicode/utf8.acceptRanges", laid_unicode_utf8_acceptRanges), ("unicode/utf8.first", laid_unicode_utf8_first)], narrowed := true }
def ReadBlanksUptoSaid : Prop := readBlanksUptoRow.holds Tryd.pinned (OpenSpec.upto readBlanksSpec)

/-- 'thunklaw3.ReadJoins', WHERE WHAT IT READS IS OF BULK AT MOST 1048576: true; the input reads as it did. -/
def readJoinsUptoRow : OpenClaim := { program := "ytahdiknkcgnieaadoor", sum := "cc7ad14b34ee610f592f5960bece2be7be33500b8a638af869f8a8796404e75a", func := "thunk/thunklaw3.ReadJoins", spec := "readJoins", inPlace := ["internal/bytealg.IndexByteString", "internal/bytealg.IndexString"], recurses := true, named := ["unicode/utf8.first", "unicode/utf8.acceptRanges", "internal/bytealg.MaxLen"], loops := true, apart := false, laid := [("unicode/utf8.acceptRanges", laid_unicode_utf8_acceptRanges), ("unicode/utf8.first", laid_unicode_utf8_first)], narrowed := true }
def ReadJoinsUptoSaid : Prop := readJoinsUptoRow.holds Tryd.pinned (OpenSpec.upto readJoinsSpec)

/-- 'thunklaw3.ReadQuotes', WHERE WHAT IT READS IS OF BULK AT MOST 1048576: true; the input reads as it did. -/
def readQuotesUptoRow : OpenClaim := { program := "ytahdiknkcgnieaadoor", sum := "cc7ad14b34ee610f592f5960bece2be7be33500b8a638af869f8a8796404e75a", func := "thunk/thunklaw3.ReadQuotes", spec := "readQuotes", inPlace := ["internal/bytealg.IndexByteString", "internal/bytealg.IndexString"], recurses := true, named := ["unicode/utf8.first", "unicode/utf8.acceptRanges", "internal/bytealg.MaxLen"], loops := true, apart := false, laid := [("unicode/utf8.acceptRanges", laid_unicode_utf8_acceptRanges), ("unicode/utf8.first", laid_unicode_utf8_first)], narrowed := true }
def ReadQuotesUptoSaid : Prop := readQuotesUptoRow.holds Tryd.pinned (OpenSpec.upto readQuotesSpec)

/-- 'thunklaw3.ReadEnds', WHERE WHAT IT READS IS OF BULK AT MOST 1048576: true; the input reads as it did. -/
def readEndsUptoRow : OpenClaim := { program := "ytahdiknkcgnieaadoor", sum := "cc7ad14b34ee610f592f5960bece2be7be33500b8a638af869f8a8796404e75a", func := "thunk/thunklaw3.ReadEnds", spec := "readEnds", inPlace := ["internal/bytealg.IndexByteString", "internal/bytealg.IndexString"], recurses := true, named := ["unicode/utf8.first", "unicode/utf8.acceptRanges", "internal/bytealg.MaxLen"], loops := true, apart := false, laid := [("unicode/utf8.acceptRanges", laid_unicode_utf8_acceptRanges), ("unicode/utf8.first", laid_unicode_utf8_first)], narrowed := true }
def ReadEndsUptoSaid : Prop := readEndsUptoRow.holds Tryd.pinned (OpenSpec.upto readEndsSpec)

end Rows
end Go.Proofs.YtahdiknkcgnieaaDoor
