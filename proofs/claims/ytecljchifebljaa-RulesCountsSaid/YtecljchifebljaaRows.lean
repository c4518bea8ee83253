/-
  NARROWER THAN 'FOR EVERY INPUT', by the rows' own cells (each row's printed sentence says how): RulesCheck: loops · RulesMatch: loops · RulesFill: loops · RulesMarks: loops · RulesNames: loops · RulesLits: loops.
  DERIVED. THE GIVEN ROWS OF THIS SEAT. 11 by the template 'for every input the law returns true; each argument reads behind the call as it read before'; 0 by the template 'total and deterministic' (their statements: YtecljchifebljaaTotals.lean).
  GIVEN WITH THE SEED: the statements are not yours to turn. If you find one false, say at which input.
  Laid BY PROGRAM, IN A SANDBOX (cutbox-rows.mjs): the forced cells as the released guide's own fill.sh prints them over the translation 05735ac16529fda5… (all of the seat's roots in one cut). By AI agents, Wed Nov 11 2026. No macro, syntax, notation, axiom, sorry.
-/
import Derived.Test.YtecljchifebljaaChecked
import GoSem.Claim
import GoSem.ClaimJoined
import GoSem.ClaimMapViews
import Derived.JoinedTies
import Derived.KernelRfl
namespace Go.Proofs.Ytecljchifebljaa
/- THE CELL 'sum', in the pinned program and in every row, IS THE sha256 OF THE DUMP (.gsa) THAT YtecljchifebljaaProg.lean LOADS. Nothing in Lean hashes anything: it is a label: what it is worth is what the hold of that sum in a sandbox is worth. -/
noncomputable def Try.pinned : Pinned := { name := "ytecljchifebljaa", sum := "05735ac16529fda57096a305d0782fff69d0b934f17f532495c49f209a1ea52d", checked := Try.checked }
namespace Rows
def none {H : Type} : Left H := { results := [], args := [] }

/-- 'thunklaw4.RulesCheck': WHATEVER THE INPUT: true; the input reads as it did. -/
def rulesCheckSpec : ChangeSpec := { name := "rulesCheck", fn := fun _ => fun
  | [d1, d2, d3, d4, d5] => { results := [.lit (.bool true)], args := [d1, d2, d3, d4, d5] }
  | _ => none }
def rulesCheckRow : OpenClaim := { program := "ytecljchifebljaa", sum := "05735ac16529fda57096a305d0782fff69d0b934f17f532495c49f209a1ea52d", func := "thunk/thunklaw4.RulesCheck", spec := "rulesCheck", unfollowed := true, recurses := true, loops := true, plainKeys := false, apart := false }
def RulesCheckSaid : Prop := rulesCheckRow.holds Try.pinned (OpenSpec.ofChange rulesCheckSpec)

/-- ITS FALSE NEIGHBOUR: 'it returns false'. Refute it at one input. -/
def rulesCheckWrong : ChangeSpec := { name := "rulesCheck", fn := fun _ => fun
  | [d1, d2, d3, d4, d5] => { results := [.lit (.bool false)], args := [d1, d2, d3, d4, d5] }
  | _ => none }
def RulesCheckWrongFalsely : Prop := rulesCheckRow.holds Try.pinned (OpenSpec.ofChange rulesCheckWrong)

/-- 'thunklaw4.RulesMatch': WHATEVER THE INPUT: true; the input reads as it did. -/
def rulesMatchSpec : ChangeSpec := { name := "rulesMatch", fn := fun _ => fun
  | [d1, d2, d3, d4, d5] => { results := [.lit (.bool true)], args := [d1, d2, d3, d4, d5] }
  | _ => none }
def rulesMatchRow : OpenClaim := { program := "ytecljchifebljaa", sum := "05735ac16529fda57096a305d0782fff69d0b934f17f532495c49f209a1ea52d", func := "thunk/thunklaw4.RulesMatch", spec := "rulesMatch", unfollowed := true, recurses := true, loops := true, plainKeys := false, apart := false }
def RulesMatchSaid : Prop := rulesMatchRow.holds Try.pinned (OpenSpec.ofChange rulesMatchSpec)

/-- ITS FALSE NEIGHBOUR: 'it returns false'. Refute it at one input. -/
def rulesMatchWrong : ChangeSpec := { name := "rulesMatch", fn := fun _ => fun
  | [d1, d2, d3, d4, d5] => { results := [.lit (.bool false)], args := [d1, d2, d3, d4, d5] }
  | _ => none }
def RulesMatchWrongFalsely : Prop := rulesMatchRow.holds Try.pinned (OpenSpec.ofChange rulesMatchWrong)

/-- 'thunklaw4.RulesFill': WHATEVER THE INPUT: true; the input reads as it did. -/
def rulesFillSpec : ChangeSpec := { name := "rulesFill", fn := fun _ => fun
  | [d1, d2, d3, d4, d5] => { results := [.lit (.bool true)], args := [d1, d2, d3, d4, d5] }
  | _ => none }
def rulesFillRow : OpenClaim := { program := "ytecljchifebljaa", sum := "05735ac16529fda57096a305d0782fff69d0b934f17f532495c49f209a1ea52d", func := "thunk/thunklaw4.RulesFill", spec := "rulesFill", unfollowed := true, recurses := true, loops := true, plainKeys := false, apart := false }
def RulesFillSaid : Prop := rulesFillRow.holds Try.pinned (OpenSpec.ofChange rulesFillSpec)

/-- ITS FALSE NEIGHBOUR: 'it returns false'. Refute it at one input. -/
def rulesFillWrong : ChangeSpec := { name := "rulesFill", fn := fun _ => fun
  | [d1, d2, d3, d4, d5] => { results := [.lit (.bool false)], args := [d1, d2, d3, d4, d5] }
  | _ => none }
def RulesFillWrongFalsely : Prop := rulesFillRow.holds Try.pinned (OpenSpec.ofChange rulesFillWrong)

/-- 'thunklaw4.RulesShaped': WHATEVER THE INPUT: true; the input reads as it did. -/
def rulesShapedSpec : ChangeSpec := { name := "rulesShaped", fn := fun _ => fun
  | [d1, d2] => { results := [.lit (.bool true)], args := [d1, d2] }
  | _ => none }
def rulesShapedRow : OpenClaim := { program := "ytecljchifebljaa", sum := "05735ac16529fda57096a305d0782fff69d0b934f17f532495c49f209a1ea52d", func := "thunk/thunklaw4.RulesShaped", spec := "rulesShaped", unfollowed := true, recurses := true, plainKeys := false, apart := false }
def RulesShapedSaid : Prop := rulesShapedRow.holds Try.pinned (OpenSpec.ofChange rulesShapedSpec)

/-- ITS FALSE NEIGHBOUR: 'it returns false'. Refute it at one input. -/
def rulesShapedWrong : ChangeSpec := { name := "rulesShaped", fn := fun _ => fun
  | [d1, d2] => { results := [.lit (.bool false)], args := [d1, d2] }
  | _ => none }
def RulesShapedWrongFalsely : Prop := rulesShapedRow.holds Try.pinned (OpenSpec.ofChange rulesShapedWrong)

/-- 'thunklaw4.RulesMarks': WHATEVER THE INPUT: true; the input reads as it did. -/
def rulesMarksSpec : ChangeSpec := { name := "rulesMarks", fn := fun _ => fun
  | [d1, d2, d3] => { results := [.lit (.bool true)], args := [d1, d2, d3] }
  | _ => none }
def rulesMarksRow : OpenClaim := { program := "ytecljchifebljaa", sum := "05735ac16529fda57096a305d0782fff69d0b934f17f532495c49f209a1ea52d", func := "thunk/thunklaw4.RulesMarks", spec := "rulesMarks", unfollowed := true, recurses := true, loops := true, plainKeys := false, apart := false }
def RulesMarksSaid : Prop := rulesMarksRow.holds Try.pinned (OpenSpec.ofChange rulesMarksSpec)

/-- ITS FALSE NEIGHBOUR: 'it returns false'. Refute it at one input. -/
def rulesMarksWrong : ChangeSpec := { name := "rulesMarks", fn := fun _ => fun
  | [d1, d2, d3] => { results := [.lit (.bool false)], args := [d1, d2, d3] }
  | _ => none }
def RulesMarksWrongFalsely : Prop := rulesMarksRow.holds Try.pinned (OpenSpec.ofChange rulesMarksWrong)

/-- 'thunklaw4.RulesKnown': WHATEVER THE INPUT: true; the input reads as it did. -/
def rulesKnownSpec : ChangeSpec := { name := "rulesKnown", fn := fun _ => fun
  | [d] => { results := [.lit (.bool true)], args := [d] }
  | _ => none }
def rulesKnownRow : OpenClaim := { program := "ytecljchifebljaa", sum := "05735ac16529fda57096a305d0782fff69d0b934f17f532495c49f209a1ea52d", func := "thunk/thunklaw4.RulesKnown", spec := "rulesKnown", unfollowed := true, recurses := true, plainKeys := false, apart := false }
def RulesKnownSaid : Prop := rulesKnownRow.holds Try.pinned (OpenSpec.ofChange rulesKnownSpec)

/-- ITS FALSE NEIGHBOUR: 'it returns false'. Refute it at one input. -/
def rulesKnownWrong : ChangeSpec := { name := "rulesKnown", fn := fun _ => fun
  | [d] => { results := [.lit (.bool false)], args := [d] }
  | _ => none }
def RulesKnownWrongFalsely : Prop := rulesKnownRow.holds Try.pinned (OpenSpec.ofChange rulesKnownWrong)

/-- 'thunklaw4.RulesErrs': WHATEVER THE INPUT: true; the input reads as it did. -/
def rulesErrsSpec : ChangeSpec := { name := "rulesErrs", fn := fun _ => fun
  | [d] => { results := [.lit (.bool true)], args := [d] }
  | _ => none }
def rulesErrsRow : OpenClaim := { program := "ytecljchifebljaa", sum := "05735ac16529fda57096a305d0782fff69d0b934f17f532495c49f209a1ea52d", func := "thunk/thunklaw4.RulesErrs", spec := "rulesErrs", unfollowed := true, recurses := true, plainKeys := false, apart := false }
def RulesErrsSaid : Prop := rulesErrsRow.holds Try.pinned (OpenSpec.ofChange rulesErrsSpec)

/-- ITS FALSE NEIGHBOUR: 'it returns false'. Refute it at one input. -/
def rulesErrsWrong : ChangeSpec := { name := "rulesErrs", fn := fun _ => fun
  | [d] => { results := [.lit (.bool false)], args := [d] }
  | _ => none }
def RulesErrsWrongFalsely : Prop := rulesErrsRow.holds Try.pinned (OpenSpec.ofChange rulesErrsWrong)

/-- 'thunklaw4.RulesOwn': WHATEVER THE INPUT: true; the input reads as it did. -/
def rulesOwnSpec : ChangeSpec := { name := "rulesOwn", fn := fun _ => fun
  | [d1, d2] => { results := [.lit (.bool true)], args := [d1, d2] }
  | _ => none }
def rulesOwnRow : OpenClaim := { program := "ytecljchifebljaa", sum := "05735ac16529fda57096a305d0782fff69d0b934f17f532495c49f209a1ea52d", func := "thunk/thunklaw4.RulesOwn", spec := "rulesOwn", unfollowed := true, recurses := true, plainKeys := false, apart := false }
def RulesOwnSaid : Prop := rulesOwnRow.holds Try.pinned (OpenSpec.ofChange rulesOwnSpec)

/-- ITS FALSE NEIGHBOUR: 'it returns false'. Refute it at one input. -/
def rulesOwnWrong : ChangeSpec := { name := "rulesOwn", fn := fun _ => fun
  | [d1, d2] => { results := [.lit (.bool false)], args := [d1, d2] }
  | _ => none }
def RulesOwnWrongFalsely : Prop := rulesOwnRow.holds Try.pinned (OpenSpec.ofChange rulesOwnWrong)

/-- 'thunklaw4.RulesNames': WHATEVER THE INPUT: true; the input reads as it did. -/
def rulesNamesSpec : ChangeSpec := { name := "rulesNames", fn := fun _ => fun
  | [d1, d2] => { results := [.lit (.bool true)], args := [d1, d2] }
  | _ => none }
def rulesNamesRow : OpenClaim := { program := "ytecljchifebljaa", sum := "05735ac16529fda57096a305d0782fff69d0b934f17f532495c49f209a1ea52d", func := "thunk/thunklaw4.RulesNames", spec := "rulesNames", unfollowed := true, recurses := true, loops := true, plainKeys := false, apart := false }
def RulesNamesSaid : Prop := rulesNamesRow.holds Try.pinned (OpenSpec.ofChange rulesNamesSpec)

/-- ITS FALSE NEIGHBOUR: 'it returns false'. Refute it at one input. -/
def rulesNamesWrong : ChangeSpec := { name := "rulesNames", fn := fun _ => fun
  | [d1, d2] => { results := [.lit (.bool false)], args := [d1, d2] }
  | _ => none }
def RulesNamesWrongFalsely : Prop := rulesNamesRow.holds Try.pinned (OpenSpec.ofChange rulesNamesWrong)

/-- 'thunklaw4.RulesLits': WHATEVER THE INPUT: true; the input reads as it did. -/
def rulesLitsSpec : ChangeSpec := { name := "rulesLits", fn := fun _ => fun
  | [d1, d2] => { results := [.lit (.bool true)], args := [d1, d2] }
  | _ => none }
def rulesLitsRow : OpenClaim := { program := "ytecljchifebljaa", sum := "05735ac16529fda57096a305d0782fff69d0b934f17f532495c49f209a1ea52d", func := "thunk/thunklaw4.RulesLits", spec := "rulesLits", unfollowed := true, recurses := true, loops := true, plainKeys := false, apart := false }
def RulesLitsSaid : Prop := rulesLitsRow.holds Try.pinned (OpenSpec.ofChange rulesLitsSpec)

/-- ITS FALSE NEIGHBOUR: 'it returns false'. Refute it at one input. -/
def rulesLitsWrong : ChangeSpec := { name := "rulesLits", fn := fun _ => fun
  | [d1, d2] => { results := [.lit (.bool false)], args := [d1, d2] }
  | _ => none }
def RulesLitsWrongFalsely : Prop := rulesLitsRow.holds Try.pinned (OpenSpec.ofChange rulesLitsWrong)

/-- 'thunklaw4.RulesCounts': WHATEVER THE INPUT: true; the input reads as it did. -/
def rulesCountsSpec : ChangeSpec := { name := "rulesCounts", fn := fun _ => fun
  | [d1, d2, d3] => { results := [.lit (.bool true)], args := [d1, d2, d3] }
  | _ => none }
def rulesCountsRow : OpenClaim := { program := "ytecljchifebljaa", sum := "05735ac16529fda57096a305d0782fff69d0b934f17f532495c49f209a1ea52d", func := "thunk/thunklaw4.RulesCounts", spec := "rulesCounts", unfollowed := true, recurses := true, plainKeys := false, apart := false }
def RulesCountsSaid : Prop := rulesCountsRow.holds Try.pinned (OpenSpec.ofChange rulesCountsSpec)

/-- ITS FALSE NEIGHBOUR: 'it returns false'. Refute it at one input. -/
def rulesCountsWrong : ChangeSpec := { name := "rulesCounts", fn := fun _ => fun
  | [d1, d2, d3] => { results := [.lit (.bool false)], args := [d1, d2, d3] }
  | _ => none }
def RulesCountsWrongFalsely : Prop := rulesCountsRow.holds Try.pinned (OpenSpec.ofChange rulesCountsWrong)

/- THE SECOND FORM. 'bulk': how many values and letters a reading holds, each counted each time it is reached (what is shared counts as often as it is met; a slice's spare places count too). A statement '..UptoSaid' is the law's where the arguments, and the package variables that the reading takes, are together of bulk at most 1048576: NARROWER than '..Said'. Prove '..Said' where nothing that the law and all that it calls make is longer than what came in: it says more and counts as full. Else prove '..UptoSaid'. A law counts once. -/
mutual
def uptoBulk {H : Type} : DataW H → Nat
  | .lit (.string bytes) => bytes.length + 1
  | .lit _ => 1
  | .nil => 1
  | .ptr d => uptoBulk d + 1
  | .slice elems spare => uptoBulkAll elems + uptoBulkAll spare + 1
  | .agg parts => uptoBulkAll parts + 1
  | .iface _ d => uptoBulk d + 1
  | .map entries => uptoBulkEntries entries + 1
  | .held _ => 1
def uptoBulkAll {H : Type} : List (DataW H) → Nat
  | [] => 0
  | d :: r => uptoBulk d + uptoBulkAll r
def uptoBulkEntries {H : Type} : List (Lit × DataW H) → Nat
  | [] => 0
  | x :: r => uptoBulkEntry x + uptoBulkEntries r
def uptoBulkEntry {H : Type} : Lit × DataW H → Nat
  | (.string bytes, d) => bytes.length + uptoBulk d + 1
  | (_, d) => uptoBulk d + 1
 end
def uptoSmall : (H : Type) → List (DataW H) → Bool := fun _ ds => decide (uptoBulkAll ds ≤ 1048576)
def OpenSpec.upto (s : _root_.Go.ChangeSpec) : _root_.Go.OpenSpec := { _root_.Go.OpenSpec.ofChange s with cond := some uptoSmall }

/-- 'thunklaw4.RulesCheck', WHERE WHAT IT READS IS OF BULK AT MOST 1048576: true; the input reads as it did. -/
def rulesCheckUptoRow : OpenClaim := { program := "ytecljchifebljaa", sum := "05735ac16529fda57096a305d0782fff69d0b934f17f532495c49f209a1ea52d", func := "thunk/thunklaw4.RulesCheck", spec := "rulesCheck", unfollowed := true, recurses := true, loops := true, plainKeys := false, apart := false, narrowed := true }
def RulesCheckUptoSaid : Prop := rulesCheckUptoRow.holds Try.pinned (OpenSpec.upto rulesCheckSpec)

/-- 'thunklaw4.RulesMatch', WHERE WHAT IT READS IS OF BULK AT MOST 1048576: true; the input reads as it did. -/
def rulesMatchUptoRow : OpenClaim := { program := "ytecljchifebljaa", sum := "05735ac16529fda57096a305d0782fff69d0b934f17f532495c49f209a1ea52d", func := "thunk/thunklaw4.RulesMatch", spec := "rulesMatch", unfollowed := true, recurses := true, loops := true, plainKeys := false, apart := false, narrowed := true }
def RulesMatchUptoSaid : Prop := rulesMatchUptoRow.holds Try.pinned (OpenSpec.upto rulesMatchSpec)

/-- 'thunklaw4.RulesFill', WHERE WHAT IT READS IS OF BULK AT MOST 1048576: true; the input reads as it did. -/
def rulesFillUptoRow : OpenClaim := { program := "ytecljchifebljaa", sum := "05735ac16529fda57096a305d0782fff69d0b934f17f532495c49f209a1ea52d", func := "thunk/thunklaw4.RulesFill", spec := "rulesFill", unfollowed := true, recurses := true, loops := true, plainKeys := false, apart := false, narrowed := true }
def RulesFillUptoSaid : Prop := rulesFillUptoRow.holds Try.pinned (OpenSpec.upto rulesFillSpec)

/-- 'thunklaw4.RulesShaped', WHERE WHAT IT READS IS OF BULK AT MOST 1048576: true; the input reads as it did. -/
def rulesShapedUptoRow : OpenClaim := { program := "ytecljchifebljaa", sum := "05735ac16529fda57096a305d0782fff69d0b934f17f532495c49f209a1ea52d", func := "thunk/thunklaw4.RulesShaped", spec := "rulesShaped", unfollowed := true, recurses := true, plainKeys := false, apart := false, narrowed := true }
def RulesShapedUptoSaid : Prop := rulesShapedUptoRow.holds Try.pinned (OpenSpec.upto rulesShapedSpec)

/-- 'thunklaw4.RulesMarks', WHERE WHAT IT READS IS OF BULK AT MOST 1048576: true; the input reads as it did. -/
def rulesMarksUptoRow : OpenClaim := { program := "ytecljchifebljaa", sum := "05735ac16529fda57096a305d0782fff69d0b934f17f532495c49f209a1ea52d", func := "thunk/thunklaw4.RulesMarks", spec := "rulesMarks", unfollowed := true, recurses := true, loops := true, plainKeys := false, apart := false, narrowed := true }
def RulesMarksUptoSaid : Prop := rulesMarksUptoRow.holds Try.pinned (OpenSpec.upto rulesMarksSpec)

/-- 'thunklaw4.RulesKnown', WHERE WHAT IT READS IS OF BULK AT MOST 1048576: true; the input reads as it did. -/
def rulesKnownUptoRow : OpenClaim := { program := "ytecljchifebljaa", sum := "05735ac16529fda57096a305d0782fff69d0b934f17f532495c49f209a1ea52d", func := "thunk/thunklaw4.RulesKnown", spec := "rulesKnown", unfollowed := true, recurses := true, plainKeys := false, apart := false, narrowed := true }
def RulesKnownUptoSaid : Prop := rulesKnownUptoRow.holds Try.pinned (OpenSpec.upto rulesKnownSpec)

/-- 'thunklaw4.RulesErrs', WHERE WHAT IT READS IS OF BULK AT MOST 1048576: true; the input reads as it did. -/
def rulesErrsUptoRow : OpenClaim := { program := "ytecljchifebljaa", sum := "05735ac16529fda57096a305d0782fff69d0b934f17f532495c49f209a1ea52d", func := "thunk/thunklaw4.RulesErrs", spec := "rulesErrs", unfollowed := true, recurses := true, plainKeys := false, apart := false, narrowed := true }
def RulesErrsUptoSaid : Prop := rulesErrsUptoRow.holds Try.pinned (OpenSpec.upto rulesErrsSpec)

/-- 'thunklaw4.RulesOwn', WHERE WHAT IT READS IS OF BULK AT MOST 1048576: true; the input reads as it did. -/
def rulesOwnUptoRow : OpenClaim := { program := "ytecljchifebljaa", sum := "05735ac16529fda57096a305d0782fff69d0b934f17f532495c49f209a1ea52d", func := "thunk/thunklaw4.RulesOwn", spec := "rulesOwn", unfollowed := true, recurses := true, plainKeys := false, apart := false, narrowed := true }
def RulesOwnUptoSaid : Prop := rulesOwnUptoRow.holds Try.pinned (OpenSpec.upto rulesOwnSpec)

/-- 'thunklaw4.RulesNames', WHERE WHAT IT READS IS OF BULK AT MOST 1048576: true; the input reads as it did. -/
def rulesNamesUptoRow : OpenClaim := { program := "ytecljchifebljaa", sum := "05735ac16529fda57096a305d0782fff69d0b934f17f532495c49f209a1ea52d", func := "thunk/thunklaw4.RulesNames", spec := "rulesNames", unfollowed := true, recurses := true, loops := true, plainKeys := false, apart := false, narrowed := true }
def RulesNamesUptoSaid : Prop := rulesNamesUptoRow.holds Try.pinned (OpenSpec.upto rulesNamesSpec)

/-- 'thunklaw4.RulesLits', WHERE WHAT IT READS IS OF BULK AT MOST 1048576: true; the input reads as it did. -/
def rulesLitsUptoRow : OpenClaim := { program := "ytecljchifebljaa", sum := "05735ac16529fda57096a305d0782fff69d0b934f17f532495c49f209a1ea52d", func := "thunk/thunklaw4.RulesLits", spec := "rulesLits", unfollowed := true, recurses := true, loops := true, plainKeys := false, apart := false, narrowed := true }
def RulesLitsUptoSaid : Prop := rulesLitsUptoRow.holds Try.pinned (OpenSpec.upto rulesLitsSpec)

/-- 'thunklaw4.RulesCounts', WHERE WHAT IT READS IS OF BULK AT MOST 1048576: true; the input reads as it did. -/
def rulesCountsUptoRow : OpenClaim := { program := "ytecljchifebljaa", sum := "05735ac16529fda57096a305d0782fff69d0b934f17f532495c49f209a1ea52d", func := "thunk/thunklaw4.RulesCounts", spec := "rulesCounts", unfollowed := true, recurses := true, plainKeys := false, apart := false, narrowed := true }
def RulesCountsUptoSaid : Prop := rulesCountsUptoRow.holds Try.pinned (OpenSpec.upto rulesCountsSpec)

end Rows
end Go.Proofs.Ytecljchifebljaa
