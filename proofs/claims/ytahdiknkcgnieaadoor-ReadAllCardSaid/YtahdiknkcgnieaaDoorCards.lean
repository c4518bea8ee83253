/-
  DERIVED. GIVEN WITH THE SEED: THE CARDS: each row of YtahdiknkcgnieaaDoorRows.lean that lists a variable, with what it lists TIED to the program's text (the seventh form; the later family's looks); each row that meets fmt, with fmt's text TOLD by the authors' own Lean function (tested against real Go, not proved from fmt's source: count such statements apart). THE CARD IS WHAT COUNTS. Prove the row's statement (the work); the ties are given (YtahdiknkcgnieaaDoorTie.lean); close each card by the builder's one call (the guide's Derived/Test/ToyasCard.lean, 'card_holds'). Laid BY PROGRAM, IN A SANDBOX (cutbox-door.mjs). By AI agents, Wed Nov 11 2026. No macro, syntax, notation, axiom, sorry.
-/
import Derived.Test.YtahdiknkcgnieaaDoorRows
import GoSem.ClaimSeven
namespace Go.Proofs.YtahdiknkcgnieaaDoor
namespace Rows

/-- THE TIED CARD OF 'thunklaw3.ReadAll'. -/
def readAllCard : Claim7 := { stood := { row := readAllRow, standIns := [], harness := (true, "04e9c376fe8a9c0348b2bc423b175f06ad960f9f291cbcd165856fb5a13b248c"), looks := false }, kinds := [], alts := [], laidByText := true, laidKinds := [.data, .pinned], laidTests := true, laidLooks := .later }
def ReadAllCardSaid : Prop := Claim7.holds Tryd.pinned (.plain (OpenSpec.ofChange readAllSpec)) readAllCard

/-- THE TIED CARD OF 'thunklaw3.ReadBack'. -/
def readBackCard : Claim7 := { stood := { row := readBackRow, standIns := [], harness := (true, "04e9c376fe8a9c0348b2bc423b175f06ad960f9f291cbcd165856fb5a13b248c"), looks := false }, kinds := [], alts := [], laidByText := true, laidKinds := [.data, .pinned], laidTests := true, laidLooks := .later }
def ReadBackCardSaid : Prop := Claim7.holds Tryd.pinned (.plain (OpenSpec.ofChange readBackSpec)) readBackCard

/-- THE TIED CARD OF 'thunklaw3.ReadDeep'. -/
def readDeepCard : Claim7 := { stood := { row := readDeepRow, standIns := [], harness := (true, "04e9c376fe8a9c0348b2bc423b175f06ad960f9f291cbcd165856fb5a13b248c"), looks := false }, kinds := [], alts := [], laidByText := true, laidKinds := [.data, .pinned], laidTests := true, laidLooks := .later }
def ReadDeepCardSaid : Prop := Claim7.holds Tryd.pinned (.plain (OpenSpec.ofChange readDeepSpec)) readDeepCard

/-- THE TIED CARD OF 'thunklaw3.ReadKnown'. -/
def readKnownCard : Claim7 := { stood := { row := readKnownRow, standIns := [], harness := (true, "04e9c376fe8a9c0348b2bc423b175f06ad960f9f291cbcd165856fb5a13b248c"), looks := false }, kinds := [], alts := [], laidByText := true, laidKinds := [.data, .pinned], laidTests := true, laidLooks := .later }
def ReadKnownCardSaid : Prop := Claim7.holds Tryd.pinned (.plain (OpenSpec.ofChange readKnownSpec)) readKnownCard

/-- THE TIED CARD OF 'thunklaw3.ReadPlaces'. -/
def readPlacesCard : Claim7 := { stood := { row := readPlacesRow, standIns := [], harness := (true, "04e9c376fe8a9c0348b2bc423b175f06ad960f9f291cbcd165856fb5a13b248c"), looks := false }, kinds := [], alts := [], laidByText := true, laidKinds := [.data, .pinned], laidTests := true, laidLooks := .later }
def ReadPlacesCardSaid : Prop := Claim7.holds Tryd.pinned (.plain (OpenSpec.ofChange readPlacesSpec)) readPlacesCard

/-- THE TIED CARD OF 'thunklaw3.ReadLong'. -/
def readLongCard : Claim7 := { stood := { row := readLongRow, standIns := [], harness := (true, "04e9c376fe8a9c0348b2bc423b175f06ad960f9f291cbcd165856fb5a13b248c"), looks := false }, kinds := [], alts := [], laidByText := true, laidKinds := [.data, .pinned], laidTests := true, laidLooks := .later }
def ReadLongCardSaid : Prop := Claim7.holds Tryd.pinned (.plain (OpenSpec.ofChange readLongSpec)) readLongCard

/-- THE TIED CARD OF 'thunklaw3.ReadBlanks'. -/
def readBlanksCard : Claim7 := { stood := { row := readBlanksRow, standIns := [], harness := (true, "04e9c376fe8a9c0348b2bc423b175f06ad960f9f291cbcd165856fb5a13b248c"), looks := false }, kinds := [], alts := [], laidByText := true, laidKinds := [.data, .pinned], laidTests := true, laidLooks := .later }
def ReadBlanksCardSaid : Prop := Claim7.holds Tryd.pinned (.plain (OpenSpec.ofChange readBlanksSpec)) readBlanksCard

/-- THE TIED CARD OF 'thunklaw3.ReadJoins'. -/
def readJoinsCard : Claim7 := { stood := { row := readJoinsRow, standIns := [], harness := (true, "04e9c376fe8a9c0348b2bc423b175f06ad960f9f291cbcd165856fb5a13b248c"), looks := false }, kinds := [], alts := [], laidByText := true, laidKinds := [.data, .pinned], laidTests := true, laidLooks := .later }
def ReadJoinsCardSaid : Prop := Claim7.holds Tryd.pinned (.plain (OpenSpec.ofChange readJoinsSpec)) readJoinsCard

/-- THE TIED CARD OF 'thunklaw3.ReadQuotes'. -/
def readQuotesCard : Claim7 := { stood := { row := readQuotesRow, standIns := [], harness := (true, "04e9c376fe8a9c0348b2bc423b175f06ad960f9f291cbcd165856fb5a13b248c"), looks := false }, kinds := [], alts := [], laidByText := true, laidKinds := [.data, .pinned], laidTests := true, laidLooks := .later }
def ReadQuotesCardSaid : Prop := Claim7.holds Tryd.pinned (.plain (OpenSpec.ofChange readQuotesSpec)) readQuotesCard

/-- THE TIED CARD OF 'thunklaw3.ReadEnds'. -/
def readEndsCard : Claim7 := { stood := { row := readEndsRow, standIns := [], harness := (true, "04e9c376fe8a9c0348b2bc423b175f06ad960f9f291cbcd165856fb5a13b248c"), looks := false }, kinds := [], alts := [], laidByText := true, laidKinds := [.data, .pinned], laidTests := true, laidLooks := .later }
def ReadEndsCardSaid : Prop := Claim7.holds Tryd.pinned (.plain (OpenSpec.ofChange readEndsSpec)) readEndsCard

/-- THE SECOND FORM's CARD OF 'thunklaw3.ReadAll'. -/
def readAllUptoCard : Claim7 := { stood := { row := readAllUptoRow, standIns := [], harness := (true, "04e9c376fe8a9c0348b2bc423b175f06ad960f9f291cbcd165856fb5a13b248c"), looks := false }, kinds := [], alts := [], laidByText := true, laidKinds := [.data, .pinned], laidTests := true, laidLooks := .later }
def ReadAllUptoCardSaid : Prop := Claim7.holds Tryd.pinned (.plain (OpenSpec.upto readAllSpec)) readAllUptoCard

/-- THE SECOND FORM's CARD OF 'thunklaw3.ReadBack'. -/
def readBackUptoCard : Claim7 := { stood := { row := readBackUptoRow, standIns := [], harness := (true, "04e9c376fe8a9c0348b2bc423b175f06ad960f9f291cbcd165856fb5a13b248c"), looks := false }, kinds := [], alts := [], laidByText := true, laidKinds := [.data, .pinned], laidTests := true, laidLooks := .later }
def ReadBackUptoCardSaid : Prop := Claim7.holds Tryd.pinned (.plain (OpenSpec.upto readBackSpec)) readBackUptoCard

/-- THE SECOND FORM's CARD OF 'thunklaw3.ReadDeep'. -/
def readDeepUptoCard : Claim7 := { stood := { row := readDeepUptoRow, standIns := [], harness := (true, "04e9c376fe8a9c0348b2bc423b175f06ad960f9f291cbcd165856fb5a13b248c"), looks := false }, kinds := [], alts := [], laidByText := true, laidKinds := [.data, .pinned], laidTests := true, laidLooks := .later }
def ReadDeepUptoCardSaid : Prop := Claim7.holds Tryd.pinned (.plain (OpenSpec.upto readDeepSpec)) readDeepUptoCard

/-- THE SECOND FORM's CARD OF 'thunklaw3.ReadKnown'. -/
def readKnownUptoCard : Claim7 := { stood := { row := readKnownUptoRow, standIns := [], harness := (true, "04e9c376fe8a9c0348b2bc423b175f06ad960f9f291cbcd165856fb5a13b248c"), looks := false }, kinds := [], alts := [], laidByText := true, laidKinds := [.data, .pinned], laidTests := true, laidLooks := .later }
def ReadKnownUptoCardSaid : Prop := Claim7.holds Tryd.pinned (.plain (OpenSpec.upto readKnownSpec)) readKnownUptoCard

/-- THE SECOND FORM's CARD OF 'thunklaw3.ReadPlaces'. -/
def readPlacesUptoCard : Claim7 := { stood := { row := readPlacesUptoRow, standIns := [], harness := (true, "04e9c376fe8a9c0348b2bc423b175f06ad960f9f291cbcd165856fb5a13b248c"), looks := false }, kinds := [], alts := [], laidByText := true, laidKinds := [.data, .pinned], laidTests := true, laidLooks := .later }
def ReadPlacesUptoCardSaid : Prop := Claim7.holds Tryd.pinned (.plain (OpenSpec.upto readPlacesSpec)) readPlacesUptoCard

/-- THE SECOND FORM's CARD OF 'thunklaw3.ReadLong'. -/
def readLongUptoCard : Claim7 := { stood := { row := readLongUptoRow, standIns := [], harness := (true, "04e9c376fe8a9c0348b2bc423b175f06ad960f9f291cbcd165856fb5a13b248c"), looks := false }, kinds := [], alts := [], laidByText := true, laidKinds := [.data, .pinned], laidTests := true, laidLooks := .later }
def ReadLongUptoCardSaid : Prop := Claim7.holds Tryd.pinned (.plain (OpenSpec.upto readLongSpec)) readLongUptoCard

/-- THE SECOND FORM's CARD OF 'thunklaw3.ReadBlanks'. -/
def readBlanksUptoCard : Claim7 := { stood := { row := readBlanksUptoRow, standIns := [], harness := (true, "04e9c376fe8a9c0348b2bc423b175f06ad960f9f291cbcd165856fb5a13b248c"), looks := false }, kinds := [], alts := [], laidByText := true, laidKinds := [.data, .pinned], laidTests := true, laidLooks := .later }
def ReadBlanksUptoCardSaid : Prop := Claim7.holds Tryd.pinned (.plain (OpenSpec.upto readBlanksSpec)) readBlanksUptoCard

/-- THE SECOND FORM's CARD OF 'thunklaw3.ReadJoins'. -/
def readJoinsUptoCard : Claim7 := { stood := { row := readJoinsUptoRow, standIns := [], harness := (true, "04e9c376fe8a9c0348b2bc423b175f06ad960f9f291cbcd165856fb5a13b248c"), looks := false }, kinds := [], alts := [], laidByText := true, laidKinds := [.data, .pinned], laidTests := true, laidLooks := .later }
def ReadJoinsUptoCardSaid : Prop := Claim7.holds Tryd.pinned (.plain (OpenSpec.upto readJoinsSpec)) readJoinsUptoCard

/-- THE SECOND FORM's CARD OF 'thunklaw3.ReadQuotes'. -/
def readQuotesUptoCard : Claim7 := { stood := { row := readQuotesUptoRow, standIns := [], harness := (true, "04e9c376fe8a9c0348b2bc423b175f06ad960f9f291cbcd165856fb5a13b248c"), looks := false }, kinds := [], alts := [], laidByText := true, laidKinds := [.data, .pinned], laidTests := true, laidLooks := .later }
def ReadQuotesUptoCardSaid : Prop := Claim7.holds Tryd.pinned (.plain (OpenSpec.upto readQuotesSpec)) readQuotesUptoCard

/-- THE SECOND FORM's CARD OF 'thunklaw3.ReadEnds'. -/
def readEndsUptoCard : Claim7 := { stood := { row := readEndsUptoRow, standIns := [], harness := (true, "04e9c376fe8a9c0348b2bc423b175f06ad960f9f291cbcd165856fb5a13b248c"), looks := false }, kinds := [], alts := [], laidByText := true, laidKinds := [.data, .pinned], laidTests := true, laidLooks := .later }
def ReadEndsUptoCardSaid : Prop := Claim7.holds Tryd.pinned (.plain (OpenSpec.upto readEndsSpec)) readEndsUptoCard
end Rows
end Go.Proofs.YtahdiknkcgnieaaDoor
