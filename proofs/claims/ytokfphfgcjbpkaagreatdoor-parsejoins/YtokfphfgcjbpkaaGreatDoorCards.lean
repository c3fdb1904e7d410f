/-
  DERIVED. GIVEN WITH THE SEED: THE CARDS: each row of YtokfphfgcjbpkaaGreatDoorRows.lean that lists a variable, with what it lists TIED to the program's text (the seventh form; the later family's looks); each row that meets fmt, with fmt's text TOLD by the authors' own Lean function (tested against real Go, not proved from fmt's source: count such statements apart). THE CARD IS WHAT COUNTS. Prove the row's statement (the work); the ties are given (YtokfphfgcjbpkaaGreatDoorTie.lean); close each card by the builder's one call (the guide's Derived/Test/ToyasCard.lean, 'card_holds'). Laid BY PROGRAM, IN A SANDBOX (cutbox-door.mjs). By AI agents, Wed Nov 11 2026. No macro, syntax, notation, axiom, sorry.
-/
import Derived.Test.YtokfphfgcjbpkaaGreatDoorRows
import GoSem.ClaimSeven
namespace Go.Proofs.YtokfphfgcjbpkaaGreatDoor
namespace Rows

/-- THE TIED CARD OF 'vestrylaw09.ParseScripts'. -/
def parseScriptsCard : Claim7 := { stood := { row := parseScriptsRow, standIns := [], harness := (true, "03234e2cea8b7a7f23cc1fd889a4a4285cfc4f42d1fb22a795635aa48bbbab90"), looks := true }, kinds := [], alts := [], laidByText := true, laidKinds := [.data, .data, .data, .sentinel, .sentinel, .listed, .data], laidTests := true, laidLooks := .later }
def ParseScriptsCardSaid : Prop := Claim7.holds Tryz.pinned (.plain (OpenSpec.ofChange parseScriptsSpec)) parseScriptsCard

/-- THE TIED CARD OF 'vestrylaw09.ParseBlanks'. -/
def parseBlanksCard : Claim7 := { stood := { row := parseBlanksRow, standIns := [], harness := (true, "03234e2cea8b7a7f23cc1fd889a4a4285cfc4f42d1fb22a795635aa48bbbab90"), looks := true }, kinds := [], alts := [], laidByText := true, laidKinds := [.data, .data, .data, .data, .sentinel, .sentinel, .listed, .data, .pinned], laidTests := true, laidLooks := .later }
def ParseBlanksCardSaid : Prop := Claim7.holds Tryz.pinned (.plain (OpenSpec.ofChange parseBlanksSpec)) parseBlanksCard

/-- THE TIED CARD OF 'vestrylaw09.ParseJoins'. -/
def parseJoinsCard : Claim7 := { stood := { row := parseJoinsRow, standIns := [], harness := (true, "03234e2cea8b7a7f23cc1fd889a4a4285cfc4f42d1fb22a795635aa48bbbab90"), looks := true }, kinds := [], alts := [], laidByText := true, laidKinds := [.data, .data, .data, .sentinel, .sentinel, .listed, .data], laidTests := true, laidLooks := .later }
def ParseJoinsCardSaid : Prop := Claim7.holds Tryz.pinned (.plain (OpenSpec.ofChange parseJoinsSpec)) parseJoinsCard

/-- THE TIED CARD OF 'vestrylaw09.ParseBrackets'. -/
def parseBracketsCard : Claim7 := { stood := { row := parseBracketsRow, standIns := [], harness := (true, "03234e2cea8b7a7f23cc1fd889a4a4285cfc4f42d1fb22a795635aa48bbbab90"), looks := true }, kinds := [], alts := [], laidByText := true, laidKinds := [.data, .data, .data, .sentinel, .sentinel, .listed, .data], laidTests := true, laidLooks := .later }
def ParseBracketsCardSaid : Prop := Claim7.holds Tryz.pinned (.plain (OpenSpec.ofChange parseBracketsSpec)) parseBracketsCard

/-- THE TIED CARD OF 'vestrylaw09.ParseEmpty'. -/
def parseEmptyCard : Claim7 := { stood := { row := parseEmptyRow, standIns := [], harness := (true, "03234e2cea8b7a7f23cc1fd889a4a4285cfc4f42d1fb22a795635aa48bbbab90"), looks := true }, kinds := [], alts := [], laidByText := true, laidKinds := [.data, .data, .data, .sentinel, .sentinel, .listed, .data], laidTests := true, laidLooks := .later }
def ParseEmptyCardSaid : Prop := Claim7.holds Tryz.pinned (.plain (OpenSpec.ofChange parseEmptySpec)) parseEmptyCard

/-- THE SECOND FORM's CARD OF 'vestrylaw09.ParseScripts'. -/
def parseScriptsUptoCard : Claim7 := { stood := { row := parseScriptsUptoRow, standIns := [], harness := (true, "03234e2cea8b7a7f23cc1fd889a4a4285cfc4f42d1fb22a795635aa48bbbab90"), looks := true }, kinds := [], alts := [], laidByText := true, laidKinds := [.data, .data, .data, .sentinel, .sentinel, .listed, .data], laidTests := true, laidLooks := .later }
def ParseScriptsUptoCardSaid : Prop := Claim7.holds Tryz.pinned (.plain (OpenSpec.upto parseScriptsSpec)) parseScriptsUptoCard

/-- THE SECOND FORM's CARD OF 'vestrylaw09.ParseBlanks'. -/
def parseBlanksUptoCard : Claim7 := { stood := { row := parseBlanksUptoRow, standIns := [], harness := (true, "03234e2cea8b7a7f23cc1fd889a4a4285cfc4f42d1fb22a795635aa48bbbab90"), looks := true }, kinds := [], alts := [], laidByText := true, laidKinds := [.data, .data, .data, .data, .sentinel, .sentinel, .listed, .data, .pinned], laidTests := true, laidLooks := .later }
def ParseBlanksUptoCardSaid : Prop := Claim7.holds Tryz.pinned (.plain (OpenSpec.upto parseBlanksSpec)) parseBlanksUptoCard

/-- THE SECOND FORM's CARD OF 'vestrylaw09.ParseJoins'. -/
def parseJoinsUptoCard : Claim7 := { stood := { row := parseJoinsUptoRow, standIns := [], harness := (true, "03234e2cea8b7a7f23cc1fd889a4a4285cfc4f42d1fb22a795635aa48bbbab90"), looks := true }, kinds := [], alts := [], laidByText := true, laidKinds := [.data, .data, .data, .sentinel, .sentinel, .listed, .data], laidTests := true, laidLooks := .later }
def ParseJoinsUptoCardSaid : Prop := Claim7.holds Tryz.pinned (.plain (OpenSpec.upto parseJoinsSpec)) parseJoinsUptoCard

/-- THE SECOND FORM's CARD OF 'vestrylaw09.ParseBrackets'. -/
def parseBracketsUptoCard : Claim7 := { stood := { row := parseBracketsUptoRow, standIns := [], harness := (true, "03234e2cea8b7a7f23cc1fd889a4a4285cfc4f42d1fb22a795635aa48bbbab90"), looks := true }, kinds := [], alts := [], laidByText := true, laidKinds := [.data, .data, .data, .sentinel, .sentinel, .listed, .data], laidTests := true, laidLooks := .later }
def ParseBracketsUptoCardSaid : Prop := Claim7.holds Tryz.pinned (.plain (OpenSpec.upto parseBracketsSpec)) parseBracketsUptoCard

/-- THE SECOND FORM's CARD OF 'vestrylaw09.ParseEmpty'. -/
def parseEmptyUptoCard : Claim7 := { stood := { row := parseEmptyUptoRow, standIns := [], harness := (true, "03234e2cea8b7a7f23cc1fd889a4a4285cfc4f42d1fb22a795635aa48bbbab90"), looks := true }, kinds := [], alts := [], laidByText := true, laidKinds := [.data, .data, .data, .sentinel, .sentinel, .listed, .data], laidTests := true, laidLooks := .later }
def ParseEmptyUptoCardSaid : Prop := Claim7.holds Tryz.pinned (.plain (OpenSpec.upto parseEmptySpec)) parseEmptyUptoCard
end Rows
end Go.Proofs.YtokfphfgcjbpkaaGreatDoor
