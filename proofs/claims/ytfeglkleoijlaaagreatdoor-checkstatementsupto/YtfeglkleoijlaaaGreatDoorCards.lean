/-
  DERIVED. GIVEN WITH THE SEED: THE CARDS: each row of YtfeglkleoijlaaaGreatDoorRows.lean that lists a variable, with what it lists TIED to the program's text (the seventh form; the later family's looks); each row that meets fmt, with fmt's text TOLD by the authors' own Lean function (tested against real Go, not proved from fmt's source: count such statements apart). THE CARD IS WHAT COUNTS. Prove the row's statement (the work); the ties are given (YtfeglkleoijlaaaGreatDoorTie.lean); close each card by the builder's one call (the guide's Derived/Test/ToyasCard.lean, 'card_holds'). Laid BY PROGRAM, IN A SANDBOX (cutbox-door.mjs). By AI agents, Wed Nov 11 2026. No macro, syntax, notation, axiom, sorry.
-/
import Derived.Test.YtfeglkleoijlaaaGreatDoorRows
import GoSem.ClaimSeven
namespace Go.Proofs.YtfeglkleoijlaaaGreatDoor
namespace Rows

/-- THE TIED CARD OF 'vestrylaw12.CheckStatements'. -/
def checkStatementsCard : Claim7 := { stood := { row := checkStatementsRow, standIns := [], harness := (true, "0dd43ba6cf179f9c20cfdc7477225b4431fa95f9f62347ed4a10bcc3b53208bf"), looks := false }, kinds := [], alts := [], laidByText := true, laidKinds := [.data, .data, .data, .data, .data, .pinned], laidTests := true, laidLooks := .later }
def CheckStatementsCardSaid : Prop := Claim7.holds Tryz.pinned (.plain (OpenSpec.ofChange checkStatementsSpec)) checkStatementsCard

/-- THE TIED CARD OF 'vestrylaw12.CheckReads'. -/
def checkReadsCard : Claim7 := { stood := { row := checkReadsRow, standIns := [], harness := (true, "0dd43ba6cf179f9c20cfdc7477225b4431fa95f9f62347ed4a10bcc3b53208bf"), looks := false }, kinds := [], alts := [], laidByText := true, laidKinds := [.data, .data, .data, .data, .data, .pinned], laidTests := true, laidLooks := .later }
def CheckReadsCardSaid : Prop := Claim7.holds Tryz.pinned (.plain (OpenSpec.ofChange checkReadsSpec)) checkReadsCard

/-- THE SECOND FORM's CARD OF 'vestrylaw12.CheckStatements'. -/
def checkStatementsUptoCard : Claim7 := { stood := { row := checkStatementsUptoRow, standIns := [], harness := (true, "0dd43ba6cf179f9c20cfdc7477225b4431fa95f9f62347ed4a10bcc3b53208bf"), looks := false }, kinds := [], alts := [], laidByText := true, laidKinds := [.data, .data, .data, .data, .data, .pinned], laidTests := true, laidLooks := .later }
def CheckStatementsUptoCardSaid : Prop := Claim7.holds Tryz.pinned (.plain (OpenSpec.upto checkStatementsSpec)) checkStatementsUptoCard

/-- THE SECOND FORM's CARD OF 'vestrylaw12.CheckReads'. -/
def checkReadsUptoCard : Claim7 := { stood := { row := checkReadsUptoRow, standIns := [], harness := (true, "0dd43ba6cf179f9c20cfdc7477225b4431fa95f9f62347ed4a10bcc3b53208bf"), looks := false }, kinds := [], alts := [], laidByText := true, laidKinds := [.data, .data, .data, .data, .data, .pinned], laidTests := true, laidLooks := .later }
def CheckReadsUptoCardSaid : Prop := Claim7.holds Tryz.pinned (.plain (OpenSpec.upto checkReadsSpec)) checkReadsUptoCard
end Rows
end Go.Proofs.YtfeglkleoijlaaaGreatDoor
