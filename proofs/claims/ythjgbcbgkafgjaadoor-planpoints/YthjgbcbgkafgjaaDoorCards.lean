/-
  DERIVED. GIVEN WITH THE SEED: THE CARDS: each row of YthjgbcbgkafgjaaDoorRows.lean that lists a variable, with what it lists TIED to the program's text (the seventh form; the later family's looks); each row that meets fmt, with fmt's text TOLD by the authors' own Lean function (tested against real Go, not proved from fmt's source: count such statements apart). THE CARD IS WHAT COUNTS. Prove the row's statement (the work); the ties are given (YthjgbcbgkafgjaaDoorTie.lean); close each card by the builder's one call (the guide's Derived/Test/ToyasCard.lean, 'card_holds'). Laid BY PROGRAM, IN A SANDBOX (cutbox-door.mjs). By AI agents, Wed Nov 11 2026. No macro, syntax, notation, axiom, sorry.
-/
import Derived.Test.YthjgbcbgkafgjaaDoorRows
import GoSem.ClaimSeven
namespace Go.Proofs.YthjgbcbgkafgjaaDoor
namespace Rows

/-- THE TIED CARD OF 'vestrylaw15.PlanSpans'. -/
def planSpansCard : Claim7 := { stood := { row := planSpansRow, standIns := [], harness := (true, "c2fc1d1d6f69f678155b72911ee3c78544634f5d38dbd05ff9be800cc5482d80"), looks := false }, kinds := [], alts := [], laidByText := true, laidKinds := [.wider], laidTests := true, laidLooks := .later }
def PlanSpansCardSaid : Prop := Claim7.holds Tryd.pinned (.plain (OpenSpec.ofChange planSpansSpec)) planSpansCard

/-- THE TIED CARD OF 'vestrylaw15.PlanMeets'. -/
def planMeetsCard : Claim7 := { stood := { row := planMeetsRow, standIns := [], harness := (true, "c2fc1d1d6f69f678155b72911ee3c78544634f5d38dbd05ff9be800cc5482d80"), looks := false }, kinds := [], alts := [], laidByText := true, laidKinds := [.wider], laidTests := true, laidLooks := .later }
def PlanMeetsCardSaid : Prop := Claim7.holds Tryd.pinned (.plain (OpenSpec.ofChange planMeetsSpec)) planMeetsCard

/-- THE TIED CARD OF 'vestrylaw15.PlanBoth'. -/
def planBothCard : Claim7 := { stood := { row := planBothRow, standIns := [], harness := (true, "c2fc1d1d6f69f678155b72911ee3c78544634f5d38dbd05ff9be800cc5482d80"), looks := false }, kinds := [], alts := [], laidByText := true, laidKinds := [.wider], laidTests := true, laidLooks := .later }
def PlanBothCardSaid : Prop := Claim7.holds Tryd.pinned (.plain (OpenSpec.ofChange planBothSpec)) planBothCard

/-- THE TIED CARD OF 'vestrylaw15.PlanPoints'. -/
def planPointsCard : Claim7 := { stood := { row := planPointsRow, standIns := [], harness := (true, "c2fc1d1d6f69f678155b72911ee3c78544634f5d38dbd05ff9be800cc5482d80"), looks := false }, kinds := [], alts := [], laidByText := true, laidKinds := [.wider], laidTests := true, laidLooks := .later }
def PlanPointsCardSaid : Prop := Claim7.holds Tryd.pinned (.plain (OpenSpec.ofChange planPointsSpec)) planPointsCard

/-- THE SECOND FORM's CARD OF 'vestrylaw15.PlanSpans'. -/
def planSpansUptoCard : Claim7 := { stood := { row := planSpansUptoRow, standIns := [], harness := (true, "c2fc1d1d6f69f678155b72911ee3c78544634f5d38dbd05ff9be800cc5482d80"), looks := false }, kinds := [], alts := [], laidByText := true, laidKinds := [.wider], laidTests := true, laidLooks := .later }
def PlanSpansUptoCardSaid : Prop := Claim7.holds Tryd.pinned (.plain (OpenSpec.upto planSpansSpec)) planSpansUptoCard

/-- THE SECOND FORM's CARD OF 'vestrylaw15.PlanMeets'. -/
def planMeetsUptoCard : Claim7 := { stood := { row := planMeetsUptoRow, standIns := [], harness := (true, "c2fc1d1d6f69f678155b72911ee3c78544634f5d38dbd05ff9be800cc5482d80"), looks := false }, kinds := [], alts := [], laidByText := true, laidKinds := [.wider], laidTests := true, laidLooks := .later }
def PlanMeetsUptoCardSaid : Prop := Claim7.holds Tryd.pinned (.plain (OpenSpec.upto planMeetsSpec)) planMeetsUptoCard

/-- THE SECOND FORM's CARD OF 'vestrylaw15.PlanBoth'. -/
def planBothUptoCard : Claim7 := { stood := { row := planBothUptoRow, standIns := [], harness := (true, "c2fc1d1d6f69f678155b72911ee3c78544634f5d38dbd05ff9be800cc5482d80"), looks := false }, kinds := [], alts := [], laidByText := true, laidKinds := [.wider], laidTests := true, laidLooks := .later }
def PlanBothUptoCardSaid : Prop := Claim7.holds Tryd.pinned (.plain (OpenSpec.upto planBothSpec)) planBothUptoCard

/-- THE SECOND FORM's CARD OF 'vestrylaw15.PlanPoints'. -/
def planPointsUptoCard : Claim7 := { stood := { row := planPointsUptoRow, standIns := [], harness := (true, "c2fc1d1d6f69f678155b72911ee3c78544634f5d38dbd05ff9be800cc5482d80"), looks := false }, kinds := [], alts := [], laidByText := true, laidKinds := [.wider], laidTests := true, laidLooks := .later }
def PlanPointsUptoCardSaid : Prop := Claim7.holds Tryd.pinned (.plain (OpenSpec.upto planPointsSpec)) planPointsUptoCard
end Rows
end Go.Proofs.YthjgbcbgkafgjaaDoor
