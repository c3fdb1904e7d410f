/-
  DERIVED. GIVEN WITH THE SEED: THE CARDS: each row of YtaaggohjmhifbaaGreatDoorRows.lean that lists a variable, with what it lists TIED to the program's text (the seventh form; the later family's looks); each row that meets fmt, with fmt's text TOLD by the authors' own Lean function (tested against real Go, not proved from fmt's source: count such statements apart). THE CARD IS WHAT COUNTS. Prove the row's statement (the work); the ties are given (YtaaggohjmhifbaaGreatDoorTie.lean); close each card by the builder's one call (the guide's Derived/Test/ToyasCard.lean, 'card_holds'). Laid BY PROGRAM, IN A SANDBOX (cutbox-door.mjs). By AI agents, Wed Nov 11 2026. No macro, syntax, notation, axiom, sorry.
-/
import Derived.Test.YtaaggohjmhifbaaGreatDoorRows
import GoSem.ClaimSeven
namespace Go.Proofs.YtaaggohjmhifbaaGreatDoor
namespace Rows

/-- THE TIED CARD OF 'vestrylaw11.CatalogMakes'. -/
def catalogMakesCard : Claim7 := { stood := { row := catalogMakesRow, standIns := [], harness := (true, "ffa9d62c4dfd96194e946d5f5dc5e89e8ef49f24e1fce145ef83d6e3f94edee8"), looks := true }, kinds := [], alts := [], laidByText := true, laidKinds := [.data, .data, .data, .data, .sentinel, .sentinel, .listed, .data, .data, .pinned], laidTests := true, laidLooks := .later }
def CatalogMakesCardSaid : Prop := Claim7.holds Tryz.pinned (.plain (OpenSpec.ofChange catalogMakesSpec)) catalogMakesCard

/-- THE TIED CARD OF 'vestrylaw11.CatalogSources'. -/
def catalogSourcesCard : Claim7 := { stood := { row := catalogSourcesRow, standIns := [], harness := (true, "ffa9d62c4dfd96194e946d5f5dc5e89e8ef49f24e1fce145ef83d6e3f94edee8"), looks := true }, kinds := [], alts := [], laidByText := true, laidKinds := [.data, .data, .data, .data, .sentinel, .sentinel, .listed, .data, .data, .pinned], laidTests := true, laidLooks := .later }
def CatalogSourcesCardSaid : Prop := Claim7.holds Tryz.pinned (.plain (OpenSpec.ofChange catalogSourcesSpec)) catalogSourcesCard

/-- THE TIED CARD OF 'vestrylaw11.CatalogPlays'. -/
def catalogPlaysCard : Claim7 := { stood := { row := catalogPlaysRow, standIns := [], harness := (true, "ffa9d62c4dfd96194e946d5f5dc5e89e8ef49f24e1fce145ef83d6e3f94edee8"), looks := true }, kinds := [], alts := [], laidByText := true, laidKinds := [.data, .data, .data, .data, .sentinel, .sentinel, .listed, .data, .data, .pinned], laidTests := true, laidLooks := .later }
def CatalogPlaysCardSaid : Prop := Claim7.holds Tryz.pinned (.plain (OpenSpec.ofChange catalogPlaysSpec)) catalogPlaysCard

/-- THE TIED CARD OF 'vestrylaw11.CatalogBack'. -/
def catalogBackCard : Claim7 := { stood := { row := catalogBackRow, standIns := [], harness := (true, "ffa9d62c4dfd96194e946d5f5dc5e89e8ef49f24e1fce145ef83d6e3f94edee8"), looks := true }, kinds := [], alts := [], laidByText := true, laidKinds := [.data, .data, .data, .data, .sentinel, .sentinel, .listed, .data, .data, .pinned], laidTests := true, laidLooks := .later }
def CatalogBackCardSaid : Prop := Claim7.holds Tryz.pinned (.plain (OpenSpec.ofChange catalogBackSpec)) catalogBackCard

/-- THE TIED CARD OF 'vestrylaw11.CatalogFinds'. -/
def catalogFindsCard : Claim7 := { stood := { row := catalogFindsRow, standIns := [], harness := (true, "ffa9d62c4dfd96194e946d5f5dc5e89e8ef49f24e1fce145ef83d6e3f94edee8"), looks := true }, kinds := [], alts := [], laidByText := true, laidKinds := [.data, .data, .data, .data, .sentinel, .sentinel, .listed, .data, .data, .pinned], laidTests := true, laidLooks := .later }
def CatalogFindsCardSaid : Prop := Claim7.holds Tryz.pinned (.plain (OpenSpec.ofChange catalogFindsSpec)) catalogFindsCard

/-- THE TIED CARD OF 'vestrylaw11.CatalogPrimary'. -/
def catalogPrimaryCard : Claim7 := { stood := { row := catalogPrimaryRow, standIns := [], harness := (true, "ffa9d62c4dfd96194e946d5f5dc5e89e8ef49f24e1fce145ef83d6e3f94edee8"), looks := true }, kinds := [], alts := [], laidByText := true, laidKinds := [.data, .data, .data, .data, .sentinel, .sentinel, .listed, .data, .data, .pinned], laidTests := true, laidLooks := .later }
def CatalogPrimaryCardSaid : Prop := Claim7.holds Tryz.pinned (.plain (OpenSpec.ofChange catalogPrimarySpec)) catalogPrimaryCard

/-- THE SECOND FORM's CARD OF 'vestrylaw11.CatalogMakes'. -/
def catalogMakesUptoCard : Claim7 := { stood := { row := catalogMakesUptoRow, standIns := [], harness := (true, "ffa9d62c4dfd96194e946d5f5dc5e89e8ef49f24e1fce145ef83d6e3f94edee8"), looks := true }, kinds := [], alts := [], laidByText := true, laidKinds := [.data, .data, .data, .data, .sentinel, .sentinel, .listed, .data, .data, .pinned], laidTests := true, laidLooks := .later }
def CatalogMakesUptoCardSaid : Prop := Claim7.holds Tryz.pinned (.plain (OpenSpec.upto catalogMakesSpec)) catalogMakesUptoCard

/-- THE SECOND FORM's CARD OF 'vestrylaw11.CatalogSources'. -/
def catalogSourcesUptoCard : Claim7 := { stood := { row := catalogSourcesUptoRow, standIns := [], harness := (true, "ffa9d62c4dfd96194e946d5f5dc5e89e8ef49f24e1fce145ef83d6e3f94edee8"), looks := true }, kinds := [], alts := [], laidByText := true, laidKinds := [.data, .data, .data, .data, .sentinel, .sentinel, .listed, .data, .data, .pinned], laidTests := true, laidLooks := .later }
def CatalogSourcesUptoCardSaid : Prop := Claim7.holds Tryz.pinned (.plain (OpenSpec.upto catalogSourcesSpec)) catalogSourcesUptoCard

/-- THE SECOND FORM's CARD OF 'vestrylaw11.CatalogPlays'. -/
def catalogPlaysUptoCard : Claim7 := { stood := { row := catalogPlaysUptoRow, standIns := [], harness := (true, "ffa9d62c4dfd96194e946d5f5dc5e89e8ef49f24e1fce145ef83d6e3f94edee8"), looks := true }, kinds := [], alts := [], laidByText := true, laidKinds := [.data, .data, .data, .data, .sentinel, .sentinel, .listed, .data, .data, .pinned], laidTests := true, laidLooks := .later }
def CatalogPlaysUptoCardSaid : Prop := Claim7.holds Tryz.pinned (.plain (OpenSpec.upto catalogPlaysSpec)) catalogPlaysUptoCard

/-- THE SECOND FORM's CARD OF 'vestrylaw11.CatalogBack'. -/
def catalogBackUptoCard : Claim7 := { stood := { row := catalogBackUptoRow, standIns := [], harness := (true, "ffa9d62c4dfd96194e946d5f5dc5e89e8ef49f24e1fce145ef83d6e3f94edee8"), looks := true }, kinds := [], alts := [], laidByText := true, laidKinds := [.data, .data, .data, .data, .sentinel, .sentinel, .listed, .data, .data, .pinned], laidTests := true, laidLooks := .later }
def CatalogBackUptoCardSaid : Prop := Claim7.holds Tryz.pinned (.plain (OpenSpec.upto catalogBackSpec)) catalogBackUptoCard

/-- THE SECOND FORM's CARD OF 'vestrylaw11.CatalogFinds'. -/
def catalogFindsUptoCard : Claim7 := { stood := { row := catalogFindsUptoRow, standIns := [], harness := (true, "ffa9d62c4dfd96194e946d5f5dc5e89e8ef49f24e1fce145ef83d6e3f94edee8"), looks := true }, kinds := [], alts := [], laidByText := true, laidKinds := [.data, .data, .data, .data, .sentinel, .sentinel, .listed, .data, .data, .pinned], laidTests := true, laidLooks := .later }
def CatalogFindsUptoCardSaid : Prop := Claim7.holds Tryz.pinned (.plain (OpenSpec.upto catalogFindsSpec)) catalogFindsUptoCard

/-- THE SECOND FORM's CARD OF 'vestrylaw11.CatalogPrimary'. -/
def catalogPrimaryUptoCard : Claim7 := { stood := { row := catalogPrimaryUptoRow, standIns := [], harness := (true, "ffa9d62c4dfd96194e946d5f5dc5e89e8ef49f24e1fce145ef83d6e3f94edee8"), looks := true }, kinds := [], alts := [], laidByText := true, laidKinds := [.data, .data, .data, .data, .sentinel, .sentinel, .listed, .data, .data, .pinned], laidTests := true, laidLooks := .later }
def CatalogPrimaryUptoCardSaid : Prop := Claim7.holds Tryz.pinned (.plain (OpenSpec.upto catalogPrimarySpec)) catalogPrimaryUptoCard
end Rows
end Go.Proofs.YtaaggohjmhifbaaGreatDoor
