/-
  DERIVED. GIVEN WITH THE SEED: THE CARDS: each row of YthkeofinamedfaaDoorRows.lean that lists a variable, with what it lists TIED to the program's text (the seventh form; the later family's looks); each row that meets fmt, with fmt's text TOLD by the authors' own Lean function (tested against real Go, not proved from fmt's source: count such statements apart). THE CARD IS WHAT COUNTS. Prove the row's statement (the work); the ties are given (YthkeofinamedfaaDoorTie.lean); close each card by the builder's one call (the guide's Derived/Test/ToyasCard.lean, 'card_holds'). Laid BY PROGRAM, IN A SANDBOX (cutbox-door.mjs). By AI agents, Wed Nov 11 2026. No macro, syntax, notation, axiom, sorry.
-/
import Derived.Test.YthkeofinamedfaaDoorRows
import GoSem.ClaimSeven
namespace Go.Proofs.YthkeofinamedfaaDoor
namespace Rows

/-- THE TIED CARD OF 'vestrylaw04.TriePlays'. -/
def triePlaysCard : Claim7 := { stood := { row := triePlaysRow, standIns := [], harness := (true, "e26969e879ca498bcbc9462b2c096ed6b18670f50286382d7ce2922925cfac36"), looks := false }, kinds := [], alts := [], laidByText := true, laidKinds := [.data, .data], laidTests := true, laidLooks := .later }
def TriePlaysCardSaid : Prop := Claim7.holds Tryd.pinned (.plain (OpenSpec.ofChange triePlaysSpec)) triePlaysCard

/-- THE TIED CARD OF 'vestrylaw04.TrieBits'. -/
def trieBitsCard : Claim7 := { stood := { row := trieBitsRow, standIns := [], harness := (true, "e26969e879ca498bcbc9462b2c096ed6b18670f50286382d7ce2922925cfac36"), looks := false }, kinds := [], alts := [], laidByText := true, laidKinds := [.data, .data], laidTests := true, laidLooks := .later }
def TrieBitsCardSaid : Prop := Claim7.holds Tryd.pinned (.plain (OpenSpec.ofChange trieBitsSpec)) trieBitsCard

/-- THE TIED CARD OF 'vestrylaw04.TrieRoots'. -/
def trieRootsCard : Claim7 := { stood := { row := trieRootsRow, standIns := [], harness := (true, "e26969e879ca498bcbc9462b2c096ed6b18670f50286382d7ce2922925cfac36"), looks := false }, kinds := [], alts := [], laidByText := true, laidKinds := [.data, .data], laidTests := true, laidLooks := .later }
def TrieRootsCardSaid : Prop := Claim7.holds Tryd.pinned (.plain (OpenSpec.ofChange trieRootsSpec)) trieRootsCard

/-- THE TIED CARD OF 'vestrylaw04.TriePaths'. -/
def triePathsCard : Claim7 := { stood := { row := triePathsRow, standIns := [], harness := (true, "e26969e879ca498bcbc9462b2c096ed6b18670f50286382d7ce2922925cfac36"), looks := false }, kinds := [], alts := [], laidByText := true, laidKinds := [.data, .data], laidTests := true, laidLooks := .later }
def TriePathsCardSaid : Prop := Claim7.holds Tryd.pinned (.plain (OpenSpec.ofChange triePathsSpec)) triePathsCard

/-- THE TIED CARD OF 'vestrylaw04.TrieForks'. -/
def trieForksCard : Claim7 := { stood := { row := trieForksRow, standIns := [], harness := (true, "e26969e879ca498bcbc9462b2c096ed6b18670f50286382d7ce2922925cfac36"), looks := false }, kinds := [], alts := [], laidByText := true, laidKinds := [.data, .data], laidTests := true, laidLooks := .later }
def TrieForksCardSaid : Prop := Claim7.holds Tryd.pinned (.plain (OpenSpec.ofChange trieForksSpec)) trieForksCard

/-- THE SECOND FORM's CARD OF 'vestrylaw04.TriePlays'. -/
def triePlaysUptoCard : Claim7 := { stood := { row := triePlaysUptoRow, standIns := [], harness := (true, "e26969e879ca498bcbc9462b2c096ed6b18670f50286382d7ce2922925cfac36"), looks := false }, kinds := [], alts := [], laidByText := true, laidKinds := [.data, .data], laidTests := true, laidLooks := .later }
def TriePlaysUptoCardSaid : Prop := Claim7.holds Tryd.pinned (.plain (OpenSpec.upto triePlaysSpec)) triePlaysUptoCard

/-- THE SECOND FORM's CARD OF 'vestrylaw04.TrieBits'. -/
def trieBitsUptoCard : Claim7 := { stood := { row := trieBitsUptoRow, standIns := [], harness := (true, "e26969e879ca498bcbc9462b2c096ed6b18670f50286382d7ce2922925cfac36"), looks := false }, kinds := [], alts := [], laidByText := true, laidKinds := [.data, .data], laidTests := true, laidLooks := .later }
def TrieBitsUptoCardSaid : Prop := Claim7.holds Tryd.pinned (.plain (OpenSpec.upto trieBitsSpec)) trieBitsUptoCard

/-- THE SECOND FORM's CARD OF 'vestrylaw04.TrieRoots'. -/
def trieRootsUptoCard : Claim7 := { stood := { row := trieRootsUptoRow, standIns := [], harness := (true, "e26969e879ca498bcbc9462b2c096ed6b18670f50286382d7ce2922925cfac36"), looks := false }, kinds := [], alts := [], laidByText := true, laidKinds := [.data, .data], laidTests := true, laidLooks := .later }
def TrieRootsUptoCardSaid : Prop := Claim7.holds Tryd.pinned (.plain (OpenSpec.upto trieRootsSpec)) trieRootsUptoCard

/-- THE SECOND FORM's CARD OF 'vestrylaw04.TriePaths'. -/
def triePathsUptoCard : Claim7 := { stood := { row := triePathsUptoRow, standIns := [], harness := (true, "e26969e879ca498bcbc9462b2c096ed6b18670f50286382d7ce2922925cfac36"), looks := false }, kinds := [], alts := [], laidByText := true, laidKinds := [.data, .data], laidTests := true, laidLooks := .later }
def TriePathsUptoCardSaid : Prop := Claim7.holds Tryd.pinned (.plain (OpenSpec.upto triePathsSpec)) triePathsUptoCard

/-- THE SECOND FORM's CARD OF 'vestrylaw04.TrieForks'. -/
def trieForksUptoCard : Claim7 := { stood := { row := trieForksUptoRow, standIns := [], harness := (true, "e26969e879ca498bcbc9462b2c096ed6b18670f50286382d7ce2922925cfac36"), looks := false }, kinds := [], alts := [], laidByText := true, laidKinds := [.data, .data], laidTests := true, laidLooks := .later }
def TrieForksUptoCardSaid : Prop := Claim7.holds Tryd.pinned (.plain (OpenSpec.upto trieForksSpec)) trieForksUptoCard
end Rows
end Go.Proofs.YthkeofinamedfaaDoor
