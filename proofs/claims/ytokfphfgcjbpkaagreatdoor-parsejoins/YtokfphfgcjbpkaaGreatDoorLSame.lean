/- The document's Same of two rows of tokens that are one but for their places. -/
import Derived.Test.YtokfphfgcjbpkaaGreatDoorLSmall
import Derived.Deep.QuietTactic
import Derived.BigQuiet
namespace Go.Proofs.YtokfphfgcjbpkaaGreatDoor
open Go.RowKit Go.Shelf
set_option linter.unusedVariables false
set_option linter.unusedSimpArgs false
set_option maxRecDepth 20000

end Go.Proofs.YtokfphfgcjbpkaaGreatDoor
