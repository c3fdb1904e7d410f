/- Contract of plain.highFirst: the number that at most eight bytes are. -/
import Derived.Test.YthkeofinamedfaaDoorChecked
import Derived.Test.YthkeofinamedfaaDoorBase
namespace Go.Proofs.YthkeofinamedfaaDoor
open Go.RowKit
set_option linter.unusedVariables false
set_option maxRecDepth 20000

end Go.Proofs.YthkeofinamedfaaDoor
