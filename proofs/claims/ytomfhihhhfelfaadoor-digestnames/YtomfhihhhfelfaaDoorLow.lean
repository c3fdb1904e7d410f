/- Contract of plain.highFirst: the number that at most eight bytes are. -/
import Derived.Test.YtomfhihhhfelfaaDoorChecked
import Derived.Test.YtomfhihhhfelfaaDoorBase
namespace Go.Proofs.YtomfhihhhfelfaaDoor
open Go.RowKit
set_option linter.unusedVariables false

end Go.Proofs.YtomfhihhhfelfaaDoor
