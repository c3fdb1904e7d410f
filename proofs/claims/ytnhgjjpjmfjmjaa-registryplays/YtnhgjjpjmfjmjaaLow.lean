/- Contract of plain.highFirst: the number that at most eight bytes are. -/
import Derived.Test.YtnhgjjpjmfjmjaaChecked
import Derived.Test.YtnhgjjpjmfjmjaaBase
namespace Go.Proofs.Ytnhgjjpjmfjmjaa
open Go.RowKit
set_option linter.unusedVariables false

end Go.Proofs.Ytnhgjjpjmfjmjaa
