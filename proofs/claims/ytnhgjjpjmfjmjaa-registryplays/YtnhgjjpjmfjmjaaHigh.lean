/- Contract of plain.appendHighFirst: the bytes of n, the highest first, are put behind an owned row. -/
import Derived.Test.YtnhgjjpjmfjmjaaChecked
import Derived.Test.YtnhgjjpjmfjmjaaBase
namespace Go.Proofs.Ytnhgjjpjmfjmjaa
open Go.RowKit
set_option linter.unusedVariables false

theorem Try.infoU8 : (Try.prog.info? 5).map (fun i => (i.zero, i.size, i.bytes)) = some (some (.int .u8 0), 1, 1) := by kernel_rfl

end Go.Proofs.Ytnhgjjpjmfjmjaa
