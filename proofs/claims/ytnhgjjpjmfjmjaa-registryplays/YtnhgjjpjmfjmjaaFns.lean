/- Contracts of plain.Num, plain.NumKey, plain.appendBlob, plain.takeCount, bytes.Clone, plain.TakeBlob. -/
import Derived.Test.YtnhgjjpjmfjmjaaHigh
import Derived.Test.YtnhgjjpjmfjmjaaLow
namespace Go.Proofs.Ytnhgjjpjmfjmjaa
open Go.RowKit
set_option linter.unusedVariables false

/-- A blob's bytes. -/
def blob (bs : List UInt8) : List UInt8 := be bs.length 4 ++ bs

theorem blob_length (bs : List UInt8) : (blob bs).length = 4 + bs.length := by simp [blob, be_length]

end Go.Proofs.Ytnhgjjpjmfjmjaa
