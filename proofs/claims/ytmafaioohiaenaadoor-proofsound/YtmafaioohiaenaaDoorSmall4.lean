/- Contract of the law's small case. -/
import Derived.Test.YtmafaioohiaenaaDoorWhole
import Derived.Lib.SlBytesConst
namespace Go.Proofs.YtmafaioohiaenaaDoor
open Go.RowKit
set_option linter.unusedVariables false
set_option maxRecDepth 20000

theorem says_two (w : World) (u v : UInt8) (t : TypeId) (fr fr' : Nat × Nat) : Says ((w.alloc (.cells #[.int .u8 (u.toNat : Int)] t fr)).alloc (.cells #[.int .u8 (v.toNat : Int)] t fr')) (.slice (some ⟨w.heap.size, 0, none⟩) 1 1) [u] ∧ Says ((w.alloc (.cells #[.int .u8 (u.toNat : Int)] t fr)).alloc (.cells #[.int .u8 (v.toNat : Int)] t fr')) (.slice (some ⟨w.heap.size + 1, 0, none⟩) 1 1) [v] := by
  refine ⟨(says_one w u t fr).new (new_alloc _ _), ?_⟩
  have := says_one (w.alloc (.cells #[.int .u8 (u.toNat : Int)] t fr)) v t fr'
  rwa [World.size_alloc] at this

end Go.Proofs.YtmafaioohiaenaaDoor
