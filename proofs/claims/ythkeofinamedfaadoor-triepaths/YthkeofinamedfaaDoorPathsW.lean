/- The walk of TriePaths, in the order in which the frame hands its facts. -/
import Derived.Test.YthkeofinamedfaaDoorPathsL
namespace Go.Proofs.YthkeofinamedfaaDoor
open Go.RowKit

theorem paths_law (v : Value) (xs : List ActV) (kv : Value) (key : List UInt8) (w : World) (hA : Acts w.heap.size w v xs) (hk : Shows w.heap.size w kv key) (_ : key.length ≤ 140737488351232) (ht : Tables w) :
    Calls Tryd.prog 6 #[v, kv] w fun e w' => e = .returned (.bool true) ∧ Below w.heap.size w w' := paths_any v kv xs key w hA hk ht
end Go.Proofs.YthkeofinamedfaaDoor
