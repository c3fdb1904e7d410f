/- Three values' boxes. -/
import Derived.Test.YtlcoeoilakobjabDoorSmall7
namespace Go.Proofs.YtlcoeoilakobjabDoor
open Go.RowKit
set_option linter.unusedVariables false
set_option linter.unusedSimpArgs false
set_option maxRecDepth 20000

/-- Three boxes: blocks of three cells, behind whatever is made later. -/
theorem boxes3 (w : World) (a b c a' b' c' a2 b2 c2 : Value) (t : TypeId) : ∃ W, ((w.alloc (.cells #[a, b, c] t)).alloc (.cells #[a', b', c'] t)).alloc (.cells #[a2, b2, c2] t) = W ∧ Below w.heap.size w W ∧ w.heap.size + 2 < W.heap.size ∧
    ∀ W', Below W.heap.size W W' → W'.heap[w.heap.size]? = some (.cells #[a, b, c] t) ∧ W'.heap[w.heap.size + 1]? = some (.cells #[a', b', c'] t) ∧ W'.heap[w.heap.size + 2]? = some (.cells #[a2, b2, c2] t) := by
  obtain ⟨W, hW, hb, hz, hc⟩ := boxes w a b c a' b' c' t
  have hs : W.heap.size = w.heap.size + 2 := by rw [← hW]; simp
  refine ⟨_, by rw [hW], hb.alloc hb.size _, by simp; omega, fun W' h => ?_⟩
  have hb2 : Below W.heap.size W W' := ((Below.refl _ W).alloc (Nat.le_refl _) _).trans (h.mono (by simp))
  refine ⟨(hc W' hb2).1, (hc W' hb2).2, ?_⟩
  rw [h.block _ (by simp; omega), ← hs]
  exact heap_alloc_new W _

end Go.Proofs.YtlcoeoilakobjabDoor
