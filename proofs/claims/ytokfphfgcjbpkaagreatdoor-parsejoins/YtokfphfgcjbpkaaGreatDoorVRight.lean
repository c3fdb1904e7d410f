/- Contracts of value.Right and value.Compare. -/
import Derived.Test.YtokfphfgcjbpkaaGreatDoorVTell
namespace Go.Proofs.YtokfphfgcjbpkaaGreatDoor
open Go.RowKit
set_option linter.unusedVariables false
set_option linter.unusedSimpArgs false
set_option maxRecDepth 20000

theorem cell_row (w : World) (g : Nat) (cs : Array Value) (t : TypeId) (fr : Nat × Nat) (i : Nat) (h : w.heap[g]? = some (.cells cs t fr)) : w.cell? ⟨g, i, none⟩ = cs[i]? := by
  simp [World.cell?, h]

/-- A value's box: a block of three cells, behind whatever is made later. -/
theorem box3 (w : World) (a b c : Value) (t : TypeId) : ∃ W, w.alloc (.cells #[a, b, c] t) = W ∧ Below w.heap.size w W ∧ w.heap.size < W.heap.size ∧
    ∀ W', Below W.heap.size W W' → W'.cell? ⟨w.heap.size, 0, none⟩ = some a ∧ W'.cell? ⟨w.heap.size, 1, none⟩ = some b ∧ W'.cell? ⟨w.heap.size, 2, none⟩ = some c := by
  refine ⟨_, rfl, (Below.refl _ _).alloc (Nat.le_refl _) _, by simp, fun W' h => ?_⟩
  have hn : W'.heap[w.heap.size]? = some (.cells #[a, b, c] t) := (h.block _ (by simp)).trans (heap_alloc_new w _)
  exact ⟨by rw [cell_row _ _ _ _ _ _ hn]; rfl, by rw [cell_row _ _ _ _ _ _ hn]; rfl, by rw [cell_row _ _ _ _ _ _ hn]; rfl⟩

theorem Tryz.eqGuardVal : Tryz.prog.eqGuardType Tryz.prog.depth 37 = false := by kernel_rfl

/-- Compare's answer. -/
def cmpV (x y : Vl) : Int := if eqv x y = true then 0 else if x.k ≠ y.k then cmpI x.k y.k else if x.n ≠ y.n then cmpI x.n y.n else cmpS x.s y.s

end Go.Proofs.YtokfphfgcjbpkaaGreatDoor
