/- Regions that draw their order, with a last store of a row (out of WHeld, CCre, PRead). -/
import Derived.Test.YthjgbcbgkafgjaaDoorPlPB
import Derived.Test.YthjgbcbgkafgjaaDoorWHeld
namespace Go.Proofs.YthjgbcbgkafgjaaDoor
open Go.RowKit Go.Shelf
set_option linter.unusedVariables false
set_option linter.unusedSimpArgs false
set_option maxRecDepth 20000

section
variable {P : Program} {md : Region.Mode} {ops : Array Oper} {Q : Exit → Act → World → Prop} {S : World → Prop} {fuel : Nat} {listed : Array Bool} {a : Act} {w : World} {i k0 : Nat} {oi : Oper}
theorem takeE_storerowC (hr : Region.ready md ops listed = [i]) (hi : ops[i]? = some oi) (gi : oi.guard = none) (ty : TypeId) (x y : Operand) (ki : oi.op = .store ty x y)
    (g : Nat) (cells : Array Value) (hx : a.eval x = .pointer (some ⟨g, 0, none⟩)) (hy : a.eval y = .agg cells) (t : TypeId) (old : Array Value) (hg : w.heap[g]? = some (.cells old t (0, 0))) (hs : (P.info? ty).map (·.size) = some cells.size)
    (hold : old.size = cells.size) (h1 : cells.all (·.oneCell') = true) (hS : S (w.setRow g cells) ∨ i = k0)
    (h : wpAnyE P md ops Q S k0 fuel (listed.setIfInBounds i true) (a.put oi.dst undef) (w.setRow g cells)) : wpAnyE P md ops Q S k0 (fuel + 1) listed a w :=
  takeE_one hr hi gi (wp_store_row ty x y ki g cells hx hy t old hg hs hold h1 ⟨hS, h⟩)
end

theorem Spares.setRow {S : Nat → Prop} {a b : World} (h : Spares S a b) {p : Nat} (hp : S p ∨ a.heap.size ≤ p) (cs : Array Value) : Spares S a (b.setRow p cs) :=
  ⟨h.os, h.tape, h.output, by simpa using h.size, fun k hk hS => (setRow_other _ _ _ _ (by rintro rfl; rcases hp with hp | hp; exact hS hp; omega)).trans (h.block k hk hS)⟩

end Go.Proofs.YthjgbcbgkafgjaaDoor
