/- Small facts for the laws' walks. -/
import Derived.Test.YtknanockidellaaSmall
import Derived.Test.YtknanockidellaaLent
import Derived.Test.YtknanockidellaaOwned
import Derived.Deep.RegionWith
import Derived.Deep.DeepCutAuto
namespace Go.Proofs.Ytknanockidellaa
open Go.RowKit
set_option linter.unusedVariables false

theorem Shows.drew {B : Nat} {w : World} {v : Value} {bs : List UInt8} (h : Shows B w v bs) : Shows B w.drew v bs :=
  h.below ((Below.refl B w).drew)

/-- string(v) of what is shown. -/
theorem strs {B : Nat} {v : Value} {bs : List UInt8} {w : World} (h : Shows B w v bs) : (convert 22 9 v).run Try.prog w = .ok (.string (str8 bs)) w :=
  run_string_shows (P := Try.prog) 22 5 9 Try.underlying22 Try.underlying5 Try.underlying9 h

theorem Lends.full {B : Nat} {w : World} {v : Value} {bs : List UInt8} (h : Lends B w v bs) : ∃ ys, Full B w v ys := by
  obtain ⟨g, rfl, ho⟩ := h
  exact ⟨_, .inr ⟨g, _, _, rfl, ho⟩⟩

theorem Lends.lt {B : Nat} {w : World} {v : Value} {bs : List UInt8} (h : Lends B w v bs) : ∀ k, v.ownBlock = some k → B ≤ k ∧ k < w.heap.size := by
  obtain ⟨g, rfl, ho⟩ := h
  intro k hk
  exact ho.lt k hk

/-- A slice that is owned, its form. -/
theorem own_form {w : World} {B e n : Nat} {v : Value} {xs : List Value} (h : w.ownsRow B e 1 v n xs) : ∃ a c, v = .slice a n c := by
  rcases h.2 with ⟨e, h0⟩ | ⟨g, cap, _, e, _⟩
  · exact ⟨none, 0, by rw [e, h0]⟩
  · exact ⟨_, _, e⟩

theorem marked_nil0 (B : Nat) (w : World) : Marked B w [] 0 := fun j v hv => by simp at hv

theorem marked_cons {B : Nat} {w : World} {x : Value} {xs : List Value} {vs : List Value} (hx : Full B w x xs) (h : Marked B w vs 0) : Marked B w (x :: vs) 0 := by
  intro j v hv
  match j, hv with
  | 0, hv => simp at hv; subst hv; exact ⟨xs, hx, fun h => by omega⟩
  | j + 1, hv =>
    obtain ⟨ys, hf, _⟩ := h j v (by simpa using hv)
    exact ⟨ys, hf, fun h => by omega⟩

theorem apart_nil : Apart [] := fun i j u v g hu => by simp at hu

/-- One more, whose block is none of the others'. -/
theorem apart_cons {x : Value} {vs : List Value} (h : Apart vs) (hx : ∀ g, x.ownBlock = some g → ∀ v ∈ vs, v.ownBlock ≠ some g) : Apart (x :: vs) := by
  intro i j u v g hu hv hij hg hv2
  match i, j, hu, hv with
  | 0, 0, _, _ => exact hij rfl
  | 0, j + 1, hu, hv =>
    simp at hu
    subst hu
    exact hx g hg v (List.mem_of_getElem? (by simpa using hv)) hv2
  | i + 1, 0, hu, hv =>
    simp at hv
    subst hv
    exact hx g hv2 u (List.mem_of_getElem? (by simpa using hu)) hg
  | i + 1, j + 1, hu, hv => exact h i j u v g (by simpa using hu) (by simpa using hv) (by omega) hg hv2
end Go.Proofs.Ytknanockidellaa
