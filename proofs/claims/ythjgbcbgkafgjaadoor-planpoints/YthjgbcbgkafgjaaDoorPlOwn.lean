/- Owned of a span's two ends (out of BtOwn). -/
import Derived.Test.YthjgbcbgkafgjaaDoorOwned
import Derived.Test.YthjgbcbgkafgjaaDoorPlPS
namespace Go.Proofs.YthjgbcbgkafgjaaDoor
open Go.RowKit Go.Shelf
set_option linter.unusedVariables false
set_option linter.unusedSimpArgs false
set_option maxRecDepth 20000

theorem markedP_nil (B : Nat) (w : World) : Marked B w [] 0 := fun j v hv => by simp at hv

theorem markedP_cons {B : Nat} {w : World} {x : Value} {xs : List Value} {vs : List Value} (hx : Full B w x xs) (h : Marked B w vs 0) : Marked B w (x :: vs) 0 := by
  intro j v hv
  match j, hv with
  | 0, hv => simp at hv; subst hv; exact ⟨xs, hx, fun h => by omega⟩
  | j + 1, hv =>
    obtain ⟨ys, hf, _⟩ := h j v (by simpa using hv)
    exact ⟨ys, hf, fun h => by omega⟩

theorem apartP_nil : Apart [] := fun i j u v g hu => by simp at hu

theorem apartP_cons {x : Value} {vs : List Value} (h : Apart vs) (hx : ∀ g, x.ownBlock = some g → ∀ v ∈ vs, v.ownBlock ≠ some g) : Apart (x :: vs) := by
  intro i j u v g hu hv hij hg hv2
  match i, j, hu, hv with
  | 0, 0, _, _ => exact hij rfl
  | 0, j + 1, hu, hv =>
    simp at hu
    subst hu
    exact hx g hg v (List.mem_of_getElem? (by simpa using hv)) hv2
  | i + 1, 0, hu, hv =>
    simp at hv
    subst hv
    exact hx g hv2 u (List.mem_of_getElem? (by simpa using hu)) hg
  | i + 1, j + 1, hu, hv => exact h i j u v g (by simpa using hu) (by simpa using hv) (by omega) hg hv2

/-- Owned of both ends of a span that is in memory of its own. -/
theorem own_span (B : Nat) (W : World) (k v : Value) (a b : List UInt8) (hB : B ≤ W.heap.size) (hk : Copy B W k a) (hv : Copy B W v b) (hap : ∀ g, k.ownBlock = some g → v.ownBlock ≠ some g) :
    Calls Tryd.prog 12 #[.slice (some ⟨W.heap.size, 0, none⟩) 2 2] (W.alloc (.cells #[k, v] 29)) fun e W' => e = .returned (.bool true) ∧ Below B W W' := by
  obtain ⟨ys, h1⟩ := full_of_owns hk
  obtain ⟨zs, h2⟩ := full_of_owns hv
  have hb : Below W.heap.size W (W.alloc (.cells #[k, v] 29)) := Below.alloc (Below.refl _ _) (Nat.le_refl _) _
  have hrow : (W.alloc (.cells #[k, v] 29)).ownsRow B 29 1 (.slice (some ⟨W.heap.size, 0, none⟩) 2 2) 2 [k, v] :=
    ⟨rfl, .inr ⟨W.heap.size, 2, #[k, v], rfl, hB, heap_alloc_new W _, Nat.le_refl _, by unfold maxLen; omega, rfl, rfl⟩⟩
  have hap2 : Apart [k, v] := apartP_cons (apartP_cons apartP_nil (fun g hg u hu => by cases hu)) (fun g hg u hu e => by
    simp only [List.mem_cons, List.not_mem_nil, or_false] at hu
    subst hu
    exact hap g hg e)
  refine (owned_keep B W.heap.size 2 [k, v] _ (Nat.le_trans hB hb.size) hrow (markedP_cons (h1.below hb) (markedP_cons (h2.below hb) (markedP_nil _ _))) hap2 (by simp)).mono ?_
  rintro e W' ⟨rfl, q1, q2⟩
  refine ⟨rfl, q1.os.trans hb.os, q1.tape.trans hb.tape, q1.output.trans hb.output, Nat.le_trans hb.size q1.size, fun i hi => (q2 i (fun u hu e => ?_)).trans (hb.block i (by omega))⟩
  simp only [List.mem_cons, List.not_mem_nil, or_false] at hu
  rcases hu with rfl | rfl
  · have := (hk.lt i e).1
    omega
  · have := (hv.lt i e).1
    omega
end Go.Proofs.YthjgbcbgkafgjaaDoor
