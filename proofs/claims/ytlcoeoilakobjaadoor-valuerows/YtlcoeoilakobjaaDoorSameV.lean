/- The document's Same of two rows of the same values. -/
import Derived.Test.YtlcoeoilakobjaaDoorVRow
import Derived.Deep.QuietTactic
import Derived.BigQuiet
namespace Go.Proofs.YtlcoeoilakobjaaDoor
open Go.RowKit
set_option linter.unusedVariables false
set_option linter.unusedSimpArgs false
set_option maxRecDepth 20000

theorem Vals.drewN {B : Nat} {w : World} {v : Value} {xs : List Vl} (h : Vals B w v xs) (n : Nat) : Vals B (w.drewN n) v xs := h.below (below_drewN (Below.refl _ _) n)

set_option maxHeartbeats 1000000 in
theorem same_any (B : Nat) (v u : Value) (xs : List Vl) (w : World) (hv : Vals B w v xs) (hu : Vals B w u xs) :
    Calls Tryd.prog 27 #[v, u] w fun e w' => e = .returned (.bool true) ∧ Below w.heap.size w w' := by
  obtain ⟨a, c, rfl, h1, h2, _, h3⟩ := id hv
  obtain ⟨a', c', rfl, k1, k2, _, k3⟩ := id hu
  unfold maxLen at h2 k2
  have hg := Tryd.eqGuardVal
  by_cases hne : xs = []
  · subst hne
    clear h3 k3 hv hu
    go_enter Tryd.func27, Tryd.ntmps27
    go_wp2_with fail
    go_rounds 1
    go_ret
    exact ⟨rfl, Below.refl _ _⟩
  · obtain ⟨b, off, rfl, hb, hcell⟩ := h3 hne
    obtain ⟨b', off', rfl, hb', hcell'⟩ := k3 hne
    have HA := hid hcell
    have HB := hid hcell'
    clear hv hu h3 k3 hcell hcell'
    go_enter Tryd.func27, Tryd.ntmps27
    go_wp2_with fail
    go_loopw [5] (fun i wr => ∃ (k q : Nat), k ≤ xs.length ∧ i = .int .i64 k ∧ wr = w.drewN q) (fun i _ => xs.length - (intOf i).toNat)
    case atStart => exact ⟨0, 0, Nat.zero_le _, rfl, (World.drewN_zero w).symm⟩
    case round =>
      obtain ⟨k, q, hk, rfl, rfl⟩ := hrel
      by_cases hlt : k < xs.length
      · obtain ⟨x, hx⟩ : ∃ x, xs[k]? = some x := ⟨_, List.getElem?_eq_getElem hlt⟩
        obtain ⟨xk, xn, xt⟩ := x
        obtain ⟨c0, c1, c2⟩ := HA.out k _ hx
        obtain ⟨d0, d1, d2⟩ := HB.out k _ hx
        have heq : ∀ w, (binOp .neq 23 (.agg #[.int .i64 xk, .int .i64 xn, .string (str8 xt)]) (.agg #[.int .i64 xk, .int .i64 xn, .string (str8 xt)])).run Tryd.prog w = .ok (.bool false) w := fun w => by
          have := run_nev ⟨xk, xn, xt⟩ ⟨xk, xn, xt⟩ w
          rw [eqv_iff.2 rfl] at this
          exact this
        dsimp only at c0 c1 c2 d0 d1 d2
        clear hx
        go_wp2_with fail
        go_quiet (fail)
        go_wp2
        go_roundw
        case rel => exact ⟨k + 1, q + nq, by omega, by go_num, by first | rfl | exact World.drewN_drewN _ _ _ | simp [World.drewN_drewN]⟩
        case measure => simp [intOf]; omega
      · go_wp2
        go_ret
        exact ⟨rfl, below_drewN (Below.refl _ _) q⟩
end Go.Proofs.YtlcoeoilakobjaaDoor
