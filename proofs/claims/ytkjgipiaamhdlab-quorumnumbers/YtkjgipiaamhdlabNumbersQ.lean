/- The walk of QuorumNumbers. -/
import Derived.Test.YtkjgipiaamhdlabSmall6
namespace Go.Proofs.Ytkjgipiaamhdlab
open Go.RowKit
set_option linter.unusedVariables false
set_option maxRecDepth 20000

set_option maxHeartbeats 1000000 in
theorem numbers_law (f : Int) (w : World) (h1 : -9223372036854775808 ≤ f) (h2 : f ≤ 9223372036854775807) : Calls Try.prog 3 #[.int .i64 f] w fun e w' => e = .returned (.bool true) ∧ Below w.heap.size w w' := by
  have HF := hid (show I64 f from ⟨h1, h2⟩)
  by_cases h : 1 ≤ f ∧ f ≤ 5
  · have HS := hid (sizeQ_ok h)
    obtain ⟨ha, hb⟩ := h
    have HN := hid (show fltQ (3 * f + 1) = f ∧ fltE (3 * f + 1) = 0 ∧ mostQ (3 * f + 1) = 2 * f + 1 ∧ fewQ (3 * f + 1) = f + 1 by
      have hs := HS.out
      rw [hs.1] at hs
      refine ⟨hs.2.2.1, ?_, hs.2.2.2.1, hs.2.2.2.2⟩
      unfold fltE
      rw [hs.2.2.1, if_neg (by omega)])
    have b1 : (2 * f + 1 + f == 3 * f + 1) = true := by rw [beq_iff_eq]; omega
    have h16 : 3 * f + 1 ≤ 16 := by omega
    have b2 : (2 * (2 * f + 1) - (3 * f + 1) == f + 1) = true := by rw [beq_iff_eq]; omega
    go_enter Try.func3, Try.ntmps3
    go_wp2_with (first
      | (go_at_call 4; refine (small6_any _).mono ?_; rintro e w1 ⟨rfl, hb1⟩)
      | (go_at_call 5; refine (size_any _ _ HF.out).mono ?_; rintro e w2 ⟨rfl, rfl⟩; rw [HS.out.1, HS.out.2.1])
      | (go_at_call 6; refine (faults_any _ _ (by unfold I64; omega)).mono ?_; rintro e w3 ⟨rfl, rfl⟩; rw [HN.out.1, HN.out.2.1])
      | (go_at_call 7; refine (most_any _ _ (by unfold I64; omega)).mono ?_; rintro e w4 ⟨rfl, rfl⟩; rw [HN.out.2.2.1])
      | (go_at_call 8; refine (few_any _ _ (by unfold I64; omega)).mono ?_; rintro e w5 ⟨rfl, rfl⟩; rw [HN.out.2.2.2]))
    go_ret
    exact ⟨rfl, hb1⟩
  · have HS := hid (sizeQ_bad h)
    by_cases h0 : f < 1
    · clear h
      go_enter Try.func3, Try.ntmps3
      go_wp2_with (first
        | (go_at_call 4; refine (small6_any _).mono ?_; rintro e w1 ⟨rfl, hb1⟩)
        | (go_at_call 5; refine (size_any _ _ HF.out).mono ?_; rintro e w2 ⟨rfl, rfl⟩; rw [HS.out.1, HS.out.2]))
      go_ret
      exact ⟨rfl, hb1⟩
    · have h5 : 5 < f := by omega
      clear h
      go_enter Try.func3, Try.ntmps3
      go_wp2_with (first
        | (go_at_call 4; refine (small6_any _).mono ?_; rintro e w1 ⟨rfl, hb1⟩)
        | (go_at_call 5; refine (size_any _ _ HF.out).mono ?_; rintro e w2 ⟨rfl, rfl⟩; rw [HS.out.1, HS.out.2]))
      go_ret
      exact ⟨rfl, hb1⟩
end Go.Proofs.Ytkjgipiaamhdlab
