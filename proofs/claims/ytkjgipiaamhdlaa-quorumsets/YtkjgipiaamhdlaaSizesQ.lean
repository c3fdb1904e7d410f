/- Contracts of the document's own sizes; the walk of QuorumSizes. -/
import Derived.Test.YtkjgipiaamhdlaaSmall6
namespace Go.Proofs.Ytkjgipiaamhdlaa
open Go.RowKit
set_option linter.unusedVariables false
set_option maxRecDepth 20000

set_option maxHeartbeats 1000000 in
theorem zsize_any (f : Int) (w : World) (hf : I64 f) : Calls Try.prog 10 #[.int .i64 f] w fun e w' => e = .returned (.tuple #[.int .i64 (sizeQ f), .int .i64 (sizeE f)]) ∧ w' = w := by
  unfold I64 at hf
  by_cases h : 1 ≤ f ∧ f ≤ 5
  · obtain ⟨e1, e2, _⟩ := sizeQ_ok h
    rw [e1, e2]
    clear e1 e2
    obtain ⟨h1, h5⟩ := h
    go_enter Try.func10, Try.ntmps10
    go_wp2
    go_ret2
    exact ⟨rfl, rfl⟩
  · obtain ⟨e1, e2⟩ := sizeQ_bad h
    rw [e1, e2]
    clear e1 e2
    by_cases h1 : f < 1
    · clear h
      go_enter Try.func10, Try.ntmps10
      go_wp2
      go_ret2
      exact ⟨rfl, rfl⟩
    · have h5 : 5 < f := by omega
      clear h
      go_enter Try.func10, Try.ntmps10
      go_wp2
      go_ret2
      exact ⟨rfl, rfl⟩

set_option maxHeartbeats 1000000 in
theorem zfaults_any (n : Int) (w : World) (hn : I64 n) : Calls Try.prog 12 #[.int .i64 n] w fun e w' => e = .returned (.tuple #[.int .i64 (fltQ n), .int .i64 (fltE n)]) ∧ w' = w := by
  unfold I64 at hn
  go_enter Try.func12, Try.ntmps12
  go_wp2
  go_loopw [4] (fun i wr => ∃ k : Int, i = .int .i64 k ∧ 1 ≤ k ∧ k ≤ 6 ∧ Hid (∀ j : Int, 1 ≤ j → j < k → 3 * j + 1 ≠ n) ∧ wr = w) (fun i _ => (6 - intOf i).toNat)
  case atStart => exact ⟨1, rfl, by omega, by omega, hid fun j h1 h2 => by omega, rfl⟩
  case round =>
    obtain ⟨k, rfl, h1, h6, HJ, rfl⟩ := hrel
    by_cases h5 : k ≤ 5
    · by_cases hk : 3 * k + 1 = n
      · have e := fltQ_hit k h1 h5
        have HG := hid (show fltQ n = k ∧ fltE n = 0 by
          rw [hk] at e
          unfold fltE
          rw [e, if_neg (by omega)]
          exact ⟨rfl, rfl⟩)
        clear e
        subst hk
        go_wp2
        go_ret2
        exact ⟨by rw [HG.out.1, HG.out.2]; rfl, rfl⟩
      · have HK := hid hk
        have hk' : (3 * k + 1 == n) = false := by simpa using hk
        clear hk
        go_wp2
        go_roundw
        case rel => exact ⟨k + 1, by go_num, by omega, by omega, hid fun j j1 j2 => by
          rcases Int.lt_or_le j k with h | h
          · exact HJ.out j j1 h
          · have : j = k := by omega
            subst this
            exact HK.out, by trivial⟩
        case measure => simp only [intOf]; omega
    · have e := fltQ_none n fun j j1 j2 => HJ.out j j1 (by omega)
      have HE := hid (show fltQ n = 0 ∧ fltE n = 1 from ⟨e, by unfold fltE; rw [e]; rfl⟩)
      clear e
      go_wp2
      go_ret2
      exact ⟨by rw [HE.out.1, HE.out.2]; rfl, rfl⟩

set_option maxHeartbeats 1000000 in
theorem zmost_any (n : Int) (w : World) (hn : I64 n) : Calls Try.prog 14 #[.int .i64 n] w fun e w' => e = .returned (.int .i64 (mostQ n)) ∧ w' = w := by
  have hr := fltQ_range n
  by_cases h : fltQ n = 0
  · have HE := hid (show fltE n = 1 ∧ mostQ n = 0 by unfold fltE mostQ; rw [h]; exact ⟨rfl, rfl⟩)
    rw [HE.out.2]
    go_enter Try.func14, Try.ntmps14
    go_wp2_with (go_at_call 12; refine (zfaults_any _ _ hn).mono ?_; rintro e w1 ⟨rfl, rfl⟩; rw [HE.out.1])
    go_ret
    exact ⟨rfl, rfl⟩
  · have HE := hid (show fltE n = 0 ∧ mostQ n = 2 * fltQ n + 1 from ⟨if_neg h, if_neg h⟩)
    rw [HE.out.2]
    go_enter Try.func14, Try.ntmps14
    go_wp2_with (go_at_call 12; refine (zfaults_any _ _ hn).mono ?_; rintro e w1 ⟨rfl, rfl⟩; rw [HE.out.1])
    go_ret
    exact ⟨rfl, rfl⟩

set_option maxHeartbeats 1000000 in
theorem zfew_any (n : Int) (w : World) (hn : I64 n) : Calls Try.prog 16 #[.int .i64 n] w fun e w' => e = .returned (.int .i64 (fewQ n)) ∧ w' = w := by
  have hr := fltQ_range n
  by_cases h : fltQ n = 0
  · have HE := hid (show fltE n = 1 ∧ fewQ n = 0 by unfold fltE fewQ; rw [h]; exact ⟨rfl, rfl⟩)
    rw [HE.out.2]
    go_enter Try.func16, Try.ntmps16
    go_wp2_with (go_at_call 12; refine (zfaults_any _ _ hn).mono ?_; rintro e w1 ⟨rfl, rfl⟩; rw [HE.out.1])
    go_ret
    exact ⟨rfl, rfl⟩
  · have HE := hid (show fltE n = 0 ∧ fewQ n = fltQ n + 1 from ⟨if_neg h, if_neg h⟩)
    rw [HE.out.2]
    go_enter Try.func16, Try.ntmps16
    go_wp2_with (go_at_call 12; refine (zfaults_any _ _ hn).mono ?_; rintro e w1 ⟨rfl, rfl⟩; rw [HE.out.1])
    go_ret
    exact ⟨rfl, rfl⟩

set_option maxHeartbeats 1000000 in
theorem sizes_law (f n : Int) (w : World) (h1 : -9223372036854775808 ≤ f) (h2 : f ≤ 9223372036854775807) (h3 : -9223372036854775808 ≤ n) (h4 : n ≤ 9223372036854775807) : Calls Try.prog 3 #[.int .i64 f, .int .i64 n] w fun e w' => e = .returned (.bool true) ∧ Below w.heap.size w w' := by
  have HF := hid (show I64 f from ⟨h1, h2⟩)
  have HN := hid (show I64 n from ⟨h3, h4⟩)
  go_enter Try.func3, Try.ntmps3
  go_wp2_with (first
    | (go_at_call 8; refine (small6_any _).mono ?_; rintro e w1 ⟨rfl, hb1⟩)
    | (go_at_call 9; refine (size_any _ _ HF.out).mono ?_; rintro e w2 ⟨rfl, rfl⟩)
    | (go_at_call 10; refine (zsize_any _ _ HF.out).mono ?_; rintro e w3 ⟨rfl, rfl⟩)
    | (go_at_call 11; refine (faults_any _ _ HN.out).mono ?_; rintro e w4 ⟨rfl, rfl⟩)
    | (go_at_call 12; refine (zfaults_any _ _ HN.out).mono ?_; rintro e w5 ⟨rfl, rfl⟩)
    | (go_at_call 13; refine (most_any _ _ HN.out).mono ?_; rintro e w6 ⟨rfl, rfl⟩)
    | (go_at_call 14; refine (zmost_any _ _ HN.out).mono ?_; rintro e w7 ⟨rfl, rfl⟩)
    | (go_at_call 15; refine (few_any _ _ HN.out).mono ?_; rintro e w8 ⟨rfl, rfl⟩)
    | (go_at_call 16; refine (zfew_any _ _ HN.out).mono ?_; rintro e w9 ⟨rfl, rfl⟩))
  go_ret
  exact ⟨rfl, hb1⟩
end Go.Proofs.Ytkjgipiaamhdlaa
