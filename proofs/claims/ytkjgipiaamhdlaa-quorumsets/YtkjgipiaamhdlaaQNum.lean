/- Contracts of quorum.Size, Faults, Most, Few, isSet, isReplica, Has. -/
import Derived.Test.YtkjgipiaamhdlaaQPure
namespace Go.Proofs.Ytkjgipiaamhdlaa
open Go.RowKit
set_option linter.unusedVariables false
set_option maxRecDepth 20000

set_option maxHeartbeats 1000000 in
theorem size_any (f : Int) (w : World) (hf : I64 f) : Calls Try.prog 9 #[.int .i64 f] w fun e w' => e = .returned (.tuple #[.int .i64 (sizeQ f), .int .i64 (sizeE f)]) ∧ w' = w := by
  unfold I64 at hf
  by_cases h : 1 ≤ f ∧ f ≤ 5
  · obtain ⟨e1, e2, _⟩ := sizeQ_ok h
    rw [e1, e2]
    clear e1 e2
    obtain ⟨h1, h5⟩ := h
    have h1' : ¬ f < 1 := by omega
    have h5' : ¬ 5 < f := by omega
    go_enter Try.func9, Try.ntmps9
    go_wp2
    go_ret2
    exact ⟨rfl, rfl⟩
  · obtain ⟨e1, e2⟩ := sizeQ_bad h
    rw [e1, e2]
    clear e1 e2
    by_cases h1 : f < 1
    · clear h
      go_enter Try.func9, Try.ntmps9
      go_wp2
      go_ret2
      exact ⟨rfl, rfl⟩
    · have h5 : 5 < f := by omega
      clear h
      go_enter Try.func9, Try.ntmps9
      go_wp2
      go_ret2
      exact ⟨rfl, rfl⟩

set_option maxHeartbeats 1000000 in
theorem faults_any (n : Int) (w : World) (hn : I64 n) : Calls Try.prog 11 #[.int .i64 n] w fun e w' => e = .returned (.tuple #[.int .i64 (fltQ n), .int .i64 (fltE n)]) ∧ w' = w := by
  unfold I64 at hn
  go_enter Try.func11, Try.ntmps11
  go_wp2
  go_loopw [4] (fun i wr => ∃ k : Int, i = .int .i64 k ∧ 1 ≤ k ∧ k ≤ 6 ∧ Hid (∀ j : Int, 1 ≤ j → j < k → 3 * j + 1 ≠ n) ∧ wr = w) (fun i _ => (6 - intOf i).toNat)
  case atStart => exact ⟨1, rfl, by omega, by omega, hid fun j h1 h2 => by omega, rfl⟩
  case round =>
    obtain ⟨k, rfl, h1, h6, HJ, rfl⟩ := hrel
    by_cases h5 : k ≤ 5
    · have HS := hid (sizeQ_ok ⟨h1, h5⟩)
      by_cases hk : 3 * k + 1 = n
      · have e := fltQ_hit k h1 h5
        have HG := hid (show fltQ n = k ∧ fltE n = 0 by
          rw [hk] at e
          unfold fltE
          rw [e, if_neg (by omega)]
          exact ⟨rfl, rfl⟩)
        clear e
        subst hk
        go_wp2_with (go_at_call 9; refine (size_any _ _ (by unfold I64; omega)).mono ?_; rintro e w1 ⟨rfl, rfl⟩; rw [HS.out.1, HS.out.2.1])
        go_ret2
        exact ⟨by rw [HG.out.1, HG.out.2]; rfl, rfl⟩
      · have HK := hid hk
        have hk' : (3 * k + 1 == n) = false := by simpa using hk
        clear hk
        go_wp2_with (go_at_call 9; refine (size_any _ _ (by unfold I64; omega)).mono ?_; rintro e w1 ⟨rfl, rfl⟩; rw [HS.out.1, HS.out.2.1])
        go_roundw
        case rel => exact ⟨k + 1, by go_num, by omega, by omega, hid fun j j1 j2 => by
          rcases Int.lt_or_le j k with h | h
          · exact HJ.out j j1 h
          · have : j = k := by omega
            subst this
            exact HK.out, by trivial⟩
        case measure => simp only [intOf]; omega
    · have e := fltQ_none n fun j j1 j2 => HJ.out j j1 (by omega)
      have HE := hid (show fltQ n = 0 ∧ fltE n = 1 from ⟨e, by unfold fltE; rw [e]; rfl⟩)
      clear e
      go_wp2
      go_ret2
      exact ⟨by rw [HE.out.1, HE.out.2]; rfl, rfl⟩

set_option maxHeartbeats 1000000 in
theorem most_any (n : Int) (w : World) (hn : I64 n) : Calls Try.prog 13 #[.int .i64 n] w fun e w' => e = .returned (.int .i64 (mostQ n)) ∧ w' = w := by
  have hr := fltQ_range n
  by_cases h : fltQ n = 0
  · have HE := hid (show fltE n = 1 ∧ mostQ n = 0 by unfold fltE mostQ; rw [h]; exact ⟨rfl, rfl⟩)
    rw [HE.out.2]
    go_enter Try.func13, Try.ntmps13
    go_wp2_with (go_at_call 11; refine (faults_any _ _ hn).mono ?_; rintro e w1 ⟨rfl, rfl⟩; rw [HE.out.1])
    go_ret
    exact ⟨rfl, rfl⟩
  · have HE := hid (show fltE n = 0 ∧ mostQ n = 2 * fltQ n + 1 from ⟨if_neg h, if_neg h⟩)
    rw [HE.out.2]
    go_enter Try.func13, Try.ntmps13
    go_wp2_with (go_at_call 11; refine (faults_any _ _ hn).mono ?_; rintro e w1 ⟨rfl, rfl⟩; rw [HE.out.1])
    go_ret
    exact ⟨rfl, rfl⟩

set_option maxHeartbeats 1000000 in
theorem few_any (n : Int) (w : World) (hn : I64 n) : Calls Try.prog 15 #[.int .i64 n] w fun e w' => e = .returned (.int .i64 (fewQ n)) ∧ w' = w := by
  have hr := fltQ_range n
  by_cases h : fltQ n = 0
  · have HE := hid (show fltE n = 1 ∧ fewQ n = 0 by unfold fltE fewQ; rw [h]; exact ⟨rfl, rfl⟩)
    rw [HE.out.2]
    go_enter Try.func15, Try.ntmps15
    go_wp2_with (go_at_call 11; refine (faults_any _ _ hn).mono ?_; rintro e w1 ⟨rfl, rfl⟩; rw [HE.out.1])
    go_ret
    exact ⟨rfl, rfl⟩
  · have HE := hid (show fltE n = 0 ∧ fewQ n = fltQ n + 1 from ⟨if_neg h, if_neg h⟩)
    rw [HE.out.2]
    go_enter Try.func15, Try.ntmps15
    go_wp2_with (go_at_call 11; refine (faults_any _ _ hn).mono ?_; rintro e w1 ⟨rfl, rfl⟩; rw [HE.out.1])
    go_ret
    exact ⟨rfl, rfl⟩

set_option maxHeartbeats 1000000 in
theorem isSet_any (s : Int) (w : World) : Calls Try.prog 31 #[.int .i64 s] w fun e w' => e = .returned (.bool (decide (0 ≤ s ∧ s < 65536))) ∧ w' = w := by
  by_cases h0 : 0 ≤ s
  · by_cases h1 : s < 65536
    · have HE := hid (show decide (0 ≤ s ∧ s < 65536) = true from decide_eq_true ⟨h0, h1⟩)
      rw [HE.out]
      go_enter Try.func31, Try.ntmps31
      go_wp2
      go_ret
      exact ⟨rfl, rfl⟩
    · have HE := hid (show decide (0 ≤ s ∧ s < 65536) = false from decide_eq_false fun h => h1 h.2)
      rw [HE.out]
      go_enter Try.func31, Try.ntmps31
      go_wp2
      go_ret
      exact ⟨rfl, rfl⟩
  · have HE := hid (show decide (0 ≤ s ∧ s < 65536) = false from decide_eq_false fun h => h0 h.1)
    rw [HE.out]
    go_enter Try.func31, Try.ntmps31
    go_wp2
    go_ret
    exact ⟨rfl, rfl⟩

set_option maxHeartbeats 1000000 in
theorem isReplica_any (s : Int) (w : World) : Calls Try.prog 29 #[.int .i64 s] w fun e w' => e = .returned (.bool (decide (1 ≤ s ∧ s ≤ 16))) ∧ w' = w := by
  by_cases h0 : 1 ≤ s
  · by_cases h1 : s ≤ 16
    · have HE := hid (show decide (1 ≤ s ∧ s ≤ 16) = true from decide_eq_true ⟨h0, h1⟩)
      rw [HE.out]
      go_enter Try.func29, Try.ntmps29
      go_wp2
      go_ret
      exact ⟨rfl, rfl⟩
    · have HE := hid (show decide (1 ≤ s ∧ s ≤ 16) = false from decide_eq_false fun h => h1 h.2)
      rw [HE.out]
      go_enter Try.func29, Try.ntmps29
      go_wp2
      go_ret
      exact ⟨rfl, rfl⟩
  · have HE := hid (show decide (1 ≤ s ∧ s ≤ 16) = false from decide_eq_false fun h => h0 h.1)
    rw [HE.out]
    go_enter Try.func29, Try.ntmps29
    go_wp2
    go_ret
    exact ⟨rfl, rfl⟩
end Go.Proofs.Ytkjgipiaamhdlaa
