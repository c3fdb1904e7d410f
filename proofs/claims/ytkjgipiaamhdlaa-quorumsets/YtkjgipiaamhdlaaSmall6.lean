/- Contract of the law's small case. -/
import Derived.Test.YtkjgipiaamhdlaaQAgr
namespace Go.Proofs.Ytkjgipiaamhdlaa
open Go.RowKit
set_option linter.unusedVariables false
set_option maxRecDepth 20000

theorem cel_new (w : World) (xs : List Value) (e : TypeId) (hm : xs.length ≤ 1000) : Cel (w.alloc (.cells xs.toArray e)).heap.size (w.alloc (.cells xs.toArray e)) (.slice (some ⟨w.heap.size, 0, none⟩) xs.length xs.length) xs :=
  ⟨_, xs.length, rfl, Nat.le_refl _, by unfold maxLen; omega, fun e => (by cases e), fun _ => ⟨w.heap.size, 0, rfl, by simp, fun j u hj => by
    rw [cell_of_row _ _ _ _ _ _ (heap_alloc_new w (.cells xs.toArray e))]
    simpa using hj⟩⟩

theorem small_facts : sizeQ 1 = 4 ∧ sizeE 1 = 0 ∧ mostQ 4 = 3 ∧ fewQ 4 = 2 ∧ setV [1, 3] = 5 ∧ setE [1, 3] = 0 ∧ (memQ 5 16).length = 2 ∧ isQ 4 7 = true ∧ isQ 4 5 = false ∧ agQ 4 [[97], [98], [97], []] = [97] := by
  refine ⟨rfl, rfl, rfl, rfl, ?_, ?_, ?_, ?_, ?_, ?_⟩
  · decide
  · decide
  · decide
  · decide
  · decide
  · decide

theorem ints_13 (w : World) : Ints (w.alloc (.cells #[.int .i64 1, .int .i64 3] 3)).heap.size (w.alloc (.cells #[.int .i64 1, .int .i64 3] 3)) (.slice (some ⟨w.heap.size, 0, none⟩) 2 2) [1, 3] :=
  ⟨cel_new w [.int .i64 1, .int .i64 3] 3 (by decide), by unfold I64; simp⟩

theorem strs_aba (w : World) : Strs (w.alloc (.cells #[.string ⟨#[97]⟩, .string ⟨#[98]⟩, .string ⟨#[97]⟩, .string ⟨#[]⟩] 9)).heap.size (w.alloc (.cells #[.string ⟨#[97]⟩, .string ⟨#[98]⟩, .string ⟨#[97]⟩, .string ⟨#[]⟩] 9)) (.slice (some ⟨w.heap.size, 0, none⟩) 4 4) [[97], [98], [97], []] :=
  ⟨cel_new w [.string ⟨#[97]⟩, .string ⟨#[98]⟩, .string ⟨#[97]⟩, .string ⟨#[]⟩] 9 (by decide), by simp⟩

set_option maxHeartbeats 1000000 in
theorem small6_any (w : World) : Calls Try.prog 8 #[] w fun e w' => e = .returned (.bool true) ∧ Below w.heap.size w w' := by
  have HS := hid small_facts
  go_enter Try.func8, Try.ntmps8
  go_wp2_with (go_at_call 9; refine (size_any _ _ (by unfold I64; omega)).mono ?_; rintro e w1 ⟨rfl, rfl⟩; rw [HS.out.1, HS.out.2.1])
  have hI := ints_13 w1
  have hbI : Below w1.heap.size w1 (w1.alloc (.cells #[.int .i64 1, .int .i64 3] 3)) := (Below.refl _ _).alloc (Nat.le_refl _) _
  generalize w1.alloc (.cells #[.int .i64 1, .int .i64 3] 3) = w2 at *
  refine (set_any _ _ [1, 3] _ hI).mono ?_
  rintro e w3 ⟨rfl, rfl⟩
  rw [HS.out.2.2.2.2.1, HS.out.2.2.2.2.2.1]
  clear hI
  go_wp2_with fail
  have hT := strs_aba w3
  have hbT : Below w1.heap.size w1 (w3.alloc (.cells #[.string ⟨#[97]⟩, .string ⟨#[98]⟩, .string ⟨#[97]⟩, .string ⟨#[]⟩] 9)) := hbI.alloc hbI.size _
  generalize w3.alloc (.cells #[.string ⟨#[97]⟩, .string ⟨#[98]⟩, .string ⟨#[97]⟩, .string ⟨#[]⟩] 9) = w4 at *
  refine (agreed_any _ 4 _ [[97], [98], [97], []] _ (by unfold I64; omega) (Nat.le_refl _) hT).mono ?_
  rintro e w5 ⟨rfl, hb5⟩
  rw [HS.out.2.2.2.2.2.2.2.2.2]
  have hb := hbT.trans (hb5.mono hbT.size)
  clear hb5 hbT hbI hT
  have e97 : str8 [97] = ⟨#[97]⟩ := rfl
  rw [e97]
  go_wp2_with (first
    | (go_at_call 13; refine (most_any _ _ (by unfold I64; omega)).mono ?_; rintro e w6 ⟨rfl, rfl⟩; rw [HS.out.2.2.1])
    | (go_at_call 15; refine (few_any _ _ (by unfold I64; omega)).mono ?_; rintro e w7 ⟨rfl, rfl⟩; rw [HS.out.2.2.2.1])
    | (go_at_call 22; refine (count_any _ _ (by unfold I64; omega)).mono ?_; rintro e w8 ⟨rfl, hb8⟩; rw [HS.out.2.2.2.2.2.2.1]))
  refine (is_any _ _ _ (by unfold I64; omega) (by unfold I64; omega)).mono ?_
  rintro e w9 ⟨rfl, hb9⟩
  rw [HS.out.2.2.2.2.2.2.2.1]
  go_wp2_with fail
  refine (is_any _ _ _ (by unfold I64; omega) (by unfold I64; omega)).mono ?_
  rintro e w10 ⟨rfl, hb10⟩
  rw [HS.out.2.2.2.2.2.2.2.2.1]
  go_wp2
  go_ret
  have h8 := hb.trans (hb8.mono hb.size)
  have h9 := h8.trans (hb9.mono h8.size)
  exact ⟨rfl, h9.trans (hb10.mono h9.size)⟩
end Go.Proofs.Ytkjgipiaamhdlaa
