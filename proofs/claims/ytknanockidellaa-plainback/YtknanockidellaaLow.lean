/- Contract of plain.highFirst: the number that at most eight bytes are. -/
import Derived.Test.YtknanockidellaaChecked
import Derived.Test.YtknanockidellaaBase
namespace Go.Proofs.Ytknanockidellaa
open Go.RowKit
set_option linter.unusedVariables false

set_option maxHeartbeats 400000 in
theorem low_some (b off c : Nat) (bs : List UInt8) (w : World) (hlen : bs.length ≤ 8)
    (hcell : ∀ j, j < bs.length → w.cell? ⟨b, off + j, none⟩ = some (.int .u8 ((bs[j]?.getD 0).toNat : Int))) :
    Calls Try.prog 35 #[.slice (some ⟨b, off, none⟩) bs.length c] w fun e w' => e = .returned (.int .u64 (num bs)) ∧ w' = w := by
  go_enter Try.func35, Try.ntmps35
  go_wp2
  go_loop [3, 8] (fun n i => ∃ k : Nat, k ≤ bs.length ∧ i = .int .i64 k ∧ n = .int .u64 (num (bs.take k))) (fun _ i => bs.length - (intOf i).toNat)
  case atStart => exact ⟨0, Nat.zero_le _, rfl, rfl⟩
  case round =>
    obtain ⟨k, hk, rfl, rfl⟩ := hrel
    by_cases hlt : k < bs.length
    · have hc := hcell k hlt
      have HS := hid (num_step bs k hlt hlen)
      go_wp2
      go_round
      case rel => exact ⟨k + 1, by omega, by go_num, congrArg (Value.int .u64) HS.out⟩
      case measure => simp [intOf]; omega
    · have e : num (bs.take k) = num bs := by rw [List.take_of_length_le (by omega)]
      have HE := hid e
      clear e
      go_wp2
      go_ret
      exact ⟨by rw [HE.out]; rfl, rfl⟩

set_option maxHeartbeats 400000 in
theorem low_none (a : Option Addr) (c : Nat) (w : World) :
    Calls Try.prog 35 #[.slice a 0 c] w fun e w' => e = .returned (.int .u64 0) ∧ w' = w := by
  go_enter Try.func35, Try.ntmps35
  go_wp2
  go_rounds 1
  go_ret
  exact ⟨rfl, rfl⟩

theorem low_any (B : Nat) (v : Value) (bs : List UInt8) (w : World) (h : Shows B w v bs) (hlen : bs.length ≤ 8) :
    Calls Try.prog 35 #[v] w fun e w' => e = .returned (.int .u64 (num bs)) ∧ w' = w := by
  obtain ⟨a, c, rfl, h1, h2, hn, h3⟩ := h
  by_cases hne : bs = []
  · subst hne
    exact low_none a c w
  · obtain ⟨b, off, rfl, _, hc⟩ := h3 hne
    exact low_some b off c bs w hlen hc
end Go.Proofs.Ytknanockidellaa
