/- Contracts of bits.RotateLeft32 and of digest's right. -/
import Derived.Test.YthkeofinamedfaaDoorChecked
import Derived.Test.YthkeofinamedfaaDoorSha
namespace Go.Proofs.YthkeofinamedfaaDoor
open Go.RowKit
set_option linter.unusedVariables false
set_option maxRecDepth 20000

theorem low5 : ∀ n : Fin 32, 1 ≤ n.val → bits .and .u64 (IntKind.u64.wrap (-(n.val : Int))) 31 = ((32 - n.val : Nat) : Int) := by decide +kernel

set_option maxHeartbeats 400000 in
theorem rotl_any (x n : Nat) (w : World) (hx : x < 4294967296) (h1 : 1 ≤ n) (h2 : n ≤ 31) :
    Calls Tryd.prog 88 #[.int .u32 x, .int .i64 (-(n : Int))] w fun e w' => e = .returned (.int .u32 (rot x n)) ∧ w' = w := by
  have h5 := low5 ⟨n, by omega⟩ h1
  simp only at h5
  go_enter Tryd.func88, Tryd.ntmps88
  go_wp2
  go_ret
  refine ⟨congrArg (fun x : Int => Ending.returned (Value.int .u32 x)) ?_, rfl⟩
  rw [show 32 - (32 - n) = n by omega, show ((x : Int) * 2 ^ (32 - n) % 4294967296) = ((x * 2 ^ (32 - n) % 4294967296 : Nat) : Int) from by simp, show ((x : Int) / 2 ^ n) = ((x / 2 ^ n : Nat) : Int) from by simp]
  rw [or32 _ _ (Nat.mod_lt _ (by decide)) (Nat.lt_of_le_of_lt (Nat.div_le_self _ _) hx), Nat.or_comm]
  rfl

set_option maxHeartbeats 400000 in
theorem right_any (x n : Nat) (w : World) (hx : x < 4294967296) (h1 : 1 ≤ n) (h2 : n ≤ 31) :
    Calls Tryd.prog 86 #[.int .u32 x, .int .i64 n] w fun e w' => e = .returned (.int .u32 (rot x n)) ∧ w' = w := by
  go_enter Tryd.func86, Tryd.ntmps86
  go_wp2_with fail
  refine (rotl_any x n w hx h1 h2).mono ?_
  rintro e w' ⟨rfl, rfl⟩
  go_wp2
  go_ret
  exact ⟨rfl, rfl⟩

/-- The same, where the number is typed otherwise. -/
theorem right_at (x : Nat) (m : Int) (n : Nat) (w : World) (hm : m = (n : Int)) (hx : x < 4294967296) (h1 : 1 ≤ n) (h2 : n ≤ 31) :
    Calls Tryd.prog 86 #[.int .u32 x, .int .i64 m] w fun e w' => e = .returned (.int .u32 (rot x n)) ∧ w' = w := by
  subst hm
  exact right_any x n w hx h1 h2

/-- The same, the number whatever is typed. -/
theorem right_int (x : Nat) (m : Int) (w : World) (hx : x < 4294967296) (h1 : 1 ≤ m) (h2 : m ≤ 31) :
    Calls Tryd.prog 86 #[.int .u32 x, .int .i64 m] w fun e w' => e = .returned (.int .u32 (rot x m.toNat)) ∧ w' = w :=
  right_at x m m.toNat w (by omega) hx (by omega) (by omega)
end Go.Proofs.YthkeofinamedfaaDoor
