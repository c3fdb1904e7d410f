/- Contracts of plain.TakeNum, plain.TakeNumKey and of the document's own Num, NumKey, TakeNum, TakeNumKey. -/
import Derived.Test.YtomfhihhhfelfaaDoorFns
namespace Go.Proofs.YtomfhihhhfelfaaDoor
open Go.RowKit
set_option linter.unusedVariables false

/-- A uint64 as an int. -/
def i64of (n : Nat) : Int := wrap64 (n : Int)

theorem wrap64_eq (x : Int) : wrap64 x = (x + 9223372036854775808) % 18446744073709551616 - 9223372036854775808 := by
  simp only [wrap64]

/-- TakeNum's answer (add: nothing), and TakeNumKey's (add: 2^63): the number, the bytes it takes, the error. -/
def tnum (bs : List UInt8) (add : Nat) : Int × Int × Int := if bs.length < 8 then (0, 0, 3) else (i64of (num (bs.take 8) + add), 8, 0)

theorem key_turn (q : Nat) : wrap64 (IntKind.u64.wrap ((q : Int) - 9223372036854775808)) = i64of (q + 9223372036854775808) := by
  rw [i64of, wrap64_eq, wrap64_eq, IntKind.wrap_u64]
  omega

theorem ret3 {a a' b b' c c' : Int} (h1 : a = a') (h2 : b = b') (h3 : c = c') : Ending.returned (.tuple #[.int .i64 a, .int .i64 b, .int .i64 c]) = .returned (.tuple #[.int .i64 a', .int .i64 b', .int .i64 c']) := by
  rw [h1, h2, h3]

theorem toNat_wrapped (x : Int) (m : Nat) (h : x % 18446744073709551616 = ((m % 18446744073709551616 : Nat) : Int)) : (BitVec.ofInt 64 x).toNat = m % 18446744073709551616 := by
  rw [BitVec.toNat_ofInt]
  have e : ((2 ^ 64 : Nat) : Int) = 18446744073709551616 := by decide
  rw [e, h, Int.toNat_natCast]

theorem or_nat (m c : Nat) (hc : c < 256) : m * 256 ||| c = m * 256 + c := by
  have := Nat.shiftLeft_add_eq_or_of_lt (i := 8) (b := c) (by omega) m
  rw [Nat.shiftLeft_eq] at this
  exact this.symm

/-- One step of the document's TakeNum, as the walk writes it. -/
theorem or_i64 (N : Nat) (c : UInt8) : bits .or .i64 (wrap64 (i64of N * 256)) (wrap64 (c.toNat : Int)) = i64of (N * 256 + c.toNat) := by
  have hc : c.toNat < 256 := c.toNat_lt
  generalize c.toNat = d at *
  have e1 : (BitVec.ofInt 64 (wrap64 (i64of N * 256))).toNat = (N * 256) % 18446744073709551616 := by
    apply toNat_wrapped
    rw [i64of, wrap64_eq, wrap64_eq]
    omega
  have e2 : (BitVec.ofInt 64 (wrap64 (d : Int))).toNat = d % 18446744073709551616 := by
    apply toNat_wrapped
    rw [wrap64_eq]
    omega
  have e3 : (BitVec.ofInt 64 (wrap64 (i64of N * 256)) ||| BitVec.ofInt 64 (wrap64 (d : Int))).toNat = (N % 72057594037927936) * 256 + d := by
    rw [BitVec.toNat_or, e1, e2]
    have f1 : (N * 256) % 18446744073709551616 = (N % 72057594037927936) * 256 := by omega
    have f2 : d % 18446744073709551616 = d := by omega
    rw [f1, f2, or_nat _ _ hc]
  show IntKind.i64.wrap ((BitVec.ofInt 64 (wrap64 (i64of N * 256)) ||| BitVec.ofInt 64 (wrap64 (d : Int))).toNat : Int) = _
  rw [e3, IntKind.wrap_i64, i64of, wrap64_eq]
  clear e1 e2 e3
  omega
end Go.Proofs.YtomfhihhhfelfaaDoor
