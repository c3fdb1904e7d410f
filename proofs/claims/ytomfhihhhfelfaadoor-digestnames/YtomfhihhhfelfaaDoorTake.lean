/- Contracts of plain.takeCount, bytes.Clone, plain.TakeBlob. -/
import Derived.Test.YtomfhihhhfelfaaDoorFns
namespace Go.Proofs.YtomfhihhhfelfaaDoor
open Go.RowKit
set_option linter.unusedVariables false

/-- takeCount's answer: the count, the error. -/
def tcount (bs : List UInt8) (most : Nat) : Nat × Nat :=
  if bs.length < 4 then (0, 3) else if most < num (bs.take 4) then (0, 2) else (num (bs.take 4), 0)

/-- TakeBlob's answer: the error, the blob's bytes, how many bytes it takes. -/
def tblob (bs : List UInt8) : Nat × List UInt8 × Nat :=
  if (tcount bs 65536).2 ≠ 0 then ((tcount bs 65536).2, [], 0)
  else if bs.length < 4 + (tcount bs 65536).1 then (3, [], 0)
  else (0, (bs.drop 4).take (tcount bs 65536).1, 4 + (tcount bs 65536).1)

theorem tcount_ok (bs : List UInt8) (most : Nat) (h : (tcount bs most).2 = 0) : 4 ≤ bs.length ∧ (tcount bs most).1 = num (bs.take 4) ∧ (tcount bs most).1 ≤ most := by
  unfold tcount at h ⊢
  split at h
  · simp at h
  · split at h
    · simp at h
    · rename_i h1 h2
      rw [if_neg h1, if_neg h2]
      exact ⟨by omega, rfl, by omega⟩

theorem tcount_err (bs : List UInt8) (most : Nat) : (tcount bs most).2 ≤ 3 := by
  unfold tcount
  split
  · simp
  · split <;> simp

end Go.Proofs.YtomfhihhhfelfaaDoor
