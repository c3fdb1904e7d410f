/- Small facts for the laws' walks: strings of what is shown, draws. -/
import Derived.Test.YtomfhihhhfelfaaDoorSmallD
import Derived.Deep.QuietTactic
import Derived.BigQuiet
namespace Go.Proofs.YtomfhihhhfelfaaDoor
open Go.RowKit
set_option linter.unusedVariables false

/-- string(v) of what is shown. -/
theorem strs {B : Nat} {v : Value} {bs : List UInt8} {w : World} (h : Shows B w v bs) : (convert 22 9 v).run Tryd.prog w = .ok (.string (str8 bs)) w :=
  run_string_shows (P := Tryd.prog) 22 5 9 Tryd.underlying22 Tryd.underlying5 Tryd.underlying9 h

theorem Shows.drewN {B : Nat} {w : World} {v : Value} {bs : List UInt8} (h : Shows B w v bs) (n : Nat) : Shows B (w.drewN n) v bs :=
  h.below (below_drewN (Below.refl _ _) n)

theorem Lists.drewN {B : Nat} {w : World} {v : Value} {rows : List (List UInt8)} (h : Lists B w v rows) (n : Nat) : Lists B (w.drewN n) v rows :=
  h.below (below_drewN (Below.refl _ _) n)

theorem list_beq (a b : List UInt8) : (a == b) = decide (a = b) := by
  by_cases h : a = b
  · rw [decide_eq_true h, h]; simp
  · rw [decide_eq_false h]; simpa using h

theorem str_beq (a b : List UInt8) : ((str8 a).toList == (str8 b).toList) = decide (a = b) := by
  rw [ByteArray.toList_eq, ByteArray.toList_eq]
  exact list_beq a b

theorem bytes_beq (a b : ByteArray) : (a.toList == b.toList) = decide (a.data.toList = b.data.toList) := by
  rw [ByteArray.toList_eq, ByteArray.toList_eq]
  exact list_beq _ _
end Go.Proofs.YtomfhihhhfelfaaDoor
