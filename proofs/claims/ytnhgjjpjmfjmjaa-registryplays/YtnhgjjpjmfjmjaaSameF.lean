/- Contract of the law's helper SameRows, where the rows are the same. -/
import Derived.Test.YtnhgjjpjmfjmjaaCountF
import Derived.Deep.QuietTactic
import Derived.BigQuiet
namespace Go.Proofs.Ytnhgjjpjmfjmjaa
open Go.RowKit
set_option linter.unusedVariables false

theorem Shows.drewS {B : Nat} {w : World} {v : Value} {bs : List UInt8} (h : Shows B w v bs) (n : Nat) : Shows B (w.drewN n) v bs :=
  h.below (below_drewN (Below.refl _ _) n)

theorem Lists.drewS {B : Nat} {w : World} {v : Value} {rows : List (List UInt8)} (h : Lists B w v rows) (n : Nat) : Lists B (w.drewN n) v rows :=
  h.below (below_drewN (Below.refl _ _) n)

set_option maxHeartbeats 2000000 in
theorem sameF_some (B C : Nat) (aa ab : Option Addr) (ca cb : Nat) (rows : List (List UInt8)) (w : World) (ha : Lists B w (.slice aa rows.length ca) rows) (hb : Lists C w (.slice ab rows.length cb) rows) (hl : rows.length ≤ 9223372036854775807) :
    Calls Try.prog 16 #[.slice aa rows.length ca, .slice ab rows.length cb] w fun e w' => e = .returned (.bool true) ∧ Below w.heap.size w w' := by
  have HA := hid ha
  have HB := hid hb
  clear ha hb
  go_enter Try.func16, Try.ntmps16
  go_wp2_with fail
  go_loopw [5] (fun i wr => ∃ k : Nat, k ≤ rows.length ∧ i = .int .i64 k ∧ Hid (∀ D, Below D w wr)) (fun i _ => rows.length - (intOf i).toNat)
  case atStart => exact ⟨0, Nat.zero_le _, rfl, fun D => Below.refl _ _⟩
  case round =>
    obtain ⟨k, hk, rfl, HD⟩ := hrel
    by_cases hlt : k < rows.length
    · obtain ⟨b1, o1, a1, c1, rfl, hc1, hs1⟩ := (HA.out.below (HD.out B)).at k hlt
      obtain ⟨b2, o2, a2, c2, rfl, hc2, hs2⟩ := (HB.out.below (HD.out C)).at k hlt
      have e1 := fun nq => strR (hs1.drewS nq)
      have e2 := fun nq => strR (hs2.drewS nq)
      have hki : (k : Int) < (rows.length : Int) := by omega
      have hk0 : (0 : Int) ≤ (k : Int) := by omega
      generalize rows[k]?.getD [] = r at *
      clear hs1 hs2
      go_wp2_with fail
      go_quiet (fail)
      go_wp2_with fail
      go_roundw
      case rel => exact ⟨k + 1, by omega, by go_num, fun D => below_drewN (HD.out D) _⟩
      case measure => simp [intOf]; omega
    · go_wp2
      go_ret
      exact ⟨rfl, HD.out _⟩

theorem sameF_any (B C : Nat) (va vb : Value) (rows : List (List UInt8)) (w : World) (ha : Lists B w va rows) (hb : Lists C w vb rows) :
    Calls Try.prog 16 #[va, vb] w fun e w' => e = .returned (.bool true) ∧ Below w.heap.size w w' := by
  have ha0 := ha
  have hb0 := hb
  obtain ⟨aa, ca, vs, rfl, h1, h2, _⟩ := ha
  obtain ⟨ab, cb, us, rfl, _⟩ := hb
  unfold maxLen at h2
  exact sameF_some B C aa ab ca cb rows w ha0 hb0 (by omega)

end Go.Proofs.Ytnhgjjpjmfjmjaa
