/- Contract of the law's small case; registries from a block on. -/
import Derived.Test.YtnhgjjpjmfjmjaaRegS
import Derived.Lib.SlBytesConst
namespace Go.Proofs.Ytnhgjjpjmfjmjaa
open Go.RowKit Go.Maps
set_option linter.unusedVariables false

/-- A registry all of whose blocks lie from B on. -/
def RegB (B : Nat) (w : World) (v : Value) (L : List Pr) : Prop := ∃ S, Reg w v L S ∧ ∀ i, S i → B ≤ i

theorem RegB.new {B : Nat} {w w' : World} {v : Value} {L : List Pr} (h : RegB B w v L) (hb : Below w.heap.size w w') : RegB B w' v L := by
  obtain ⟨S, hR, hS⟩ := h
  exact ⟨S, hR.new hb, hS⟩

theorem RegB.ptr {B : Nat} {w : World} {v : Value} {L : List Pr} (h : RegB B w v L) : ∃ sb, v = .pointer (some ⟨sb, 0, none⟩) := by
  obtain ⟨S, hR, hS⟩ := h
  exact hR.ptr

theorem new_B (w : World) : Calls Try.prog 8 #[] w fun e w' => ∃ sb, e = .returned (.pointer (some ⟨sb, 0, none⟩)) ∧ RegB w.heap.size w' (.pointer (some ⟨sb, 0, none⟩)) [] ∧ Below w.heap.size w w' := by
  refine (new_any w).mono ?_
  rintro e w' ⟨v, rfl, hR, hb⟩
  obtain ⟨sb, rfl⟩ := hR.ptr
  exact ⟨sb, rfl, ⟨_, hR, fun i hi => hi.1⟩, hb⟩

theorem count_B (B : Nat) (v : Value) (L : List Pr) (w : World) (hR : RegB B w v L) :
    Calls Try.prog 24 #[v] w fun e w' => e = .returned (.int .i64 (L.length : Int)) ∧ w' = w := by
  obtain ⟨S, hR, _⟩ := hR
  exact count_any v L S w hR

theorem knows_B (B : Nat) (v vt : Value) (who : Int) (t : List UInt8) (L : List Pr) (w : World) (hR : RegB B w v L) (hw : I64 who) (hsh : Shows w.heap.size w vt t) :
    Calls Try.prog 13 #[v, .int .i64 who, vt] w fun e w' => e = .returned (.bool (decide ((who, t) ∈ L))) ∧ RegB B w' v L ∧ Below w.heap.size w w' := by
  obtain ⟨S, hR', hS⟩ := hR
  refine (knows_any v vt who t L S w hR' hw hsh).mono ?_
  rintro e w' ⟨rfl, hb⟩
  exact ⟨rfl, ⟨S, hR'.new hb, hS⟩, hb⟩

theorem sign_B (B : Nat) (v vt : Value) (who : Int) (t : List UInt8) (L : List Pr) (w : World) (hB : B ≤ w.heap.size) (hR : RegB B w v L) (hw : I64 who) (hsh : Shows w.heap.size w vt t) (hL : L.length ≤ 100000) :
    Calls Try.prog 11 #[v, .int .i64 who, vt] w fun e w' => e = .returned (.int .i64 (signE who t)) ∧ RegB B w' v (signL L who t) ∧ Below B w w' := by
  obtain ⟨S, hR', hS⟩ := hR
  refine (sign_any v vt who t L S w hR' hw hsh hL).mono ?_
  rintro e w' ⟨rfl, hR2, hk⟩
  exact ⟨rfl, ⟨_, hR2, fun i hi => by rcases hi with hi | hi; exact hS i hi; exact Nat.le_trans hB hi.1⟩, hk.below hS hB⟩

theorem shows_one (w : World) (u : UInt8) (t : TypeId) (fr : Nat × Nat) : Shows (w.alloc (.cells #[.int .u8 (u.toNat : Int)] t fr)).heap.size (w.alloc (.cells #[.int .u8 (u.toNat : Int)] t fr)) (.slice (some ⟨w.heap.size, 0, none⟩) 1 1) [u] := by
  refine ⟨_, 1, rfl, Nat.le_refl _, by unfold maxLen; omega, fun e => (by cases e), fun _ => ⟨w.heap.size, 0, rfl, by simp, fun j hj => ?_⟩⟩
  have : j = 0 := by simp at hj; omega
  subst this
  rw [cell_of_row _ _ _ _ _ _ (heap_alloc_new w _)]
  rfl

theorem new_alloc (w : World) (o : Obj) : Below w.heap.size w (w.alloc o) := (Below.refl _ w).alloc (Nat.le_refl _) _

theorem alloc_ge {B : Nat} {w : World} (h : B ≤ w.heap.size) (o : Obj) : B ≤ (w.alloc o).heap.size := by simp; omega

set_option maxHeartbeats 2000000 in
theorem small_any (w : World) : Calls Try.prog 7 #[] w fun e w' => e = .returned (.bool true) ∧ Below w.heap.size w w' := by
  have i1 : I64 1 := ⟨by decide, by decide⟩
  have i2 : I64 2 := ⟨by decide, by decide⟩
  have kc := fun (w : World) (C : Array Value) (n c : Nat) => Lib.run_convert_bytes_const (P := Try.prog) w 28 5 C n c Try.underlying28 Try.underlying5
  go_enter Try.func7, Try.ntmps7
  go_wp2_with fail
  refine (new_B w).mono ?_
  rintro e w1 ⟨sb, rfl, R1, hb1⟩
  go_wp2_with fail
  refine (sign_B w.heap.size _ _ 1 [97] _ _ (alloc_ge hb1.size _) (R1.new (new_alloc _ _)) i1 (shows_one w1 97 5 (1, 2)) (by decide)).mono ?_
  rintro e w2 ⟨rfl, R2, hb2⟩
  have b2 := (hb1.alloc hb1.size _).trans hb2
  clear hb2 hb1 R1
  rw [show signE 1 [97] = 0 by decide]
  rw [show signL [] 1 [97] = [(1, [97])] by decide] at R2
  go_wp2_with fail
  refine (sign_B w.heap.size _ _ 1 [97] _ _ (alloc_ge b2.size _) (R2.new (new_alloc _ _)) i1 (shows_one w2 97 5 (1, 2)) (by decide)).mono ?_
  rintro e w3 ⟨rfl, R3, hb3⟩
  have b3 := (b2.alloc b2.size _).trans hb3
  clear hb3 b2 R2
  rw [show signE 1 [97] = 0 by decide]
  rw [show signL [(1, [97])] 1 [97] = [(1, [97])] by decide] at R3
  go_wp2_with fail
  refine (sign_B w.heap.size _ _ 2 [98] _ _ (alloc_ge b3.size _) (R3.new (new_alloc _ _)) i2 (shows_one w3 98 5 (1, 2)) (by decide)).mono ?_
  rintro e w4 ⟨rfl, R4, hb4⟩
  have b4 := (b3.alloc b3.size _).trans hb4
  clear hb4 b3 R3
  rw [show signE 2 [98] = 0 by decide]
  rw [show signL [(1, [97])] 2 [98] = [(1, [97]), (2, [98])] by decide] at R4
  go_wp2_with fail
  refine (count_B w.heap.size _ _ _ R4).mono ?_
  rintro e w' ⟨rfl, rfl⟩
  go_wp2_with fail
  refine (knows_B w.heap.size _ _ 1 [97] _ _ (R4.new (new_alloc _ _)) i1 (shows_one w' 97 5 (1, 2))).mono ?_
  rintro e w5 ⟨rfl, R5, hb5⟩
  have b5 := (b4.alloc b4.size _).trans (hb5.mono (alloc_ge b4.size _))
  clear hb5 b4 R4
  rw [show decide ((1, [97]) ∈ ([(1, [97]), (2, [98])] : List Pr)) = true by decide]
  go_wp2_with fail
  refine (knows_B w.heap.size _ _ 1 [98] _ _ (R5.new (new_alloc _ _)) i1 (shows_one w5 98 5 (1, 2))).mono ?_
  rintro e w6 ⟨rfl, R6, hb6⟩
  have b6 := (b5.alloc b5.size _).trans (hb6.mono (alloc_ge b5.size _))
  clear hb6 b5 R5
  rw [show decide ((1, [98]) ∈ ([(1, [97]), (2, [98])] : List Pr)) = false by decide]
  go_wp2
  go_ret
  exact ⟨rfl, b6⟩
end Go.Proofs.Ytnhgjjpjmfjmjaa
