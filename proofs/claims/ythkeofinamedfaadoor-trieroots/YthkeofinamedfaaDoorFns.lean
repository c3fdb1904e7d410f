/- Contracts of plain.Num, plain.NumKey, plain.appendBlob, plain.takeCount, bytes.Clone, plain.TakeBlob. -/
import Derived.Test.YthkeofinamedfaaDoorHigh
import Derived.Test.YthkeofinamedfaaDoorLow
namespace Go.Proofs.YthkeofinamedfaaDoor
open Go.RowKit
set_option linter.unusedVariables false
set_option maxRecDepth 20000

set_option maxHeartbeats 400000 in
theorem num_any (n : Int) (w : World) :
    Calls Tryd.prog 28 #[.int .i64 n] w fun e w' => ∃ v', e = .returned v' ∧ w'.ownsRow w.heap.size 5 1 v' 8 ((be (u64of n) 8).map by8) ∧ Below w.heap.size w w' := by
  have HU := hid (wrap_u64of n)
  have hlt := u64of_lt n
  go_enter Tryd.func28, Tryd.ntmps28
  go_wp2_with fail
  refine (high_at w.heap.size _ 0 [] _ _ (u64of n) 8 w HU.out rfl (Nat.le_refl _) (World.ownsRow_nil _ _ _ _) hlt (by omega) (by omega)).mono ?_
  rintro e w' ⟨v', rfl, hown, hbel⟩
  go_wp2
  go_ret
  exact ⟨_, rfl, by simpa using hown, hbel⟩

/-- A blob's bytes. -/
def blob (bs : List UInt8) : List UInt8 := be bs.length 4 ++ bs

theorem blob_length (bs : List UInt8) : (blob bs).length = 4 + bs.length := by simp [blob, be_length]

set_option maxHeartbeats 400000 in
theorem appendBlob_any (B : Nat) (v : Value) (k : Nat) (xs : List Value) (vp : Value) (bs : List UInt8) (w : World) (hB : B ≤ w.heap.size)
    (hown : w.ownsRow B 5 1 v k xs) (hsh : Shows B w vp bs) (hk : k + 4 + bs.length ≤ 70368744177664) :
    Calls Tryd.prog 84 #[v, vp] w fun e w' => ∃ v', e = .returned v' ∧ w'.ownsRow B 5 1 v' (k + (blob bs).length) (xs ++ (blob bs).map by8) ∧ Below B w w' := by
  obtain ⟨i0, hi, hz0, hz1, hz2⟩ := info_parts Tryd.infoU8
  have hsh0 := hsh
  obtain ⟨a, c, rfl, h1, h2, hn, h3⟩ := hsh
  have HU := hid (wrap_u64_nat bs.length (by omega))
  go_enter Tryd.func84, Tryd.ntmps84
  go_wp2_with fail
  refine (high_at B _ k xs _ _ bs.length 4 w (by first | rfl | exact HU.out) (by rfl) hB hown (by omega) (by omega) (by omega)).mono ?_
  rintro e w1 ⟨v1, rfl, hown1, hbel1⟩
  have hsz1 := hbel1.size
  have hsh1 := hsh0.below hbel1
  go_wp2_with (first | (at_builtin; refine wpList_append_shows _ rfl _ _ 28 rfl B 5 i0 Tryd.underlying28 hi hz0 hz1 hz2 _ _ _ rfl hown1 B _ bs rfl hsh1 ?_ ?_ ?_) | go_in)
  · omega
  · omega
  · intro v' w2 hown2 hg _
    go_wp2
    go_ret
    refine ⟨_, rfl, ?_, hbel1.grown hg (by omega) (fun q hq => (hown1.lt q hq).1)⟩
    rw [blob_length, ← Nat.add_assoc]
    simpa [blob] using hown2
end Go.Proofs.YthkeofinamedfaaDoor
