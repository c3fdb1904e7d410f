/- Contracts of plain.takeCount, bytes.Clone, plain.TakeBlob. -/
import Derived.Test.YthkeofinamedfaaDoorFns
namespace Go.Proofs.YthkeofinamedfaaDoor
open Go.RowKit
set_option linter.unusedVariables false
set_option maxRecDepth 20000

/-- takeCount's answer: the count, the error. -/
def tcount (bs : List UInt8) (most : Nat) : Nat × Nat :=
  if bs.length < 4 then (0, 3) else if most < num (bs.take 4) then (0, 2) else (num (bs.take 4), 0)

set_option maxHeartbeats 400000 in
theorem clone_any (ad : Addr) (l c : Nat) (bs : List UInt8) (B : Nat) (w : World) (hsh : Shows B w (.slice (some ad) l c) bs) (hB : B ≤ w.heap.size) (hl : bs.length ≤ 70368744177664) :
    Calls Tryd.prog 47 #[.slice (some ad) l c] w fun e w' => ∃ v', e = .returned v' ∧ v' ≠ .slice none 0 0 ∧ w'.ownsRow w.heap.size 5 1 v' bs.length (bs.map by8) ∧ Below w.heap.size w w' := by
  obtain ⟨i0, hi, hz0, hz1, hz2⟩ := info_parts Tryd.infoU8
  have hq := fun wx => Lib.run_eql_slice_nil (P := Tryd.prog) wx 28 5 (some ad) l c 0 0 Tryd.underlying28
  go_enter Tryd.func47, Tryd.ntmps47
  go_wp2_with (first | (at_builtin; refine wpList_append_shows _ rfl _ _ 28 rfl w.heap.size 5 i0 Tryd.underlying28 hi hz0 hz1 hz2 _ 0 [] rfl (World.ownsRow_made w #[] 0 (Nat.le_refl _) (by unfold maxLen; omega) rfl) B _ bs rfl (hsh.alloc hB _) ?_ ?_ ?_) | go_in)
  · omega
  · simp
  · intro v' w2 hown2 hg hnil
    go_wp2
    go_ret
    refine ⟨_, rfl, fun e => by have := hnil e; simp at this, by simpa using hown2, ((Below.refl _ _).alloc (Nat.le_refl _) _).grown hg (by simp) (fun q hq => by simp [Value.ownBlock] at hq; omega)⟩

/-- TakeBlob's answer: the error, the blob's bytes, how many bytes it takes. -/
def tblob (bs : List UInt8) : Nat × List UInt8 × Nat :=
  if (tcount bs 65536).2 ≠ 0 then ((tcount bs 65536).2, [], 0)
  else if bs.length < 4 + (tcount bs 65536).1 then (3, [], 0)
  else (0, (bs.drop 4).take (tcount bs 65536).1, 4 + (tcount bs 65536).1)

theorem tcount_ok (bs : List UInt8) (most : Nat) (h : (tcount bs most).2 = 0) : 4 ≤ bs.length ∧ (tcount bs most).1 = num (bs.take 4) ∧ (tcount bs most).1 ≤ most := by
  unfold tcount at h ⊢
  split at h
  · simp at h
  · split at h
    · simp at h
    · rename_i h1 h2
      rw [if_neg h1, if_neg h2]
      exact ⟨by omega, rfl, by omega⟩

theorem tcount_err (bs : List UInt8) (most : Nat) : (tcount bs most).2 ≤ 3 := by
  unfold tcount
  split
  · simp
  · split <;> simp

end Go.Proofs.YthkeofinamedfaaDoor
