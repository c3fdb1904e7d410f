/- Contracts of plain.Blob and of the document's own four, count, Blob, TakeBlob. -/
import Derived.Test.YtomfhihhhfelfaaDoorCodec
import Derived.Deep.QuietTactic
import Derived.BigQuiet
namespace Go.Proofs.YtomfhihhhfelfaaDoor
open Go.RowKit
set_option linter.unusedVariables false

/-- Blob's answer: the error, the bytes. -/
def blobOf (p : List UInt8) : Nat × List UInt8 := if 65536 < p.length then (2, []) else (0, blob p)

theorem be4 (n : Nat) : be n 4 = [UInt8.ofNat (n / 16777216), UInt8.ofNat (n / 65536), UInt8.ofNat (n / 256), UInt8.ofNat n] := by
  simp [be]

theorem by8_mod (n : Nat) : by8 (UInt8.ofNat n) = .int .u8 ((n : Int) % 256) := by
  rw [by8, UInt8.toNat_ofNat']
  refine congrArg (Value.int .u8) ?_
  omega

set_option maxHeartbeats 1000000 in
theorem four_any (n : Nat) (w : World) (hn : n ≤ 65536) :
    Calls Tryd.prog 41 #[.int .i64 n] w fun e w' => ∃ v', e = .returned v' ∧ w'.ownsRow w.heap.size 5 1 v' 4 ((be n 4).map by8) ∧ Below w.heap.size w w' := by
  go_enter Tryd.func41, Tryd.ntmps41
  have e : [Value.int .u8 ((n : Int) / 16777216), .int .u8 ((n : Int) / 65536), .int .u8 ((n : Int) / 256 % 256), .int .u8 ((n : Int) % 256)] = (be n 4).map by8 := by
    rw [be4, List.map_cons, List.map_cons, List.map_cons, List.map_cons, List.map_nil, by8_mod, by8_mod, by8_mod, by8_mod]
    rw [show (n : Int) / 16777216 = ((n / 16777216 : Nat) : Int) % 256 from by omega, show (n : Int) / 65536 = ((n / 65536 : Nat) : Int) % 256 from by omega, show (n : Int) / 256 = ((n / 256 : Nat) : Int) from by omega]
  have HE := hid e
  clear e
  go_wp2
  go_ret
  refine ⟨_, rfl, ?_, (Below.refl _ _).alloc (Nat.le_refl _) _⟩
  rw [← HE.out]
  exact World.ownsRow_lit w _ 4 (Nat.le_refl _) (by unfold maxLen; omega) rfl

theorem num4 (a b c d : UInt8) : num [a, b, c, d] = a.toNat * 16777216 + b.toNat * 65536 + c.toNat * 256 + d.toNat := by
  simp [num]
  omega

set_option maxHeartbeats 1000000 in
theorem refBlob_any (B : Nat) (v : Value) (bs : List UInt8) (w : World) (hB : B ≤ w.heap.size) (hsh : Shows B w v bs) :
    Calls Tryd.prog 42 #[v] w fun e w' => ∃ v', e = .returned (.tuple #[v', .int .i64 (blobOf bs).1]) ∧ w'.ownsRow w.heap.size 5 1 v' (blobOf bs).2.length ((blobOf bs).2.map by8) ∧ Below w.heap.size w w' := by
  obtain ⟨i0, hi, hz0, hz1, hz2⟩ := info_parts Tryd.infoU8
  have hsh0 := hsh
  obtain ⟨a, c, rfl, h1, h2, hn, h3⟩ := hsh
  unfold maxLen at h2
  by_cases hl : 65536 < bs.length
  · have HT := hid (show blobOf bs = (2, []) by rw [blobOf, if_pos hl])
    go_enter Tryd.func42, Tryd.ntmps42
    go_wp2
    go_ret2
    exact ⟨_, by rw [HT.out]; rfl, by rw [HT.out]; exact World.ownsRow_nil _ _ _ _, Below.refl _ _⟩
  · have HT := hid (show blobOf bs = (0, blob bs) by rw [blobOf, if_neg hl])
    go_enter Tryd.func42, Tryd.ntmps42
    go_wp2_with fail
    refine (four_any bs.length w (by omega)).mono ?_
    rintro e w1 ⟨v1, rfl, hown1, hb1⟩
    have hsz1 := hb1.size
    have hsh1 := (hsh0.mono hB).below hb1
    go_wp2_with (first | (at_builtin; refine wpList_append_shows _ rfl _ _ 22 rfl w.heap.size 5 i0 Tryd.underlying22 hi hz0 hz1 hz2 _ _ _ rfl hown1 w.heap.size _ bs rfl hsh1 ?_ ?_ ?_) | fail)
    · omega
    · omega
    · intro v2 w2 hown2 hg2 _
      have hb2 := hb1.grown hg2 (by omega) (fun q hq => (hown1.lt q hq).1)
      clear hown1 hg2 hsh1
      go_wp2
      go_ret2
      refine ⟨_, by rw [HT.out]; rfl, ?_, hb2⟩
      rw [HT.out]
      show w2.ownsRow w.heap.size 5 1 v2 (blob bs).length ((blob bs).map by8)
      rw [blob_length]
      simpa [blob] using hown2

theorem Shows.drewN {B : Nat} {w : World} {v : Value} {bs : List UInt8} (h : Shows B w v bs) (n : Nat) : Shows B (w.drewN n) v bs := by
  obtain ⟨a, c, hv, h1, h2, hn, h3⟩ := h
  refine ⟨a, c, hv, h1, h2, hn, fun hne => ?_⟩
  obtain ⟨b, off, ha, hlt, hc⟩ := h3 hne
  exact ⟨b, off, ha, hlt, fun j hj => by rw [← hc j hj]; rfl⟩

theorem tcount_eq (bs : List UInt8) (most : Nat) (h : 4 ≤ bs.length) : tcount bs most = if most < num (bs.take 4) then (0, 2) else (num (bs.take 4), 0) := by
  rw [tcount, if_neg (by omega)]

end Go.Proofs.YtomfhihhhfelfaaDoor
