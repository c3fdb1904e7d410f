/- Contracts of plain.takeCount, bytes.Clone, plain.TakeBlob. -/
import Derived.Test.YtknanockidellaaFns
namespace Go.Proofs.Ytknanockidellaa
open Go.RowKit
set_option linter.unusedVariables false

/-- takeCount's answer: the count, the error. -/
def tcount (bs : List UInt8) (most : Nat) : Nat × Nat :=
  if bs.length < 4 then (0, 3) else if most < num (bs.take 4) then (0, 2) else (num (bs.take 4), 0)

set_option maxHeartbeats 400000 in
theorem takeCount_any (B : Nat) (v : Value) (bs : List UInt8) (most : Nat) (w : World) (hsh : Shows B w v bs) (hm : most ≤ 1000000000) :
    Calls Try.prog 37 #[v, .int .i64 most] w fun e w' => e = .returned (.tuple #[.int .i64 (tcount bs most).1, .int .i64 (tcount bs most).2]) ∧ w' = w := by
  have hsh0 := hsh
  obtain ⟨a, c, rfl, h1, h2, hn, h3⟩ := hsh
  by_cases h4 : bs.length < 4
  · have HT := hid (show tcount bs most = (0, 3) by simp [tcount, h4])
    go_enter Try.func37, Try.ntmps37
    go_wp2
    go_ret2
    exact ⟨by rw [HT.out]; rfl, rfl⟩
  · obtain ⟨b, off, rfl, hbB, hc⟩ := h3 (by intro e; simp [e] at h4)
    have h4' : (4 : Int) ≤ (c : Int) := by omega
    go_enter Try.func37, Try.ntmps37
    go_wp2_with fail
    have hs4 := hsh0.take 4 (by omega)
    have hl4 : (bs.take 4).length = 4 := by simp; omega
    refine (low_any B _ (bs.take 4) w hs4 (by omega)).mono ?_
    rintro e w' ⟨rfl, rfl⟩
    have hlt := num_lt (bs.take 4)
    rw [hl4] at hlt
    simp only [Nat.reducePow] at hlt
    by_cases hmm : most < num (bs.take 4)
    · have HT := hid (show tcount bs most = (0, 2) by simp [tcount, h4, hmm])
      clear hl4
      generalize num (bs.take 4) = q at *
      go_wp2
      go_ret2
      exact ⟨by rw [HT.out]; rfl, rfl⟩
    · have HT := hid (show tcount bs most = (num (bs.take 4), 0) by simp [tcount, h4, hmm])
      clear hl4
      generalize num (bs.take 4) = q at *
      go_wp2
      go_ret2
      exact ⟨by rw [HT.out]; rfl, rfl⟩

set_option maxHeartbeats 400000 in
theorem clone_any (ad : Addr) (l c : Nat) (bs : List UInt8) (B : Nat) (w : World) (hsh : Shows B w (.slice (some ad) l c) bs) (hB : B ≤ w.heap.size) (hl : bs.length ≤ 70368744177664) :
    Calls Try.prog 38 #[.slice (some ad) l c] w fun e w' => ∃ v', e = .returned v' ∧ v' ≠ .slice none 0 0 ∧ w'.ownsRow w.heap.size 5 1 v' bs.length (bs.map by8) ∧ Below w.heap.size w w' := by
  obtain ⟨i0, hi, hz0, hz1, hz2⟩ := info_parts Try.infoU8
  have hq := fun wx => Lib.run_eql_slice_nil (P := Try.prog) wx 22 5 (some ad) l c 0 0 Try.underlying22
  go_enter Try.func38, Try.ntmps38
  go_wp2_with (first | (at_builtin; refine wpList_append_shows _ rfl _ _ 22 rfl w.heap.size 5 i0 Try.underlying22 hi hz0 hz1 hz2 _ 0 [] rfl (World.ownsRow_made w #[] 0 (Nat.le_refl _) (by unfold maxLen; omega) rfl) B _ bs rfl (hsh.alloc hB _) ?_ ?_ ?_) | go_in)
  · omega
  · simp
  · intro v' w2 hown2 hg hnil
    go_wp2
    go_ret
    refine ⟨_, rfl, fun e => by have := hnil e; simp at this, by simpa using hown2, ((Below.refl _ _).alloc (Nat.le_refl _) _).grown hg (by simp) (fun q hq => by simp [Value.ownBlock] at hq; omega)⟩

/-- TakeBlob's answer: the error, the blob's bytes, how many bytes it takes. -/
def tblob (bs : List UInt8) : Nat × List UInt8 × Nat :=
  if (tcount bs 65536).2 ≠ 0 then ((tcount bs 65536).2, [], 0)
  else if bs.length < 4 + (tcount bs 65536).1 then (3, [], 0)
  else (0, (bs.drop 4).take (tcount bs 65536).1, 4 + (tcount bs 65536).1)

theorem tcount_ok (bs : List UInt8) (most : Nat) (h : (tcount bs most).2 = 0) : 4 ≤ bs.length ∧ (tcount bs most).1 = num (bs.take 4) ∧ (tcount bs most).1 ≤ most := by
  unfold tcount at h ⊢
  split at h
  · simp at h
  · split at h
    · simp at h
    · rename_i h1 h2
      rw [if_neg h1, if_neg h2]
      exact ⟨by omega, rfl, by omega⟩

theorem tcount_err (bs : List UInt8) (most : Nat) : (tcount bs most).2 ≤ 3 := by
  unfold tcount
  split
  · simp
  · split <;> simp

set_option maxHeartbeats 1000000 in
theorem takeBlob_any (B : Nat) (v : Value) (bs : List UInt8) (w : World) (hsh : Shows B w v bs) (hB : B ≤ w.heap.size) :
    Calls Try.prog 26 #[v] w fun e w' => ∃ v', e = .returned (.tuple #[v', .int .i64 (tblob bs).2.2, .int .i64 (tblob bs).1]) ∧ ((tblob bs).1 = 0 → v' ≠ .slice none 0 0) ∧
      w'.ownsRow w.heap.size 5 1 v' (tblob bs).2.1.length ((tblob bs).2.1.map by8) ∧ Below w.heap.size w w' := by
  have hsh0 := hsh
  obtain ⟨a, c, rfl, h1, h2, hn, h3⟩ := hsh
  have hm : ((65536 : Nat) : Int) = 65536 := rfl
  have htc := takeCount_any B _ bs 65536 w hsh0 (by omega)
  have hce := tcount_err bs 65536
  have hok := tcount_ok bs 65536
  by_cases hz : (tcount bs 65536).2 = 0
  · obtain ⟨hl4, hnum, hmost⟩ := hok hz
    obtain ⟨b, off, rfl, hbB, hc⟩ := h3 (by intro e; simp [e] at hl4)
    by_cases hlen : bs.length < 4 + (tcount bs 65536).1
    · have HT := hid (show tblob bs = (3, [], 0) by simp [tblob, hz, hlen])
      rw [hz] at htc
      clear hok hce hnum hz
      generalize (tcount bs 65536).1 = q at *
      have HC := hid htc
      clear htc
      go_enter Try.func26, Try.ntmps26
      go_wp2_with fail
      refine HC.out.mono ?_
      rintro e w' ⟨rfl, rfl⟩
      go_wp2
      go_ret3
      exact ⟨_, by rw [HT.out]; rfl, by rw [HT.out]; simp, by rw [HT.out]; exact World.ownsRow_nil _ _ _ _, Below.refl _ _⟩
    · have HT := hid (show tblob bs = (0, (bs.drop 4).take (tcount bs 65536).1, 4 + (tcount bs 65536).1) by simp [tblob, hz, hlen])
      rw [hz] at htc
      clear hok hce hnum hz
      generalize (tcount bs 65536).1 = q at *
      have HC := hid htc
      clear htc
      have hlq : ((bs.drop 4).take q).length = q := by simp; omega
      have HQ := hid hlq
      clear hlq
      by_cases hc4 : c = 4
      · have hq0 : q = 0 := by omega
        subst hq0
        subst hc4
        go_enter Try.func26, Try.ntmps26
        go_wp2_with fail
        refine HC.out.mono ?_
        rintro e w1 ⟨rfl, rfl⟩
        go_wp2_with fail
        refine (clone_any _ _ _ [] B _ (Shows.empty B w1 ⟨b, off, none⟩ 0 (by unfold maxLen; omega)) hB (by simp)).mono ?_
        rintro e w2 ⟨v2, rfl, hne, hown, hbel⟩
        go_wp2
        go_ret3
        exact ⟨_, by rw [HT.out]; rfl, fun _ => hne, by rw [HT.out]; exact hown, hbel⟩
      · have hmid := hsh0.mid 4 q (by omega)
        go_enter Try.func26, Try.ntmps26
        go_wp2_with fail
        refine HC.out.mono ?_
        rintro e w1 ⟨rfl, rfl⟩
        go_wp2_with fail
        refine (clone_any _ _ _ ((bs.drop 4).take q) B _ hmid hB (by have := HQ.out; omega)).mono ?_
        rintro e w2 ⟨v2, rfl, hne, hown, hbel⟩
        go_wp2
        go_ret3
        exact ⟨_, by rw [HT.out]; rfl, fun _ => hne, by rw [HT.out]; exact hown, hbel⟩
  · have HT := hid (show tblob bs = ((tcount bs 65536).2, [], 0) by simp [tblob, hz])
    have hz' : (((tcount bs 65536).2 : Int) != 0) = true := by rw [bne_iff_ne]; omega
    clear hok hz
    generalize (tcount bs 65536).1 = q at *
    generalize (tcount bs 65536).2 = r at *
    have HC := hid htc
    clear htc
    go_enter Try.func26, Try.ntmps26
    go_wp2_with fail
    refine HC.out.mono ?_
    rintro e w' ⟨rfl, rfl⟩
    go_wp2
    go_ret3
    exact ⟨_, by rw [HT.out]; rfl, fun h => by rw [HT.out] at h; simp only at h; rw [h] at hz'; simp at hz', by rw [HT.out]; exact World.ownsRow_nil _ _ _ _, Below.refl _ _⟩
end Go.Proofs.Ytknanockidellaa
