/- Contracts of math/bits.Len8, LeadingZeros8, trie.firstUnlike. -/
import Derived.Test.YthkeofinamedfaaDoorBitF
namespace Go.Proofs.YthkeofinamedfaaDoor
open Go.RowKit
set_option linter.unusedVariables false
set_option maxRecDepth 20000

set_option maxHeartbeats 1000000 in
theorem len8_any (x : Nat) (w : World) (hx : x < 256) :
    Calls Tryd.prog 83 #[.int .u8 x] w fun e w' => e = .returned (.int .i64 (len8 x)) ∧ w' = w := by
  go_enter Tryd.func83, Tryd.ntmps83
  go_wp2
  go_ret
  refine ⟨?_, rfl⟩
  refine congrArg (fun z => Ending.returned (.int .i64 z)) ?_
  rw [← getElem!_pos]
  rename_i h
  clear w h
  revert hx
  revert x
  decide +kernel

set_option maxHeartbeats 1000000 in
theorem lz8_any (x : Nat) (w : World) (hx : x < 256) :
    Calls Tryd.prog 70 #[.int .u8 x] w fun e w' => e = .returned (.int .i64 (8 - len8 x : Nat)) ∧ w' = w := by
  have h8 := len8_le x
  have e1 : (8 : Int) - (len8 x : Int) = ((8 - len8 x : Nat) : Int) := by omega
  go_enter Tryd.func70, Tryd.ntmps70
  go_wp2_with (go_at_call 83; refine (len8_any x _ hx).mono ?_; rintro e w' ⟨rfl, rfl⟩)
  go_ret
  exact ⟨rfl, rfl⟩

/-- How many bytes two keys share ahead. -/
def shared : List UInt8 → List UInt8 → Nat
  | c :: a, d :: b => if c = d then shared a b + 1 else 0
  | _, _ => 0

theorem shared_pre : ∀ (a b : List UInt8) (j : Nat), j < shared a b → j < a.length ∧ j < b.length ∧ a[j]? = b[j]?
  | [], _, j, h => by simp [shared] at h
  | _ :: _, [], j, h => by simp [shared] at h
  | c :: a, d :: b, j, h => by
    simp only [shared] at h
    split at h
    · rename_i e
      subst e
      match j with
      | 0 => simp
      | j + 1 =>
        obtain ⟨h1, h2, h3⟩ := shared_pre a b j (by omega)
        exact ⟨by simp; omega, by simp; omega, by simpa using h3⟩
    · omega

theorem shared_stop : ∀ (a b : List UInt8), shared a b < a.length → shared a b < b.length → a[shared a b]? ≠ b[shared a b]?
  | [], _, h, _ => by simp [shared] at h
  | _ :: _, [], _, h => by simp [shared] at h
  | c :: a, d :: b, h1, h2 => by
    simp only [shared] at h1 h2 ⊢
    split
    · rename_i e
      rw [if_pos e] at h1 h2
      have := shared_stop a b (by simpa using h1) (by simpa using h2)
      simpa using this
    · rename_i e
      simpa using e

theorem shared_le : ∀ (a b : List UInt8), shared a b ≤ a.length ∧ shared a b ≤ b.length
  | [], _ => by simp [shared]
  | _ :: _, [] => by simp [shared]
  | c :: a, d :: b => by
    have := shared_le a b
    simp only [shared, List.length_cons]
    split <;> omega

theorem fu_shared : ∀ (a b : List UInt8), fu a b = if shared a b = a.length ∨ shared a b = b.length then 9 * shared a b else 9 * shared a b + 1 + fb (a[shared a b]?.getD 0) (b[shared a b]?.getD 0)
  | [], b => by simp [shared, fu]
  | _ :: _, [] => by simp [shared, fu]
  | c :: a, d :: b => by
    have ih := fu_shared a b
    by_cases e : c = d
    · simp only [fu, shared, if_pos e, List.length_cons, Nat.add_right_cancel_iff, List.getElem?_cons_succ, ih]
      split <;> omega
    · simp only [fu, shared, if_neg e, List.length_cons]
      rw [if_neg (by omega)]
      simp
      omega

/-- The byte of a key at a place, as the walk reads it. -/
def byteAt (a : List UInt8) (k : Nat) : Nat := (a[k]?.getD 0).toNat

theorem byteAt_lt (a : List UInt8) (k : Nat) : byteAt a k < 256 := (a[k]?.getD 0).toNat_lt

theorem byteAt_eq (a b : List UInt8) (k : Nat) (h1 : k < a.length) (h2 : k < b.length) : byteAt a k = byteAt b k ↔ a[k]? = b[k]? := by
  unfold byteAt
  rw [List.getElem?_eq_getElem h1, List.getElem?_eq_getElem h2]
  simp [UInt8.toNat_inj]

set_option maxHeartbeats 2000000 in
theorem unlike_any (B C : Nat) (v u : Value) (bs cs : List UInt8) (w : World) (hsh : Shows B w v bs) (hsu : Shows C w u cs) (hb : bs.length ≤ 140737488355328) (hcl : cs.length ≤ 140737488355328) :
    Calls Tryd.prog 49 #[v, u] w fun e w' => e = .returned (.int .i64 (fu bs cs)) ∧ ∃ n, w' = w.drewN n := by
  obtain ⟨a, c, rfl, g1, g2, gn, g3⟩ := hsh
  obtain ⟨a', c', rfl, f1, f2, fn, f3⟩ := hsu
  have HS := hid (shared_le bs cs)
  have HP := hid (shared_pre bs cs)
  have HT := hid (shared_stop bs cs)
  have HF := hid (fu_shared bs cs)
  have hs1 := HS.out.1
  have hs2 := HS.out.2
  unfold maxLen at g2 f2
  generalize hn : shared bs cs = n at *
  have HN := hid hn
  clear hn
  have HC1 : Hid (bs ≠ [] → ∃ b off, a = some ⟨b, off, none⟩ ∧ ∀ k, k < bs.length → w.cell? ⟨b, off + k, none⟩ = some (.int .u8 (byteAt bs k : Nat))) := hid (fun h => by
    obtain ⟨b, off, ha, _, hc⟩ := g3 h
    exact ⟨b, off, ha, fun k hk => hc k hk⟩)
  have HC2 : Hid (cs ≠ [] → ∃ b off, a' = some ⟨b, off, none⟩ ∧ ∀ k, k < cs.length → w.cell? ⟨b, off + k, none⟩ = some (.int .u8 (byteAt cs k : Nat))) := hid (fun h => by
    obtain ⟨b, off, ha, _, hc⟩ := f3 h
    exact ⟨b, off, ha, fun k hk => hc k hk⟩)
  clear g3 f3
  go_enter Tryd.func49, Tryd.ntmps49
  go_wp2_with fail
  go_loopw [5] (fun i wr => ∃ k : Nat, k ≤ n ∧ i = .int .i64 k ∧ Hid (∃ m, wr = w.drewN m)) (fun i _ => n - (intOf i).toNat)
  case atStart => exact ⟨0, Nat.zero_le _, rfl, ⟨0, rfl⟩⟩
  case round =>
    obtain ⟨k, hk, rfl, HM⟩ := hrel
    have HM2 : Hid (∀ j, ∃ m, wr.drewN j = w.drewN m) := hid (fun j => by obtain ⟨m, hm⟩ := HM.out; exact ⟨m + j, by rw [hm, World.drewN_drewN]⟩)
    have HCW : Hid (∀ ad, wr.cell? ad = w.cell? ad) := hid (fun ad => by obtain ⟨m, hm⟩ := HM.out; rw [hm]; rfl)
    by_cases h1 : k < bs.length
    · by_cases h2 : k < cs.length
      · obtain ⟨b1, o1, rfl, hc1⟩ := HC1.out (by intro e; simp [e] at h1)
        obtain ⟨b2, o2, rfl, hc2⟩ := HC2.out (by intro e; simp [e] at h2)
        have k1 := (HCW.out _).trans (hc1 k h1)
        have k2 := (HCW.out _).trans (hc2 k h2)
        have d1 : decide ((k : Int) < (bs.length : Int)) = true := by simpa using h1
        have d2 : decide ((k : Int) < (cs.length : Int)) = true := by simpa using h2
        have i1 : (k : Int) < (bs.length : Int) := by omega
        have i2 : (k : Int) < (cs.length : Int) := by omega
        by_cases hlt : k < n
        · have he : byteAt bs k = byteAt cs k := (byteAt_eq bs cs k h1 h2).2 (HP.out k hlt).2.2
          rw [he] at k1
          have HX := hid hlt
          go_wp2_with fail
          go_quiet (fail)
          go_wp2
          go_roundw
          case rel => exact ⟨k + 1, HX.out, by go_num, HM2.out nq⟩
          case measure => simp [intOf]; omega
        · have hkn : k = n := by omega
          subst hkn
          have hne : byteAt bs k ≠ byteAt cs k := fun e => HT.out h1 h2 ((byteAt_eq bs cs k h1 h2).1 e)
          have hne' : ((byteAt bs k : Int) == (byteAt cs k : Int)) = false := by simp; omega
          have hq1 : ((k : Int) == (bs.length : Int)) = false := by simp; omega
          have hq2 : ((k : Int) == (cs.length : Int)) = false := by simp; omega
          have hx1 := bits_xor_u8_nat (byteAt bs k) (byteAt cs k) (byteAt_lt _ _) (byteAt_lt _ _)
          have hx2 : byteAt bs k ^^^ byteAt cs k < 256 := Nat.xor_lt_two_pow (n := 8) (byteAt_lt _ _) (byteAt_lt _ _)
          have HG : Hid (fu bs cs = 9 * k + 1 + (8 - len8 (byteAt bs k ^^^ byteAt cs k))) := hid (by
            rw [HF.out, if_neg (by omega)]; rfl)
          have h8 := len8_le (byteAt bs k ^^^ byteAt cs k)
          clear HF HT HP HS HC1 HC2 hc1 hc2
          go_wp2_with fail
          go_quiet (fail)
          have q1 : (wr.drewN nq).cell? ⟨b1, o1 + k, none⟩ = some (.int .u8 (byteAt bs k : Nat)) := k1
          have q2 : (wr.drewN nq).cell? ⟨b2, o2 + k, none⟩ = some (.int .u8 (byteAt cs k : Nat)) := k2
          have HM3 : Hid (∀ j, ∃ m, (wr.drewN nq).drewN j = w.drewN m) := hid (fun j => by rw [World.drewN_drewN]; exact HM2.out _)
          clear k1 k2 HM HM2 HCW
          generalize wr.drewN nq = wq at *
          go_wp2_with fail
          go_quiet ((go_at_call 70; exact Calls.quiet_of_same (lz8_any _ _ hx2)))
          go_wp2
          go_ret
          exact ⟨by rw [HG.out]; refine congrArg (fun z => Ending.returned (.int .i64 z)) ?_; omega, HM3.out _⟩
      · have hkn : k = n := by omega
        subst hkn
        have d2 : decide ((k : Int) < (cs.length : Int)) = false := by simpa using h2
        have i2 : (cs.length : Int) ≤ (k : Int) := by omega
        have i1 : (k : Int) < (bs.length : Int) := by omega
        have hq1 : ((k : Int) == (bs.length : Int)) = false := by simp; omega
        have hq2 : ((k : Int) == (cs.length : Int)) = true := by simp; omega
        have HG : Hid (fu bs cs = 9 * k) := hid (by rw [HF.out, if_pos (by omega)])
        clear HF HT HP HS HC1 HC2
        go_wp2_with fail
        go_quiet (fail)
        go_wp2
        go_ret
        exact ⟨by rw [HG.out]; refine congrArg (fun z => Ending.returned (.int .i64 z)) ?_; omega, HM2.out _⟩
    · have hkn : k = n := by omega
      subst hkn
      have i1 : (bs.length : Int) ≤ (k : Int) := by omega
      have d1 : decide ((k : Int) < (bs.length : Int)) = false := by simpa using h1
      have hq1 : ((k : Int) == (bs.length : Int)) = true := by simp; omega
      have HG : Hid (fu bs cs = 9 * k) := hid (by rw [HF.out, if_pos (by omega)])
      clear HF HT HP HS HC1 HC2
      go_wp2_with fail
      go_quiet (fail)
      go_wp2
      go_ret
      exact ⟨by rw [HG.out]; refine congrArg (fun z => Ending.returned (.int .i64 z)) ?_; omega, HM2.out _⟩
end Go.Proofs.YthkeofinamedfaaDoor
