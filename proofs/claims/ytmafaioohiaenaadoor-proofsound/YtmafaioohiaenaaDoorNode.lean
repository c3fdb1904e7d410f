/- Contracts of trie.Bit, node.isLeaf, node.other, bytes.Equal, bytes.Clone, trie.isLong. -/
import Derived.Test.YtmafaioohiaenaaDoorTri
import Derived.Test.YtmafaioohiaenaaDoorBase
import Derived.Deep.QuietTactic
import Derived.BigQuiet
import Derived.Test.YtmafaioohiaenaaDoorKeep
namespace Go.Proofs.YtmafaioohiaenaaDoor
open Go.RowKit
set_option linter.unusedVariables false
set_option maxRecDepth 20000

/-- Bit, of whatever number. -/
def bitI (k : List UInt8) (i : Int) : Bool := if i < 0 then false else bit k i.toNat

theorem bitI_nat (k : List UInt8) (i : Nat) : bitI k i = bit k i := by simp [bitI]

theorem wrap_u8_nat (n : Nat) (h : n < 2 ^ 8) : IntKind.u8.wrap (n : Int) = (n : Int) := by
  simp [IntKind.wrap, IntKind.bits, IntKind.signed]
  omega

theorem bits_and_u8_nat (a b : Nat) (ha : a < 256) (hb : b < 256) : bits .and .u8 (a : Int) (b : Int) = ((a &&& b : Nat) : Int) := by
  have hx : a &&& b < 2 ^ 8 := Nat.and_lt_two_pow _ (by omega)
  have h1 : (BitVec.ofInt 8 (a : Int)).toNat = a := by
    rw [BitVec.ofInt_natCast, BitVec.toNat_ofNat]; exact Nat.mod_eq_of_lt (by omega)
  have h2 : (BitVec.ofInt 8 (b : Int)).toNat = b := by
    rw [BitVec.ofInt_natCast, BitVec.toNat_ofNat]; exact Nat.mod_eq_of_lt (by omega)
  show IntKind.u8.wrap ((BitVec.ofInt 8 (a : Int) &&& BitVec.ofInt 8 (b : Int)).toNat : Int) = _
  rw [BitVec.toNat_and, h1, h2, wrap_u8_nat _ hx]

theorem bits_xor_u8_nat (a b : Nat) (ha : a < 256) (hb : b < 256) : bits .xor .u8 (a : Int) (b : Int) = ((a ^^^ b : Nat) : Int) := by
  have hx : a ^^^ b < 2 ^ 8 := Nat.xor_lt_two_pow (by omega) (by omega)
  have h1 : (BitVec.ofInt 8 (a : Int)).toNat = a := by
    rw [BitVec.ofInt_natCast, BitVec.toNat_ofNat]; exact Nat.mod_eq_of_lt (by omega)
  have h2 : (BitVec.ofInt 8 (b : Int)).toNat = b := by
    rw [BitVec.ofInt_natCast, BitVec.toNat_ofNat]; exact Nat.mod_eq_of_lt (by omega)
  show IntKind.u8.wrap ((BitVec.ofInt 8 (a : Int) ^^^ BitVec.ofInt 8 (b : Int)).toNat : Int) = _
  rw [BitVec.toNat_xor, h1, h2, wrap_u8_nat _ hx]

set_option maxHeartbeats 1000000 in
theorem bit_any (B : Nat) (v : Value) (bs : List UInt8) (i : Int) (w : World) (hsh : Shows B w v bs) (h1 : -9223372036854775808 ≤ i) (h2 : i ≤ 9223372036854775807) :
    Calls Tryd.prog 80 #[v, .int .i64 i] w fun e w' => e = .returned (.bool (bitI bs i)) ∧ w' = w := by
  obtain ⟨a, c, rfl, g1, g2, gn, g3⟩ := hsh
  unfold maxLen at g2
  by_cases hi : i < 0
  · have HB := hid (show bitI bs i = false by simp [bitI, hi])
    go_enter Tryd.func80, Tryd.ntmps80
    go_wp2
    go_ret
    exact ⟨by rw [HB.out]; rfl, rfl⟩
  · obtain ⟨n, rfl⟩ : ∃ n : Nat, i = n := ⟨i.toNat, by omega⟩
    have hn : n < 9223372036854775808 := by omega
    have hq : (n : Int) / 9 = ((n / 9 : Nat) : Int) := by omega
    have hr : (n : Int) % 9 = ((n % 9 : Nat) : Int) := by omega
    have hr9 : n % 9 < 9 := by omega
    have HB := hid (bitI_nat bs n)
    have HBB : Hid (bit bs n = match bs[n / 9]? with | none => false | some c => n % 9 == 0 || c.toNat / 2 ^ (8 - n % 9) % 2 == 1) := hid rfl
    generalize n / 9 = q at *
    generalize n % 9 = r at *
    by_cases hl : bs.length ≤ q
    · rw [List.getElem?_eq_none hl] at HBB
      have hl' : (bs.length : Int) ≤ (q : Int) := by omega
      go_enter Tryd.func80, Tryd.ntmps80
      go_wp2
      go_ret
      exact ⟨by rw [HB.out, HBB.out]; rfl, rfl⟩
    · have hl' : (q : Int) < (bs.length : Int) := by omega
      obtain ⟨b, off, rfl, hb, hc⟩ := g3 (by intro e; simp [e] at hl)
      have hcq := hc q (by omega)
      rw [List.getElem?_eq_getElem (by omega)] at HBB hcq
      simp only [Option.getD_some] at hcq
      generalize bs[q]'(by omega) = u at *
      clear hc g3
      by_cases hr0 : r = 0
      · subst hr0
        go_enter Tryd.func80, Tryd.ntmps80
        go_wp2
        go_ret
        exact ⟨by rw [HB.out, HBB.out]; rfl, rfl⟩
      · have hr1 : ¬ ((r : Int) == 0) = true := by simpa using hr0
        go_enter Tryd.func80, Tryd.ntmps80
        go_wp2
        go_ret
        refine ⟨?_, rfl⟩
        rw [HB.out, HBB.out]
        refine congrArg (fun b => Ending.returned (.bool b)) ?_
        have e1 : (u.toNat : Int) / 2 ^ (8 - r) = ((u.toNat / 2 ^ (8 - r) : Nat) : Int) := by simp
        have hu : u.toNat / 2 ^ (8 - r) < 256 := Nat.lt_of_le_of_lt (Nat.div_le_self _ _) u.toNat_lt
        have e2 := bits_and_u8_nat (u.toNat / 2 ^ (8 - r)) 1 hu (by omega)
        rw [e1]
        rw [show ((1 : Nat) : Int) = 1 from rfl] at e2
        rw [e2, Nat.and_one_is_mod]
        have h0 : (r == 0) = false := by simpa using hr0
        rw [h0, Bool.false_or, Bool.eq_iff_iff]
        simp only [beq_iff_eq]
        omega

set_option maxHeartbeats 1000000 in
theorem isLeaf_any (b : Nat) (q : Option Addr) (w : World) (h3 : w.cell? ⟨b, 3, none⟩ = some (.pointer q)) :
    Calls Tryd.prog 94 #[.pointer (some ⟨b, 0, none⟩)] w fun e w' => e = .returned (.bool q.isNone) ∧ w' = w := by
  cases q with
  | none =>
    go_enter Tryd.func94, Tryd.ntmps94
    go_wp2
    go_ret
    exact ⟨rfl, rfl⟩
  | some q =>
    go_enter Tryd.func94, Tryd.ntmps94
    go_wp2
    go_ret
    exact ⟨rfl, rfl⟩

set_option maxHeartbeats 1000000 in
theorem other_any (b p : Nat) (q r : Value) (B : Nat) (v : Value) (bs : List UInt8) (w : World) (hsh : Shows B w v bs) (hp : p < 1080)
    (h2 : w.cell? ⟨b, 2, none⟩ = some (.int .i64 p)) (h3 : w.cell? ⟨b, 3, none⟩ = some q) (h4 : w.cell? ⟨b, 4, none⟩ = some r) :
    Calls Tryd.prog 95 #[.pointer (some ⟨b, 0, none⟩), v] w fun e w' => e = .returned (if bit bs p then q else r) ∧ w' = w := by
  have hbit := bit_any B v bs p w hsh (by omega) (by omega)
  rw [bitI_nat] at hbit
  cases hb : bit bs p with
  | true =>
    rw [hb] at hbit
    go_enter Tryd.func95, Tryd.ntmps95
    go_wp2_with (go_at_call 80; refine hbit.mono ?_; rintro e w' ⟨rfl, rfl⟩)
    go_ret
    exact ⟨rfl, rfl⟩
  | false =>
    rw [hb] at hbit
    go_enter Tryd.func95, Tryd.ntmps95
    go_wp2_with (go_at_call 80; refine hbit.mono ?_; rintro e w' ⟨rfl, rfl⟩)
    go_ret
    exact ⟨rfl, rfl⟩

theorem str8_toList (bs : List UInt8) : (str8 bs).toList = bs := by simp [str8, ByteArray.toList_eq]

set_option maxHeartbeats 1000000 in
theorem equal_any (B C : Nat) (v u : Value) (bs cs : List UInt8) (w : World) (hsh : Shows B w v bs) (hsu : Shows C w u cs) :
    Calls Tryd.prog 50 #[v, u] w fun e w' => e = .returned (.bool (decide (bs = cs))) ∧ w' = w := by
  have c1 := run_string_shows (P := Tryd.prog) 24 5 9 Tryd.underlying24 Tryd.underlying5 Tryd.underlying9 hsh
  have c2 := run_string_shows (P := Tryd.prog) 24 5 9 Tryd.underlying24 Tryd.underlying5 Tryd.underlying9 hsu
  go_enter Tryd.func50, Tryd.ntmps50
  go_wp2
  go_ret
  refine ⟨?_, rfl⟩
  refine congrArg (fun b => Ending.returned (.bool b)) ?_
  rw [str8_toList, str8_toList, Bool.eq_iff_iff]
  simp

set_option maxHeartbeats 1000000 in
theorem isLong_any (B C : Nat) (v u : Value) (bs cs : List UInt8) (w : World) (hsh : Shows B w v bs) (hsu : Shows C w u cs) :
    Calls Tryd.prog 90 #[v, u] w fun e w' => e = .returned (.bool (decide (120 < bs.length ∨ 1200 < cs.length))) ∧ w' = w := by
  obtain ⟨a, c, rfl, g1, g2, gn, g3⟩ := hsh
  obtain ⟨a', c', rfl, f1, f2, fn, f3⟩ := hsu
  unfold maxLen at g2 f2
  by_cases h1 : 120 < bs.length
  · have i1 : (120 : Int) < (bs.length : Int) := by omega
    go_enter Tryd.func90, Tryd.ntmps90
    go_wp2
    go_ret
    exact ⟨by simp [h1], rfl⟩
  · have i1 : (bs.length : Int) ≤ 120 := by omega
    by_cases h2 : 1200 < cs.length
    · have i2 : (1200 : Int) < (cs.length : Int) := by omega
      go_enter Tryd.func90, Tryd.ntmps90
      go_wp2
      go_ret
      exact ⟨by simp [h2], rfl⟩
    · have i2 : (cs.length : Int) ≤ 1200 := by omega
      go_enter Tryd.func90, Tryd.ntmps90
      go_wp2
      go_ret
      exact ⟨by simp [h1, h2]; omega, rfl⟩
end Go.Proofs.YtmafaioohiaenaaDoor

/- Contracts of math/bits.Len8, LeadingZeros8, trie.firstUnlike. -/

namespace Go.Proofs.YtmafaioohiaenaaDoor
open Go.RowKit
set_option linter.unusedVariables false
set_option maxRecDepth 20000

set_option maxHeartbeats 1000000 in
theorem len8_any (x : Nat) (w : World) (hx : x < 256) :
    Calls Tryd.prog 109 #[.int .u8 x] w fun e w' => e = .returned (.int .i64 (len8 x)) ∧ w' = w := by
  go_enter Tryd.func109, Tryd.ntmps109
  go_wp2
  go_ret
  refine ⟨?_, rfl⟩
  refine congrArg (fun z => Ending.returned (.int .i64 z)) ?_
  rw [← getElem!_pos]
  rename_i h
  clear w h
  revert hx
  revert x
  decide +kernel

set_option maxHeartbeats 1000000 in
theorem lz8_any (x : Nat) (w : World) (hx : x < 256) :
    Calls Tryd.prog 106 #[.int .u8 x] w fun e w' => e = .returned (.int .i64 (8 - len8 x : Nat)) ∧ w' = w := by
  have h8 := len8_le x
  have e1 : (8 : Int) - (len8 x : Int) = ((8 - len8 x : Nat) : Int) := by omega
  go_enter Tryd.func106, Tryd.ntmps106
  go_wp2_with (go_at_call 109; refine (len8_any x _ hx).mono ?_; rintro e w' ⟨rfl, rfl⟩)
  go_ret
  exact ⟨rfl, rfl⟩

/-- How many bytes two keys share ahead. -/
def shared : List UInt8 → List UInt8 → Nat
  | c :: a, d :: b => if c = d then shared a b + 1 else 0
  | _, _ => 0

theorem shared_pre : ∀ (a b : List UInt8) (j : Nat), j < shared a b → j < a.length ∧ j < b.length ∧ a[j]? = b[j]?
  | [], _, j, h => by simp [shared] at h
  | _ :: _, [], j, h => by simp [shared] at h
  | c :: a, d :: b, j, h => by
    simp only [shared] at h
    split at h
    · rename_i e
      subst e
      match j with
      | 0 => simp
      | j + 1 =>
        obtain ⟨h1, h2, h3⟩ := shared_pre a b j (by omega)
        exact ⟨by simp; omega, by simp; omega, by simpa using h3⟩
    · omega

theorem shared_stop : ∀ (a b : List UInt8), shared a b < a.length → shared a b < b.length → a[shared a b]? ≠ b[shared a b]?
  | [], _, h, _ => by simp [shared] at h
  | _ :: _, [], _, h => by simp [shared] at h
  | c :: a, d :: b, h1, h2 => by
    simp only [shared] at h1 h2 ⊢
    split
    · rename_i e
      rw [if_pos e] at h1 h2
      have := shared_stop a b (by simpa using h1) (by simpa using h2)
      simpa using this
    · rename_i e
      simpa using e

theorem shared_le : ∀ (a b : List UInt8), shared a b ≤ a.length ∧ shared a b ≤ b.length
  | [], _ => by simp [shared]
  | _ :: _, [] => by simp [shared]
  | c :: a, d :: b => by
    have := shared_le a b
    simp only [shared, List.length_cons]
    split <;> omega

theorem fu_shared : ∀ (a b : List UInt8), fu a b = if shared a b = a.length ∨ shared a b = b.length then 9 * shared a b else 9 * shared a b + 1 + fb (a[shared a b]?.getD 0) (b[shared a b]?.getD 0)
  | [], b => by simp [shared, fu]
  | _ :: _, [] => by simp [shared, fu]
  | c :: a, d :: b => by
    have ih := fu_shared a b
    by_cases e : c = d
    · simp only [fu, shared, if_pos e, List.length_cons, Nat.add_right_cancel_iff, List.getElem?_cons_succ, ih]
      split <;> omega
    · simp only [fu, shared, if_neg e, List.length_cons]
      rw [if_neg (by omega)]
      simp
      omega

/-- The byte of a key at a place, as the walk reads it. -/
def byteAt (a : List UInt8) (k : Nat) : Nat := (a[k]?.getD 0).toNat

theorem byteAt_lt (a : List UInt8) (k : Nat) : byteAt a k < 256 := (a[k]?.getD 0).toNat_lt

theorem byteAt_eq (a b : List UInt8) (k : Nat) (h1 : k < a.length) (h2 : k < b.length) : byteAt a k = byteAt b k ↔ a[k]? = b[k]? := by
  unfold byteAt
  rw [List.getElem?_eq_getElem h1, List.getElem?_eq_getElem h2]
  simp [UInt8.toNat_inj]

set_option maxHeartbeats 2000000 in
theorem unlike_any (B C : Nat) (v u : Value) (bs cs : List UInt8) (w : World) (hsh : Shows B w v bs) (hsu : Shows C w u cs) (hb : bs.length ≤ 140737488355328) (hcl : cs.length ≤ 140737488355328) :
    Calls Tryd.prog 92 #[v, u] w fun e w' => e = .returned (.int .i64 (fu bs cs)) ∧ ∃ n, w' = w.drewN n := by
  obtain ⟨a, c, rfl, g1, g2, gn, g3⟩ := hsh
  obtain ⟨a', c', rfl, f1, f2, fn, f3⟩ := hsu
  have HS := hid (shared_le bs cs)
  have HP := hid (shared_pre bs cs)
  have HT := hid (shared_stop bs cs)
  have HF := hid (fu_shared bs cs)
  have hs1 := HS.out.1
  have hs2 := HS.out.2
  unfold maxLen at g2 f2
  generalize hn : shared bs cs = n at *
  have HN := hid hn
  clear hn
  have HC1 : Hid (bs ≠ [] → ∃ b off, a = some ⟨b, off, none⟩ ∧ ∀ k, k < bs.length → w.cell? ⟨b, off + k, none⟩ = some (.int .u8 (byteAt bs k : Nat))) := hid (fun h => by
    obtain ⟨b, off, ha, _, hc⟩ := g3 h
    exact ⟨b, off, ha, fun k hk => hc k hk⟩)
  have HC2 : Hid (cs ≠ [] → ∃ b off, a' = some ⟨b, off, none⟩ ∧ ∀ k, k < cs.length → w.cell? ⟨b, off + k, none⟩ = some (.int .u8 (byteAt cs k : Nat))) := hid (fun h => by
    obtain ⟨b, off, ha, _, hc⟩ := f3 h
    exact ⟨b, off, ha, fun k hk => hc k hk⟩)
  clear g3 f3
  go_enter Tryd.func92, Tryd.ntmps92
  go_wp2_with fail
  go_loopw [5] (fun i wr => ∃ k : Nat, k ≤ n ∧ i = .int .i64 k ∧ Hid (∃ m, wr = w.drewN m)) (fun i _ => n - (intOf i).toNat)
  case atStart => exact ⟨0, Nat.zero_le _, rfl, ⟨0, rfl⟩⟩
  case round =>
    obtain ⟨k, hk, rfl, HM⟩ := hrel
    have HM2 : Hid (∀ j, ∃ m, wr.drewN j = w.drewN m) := hid (fun j => by obtain ⟨m, hm⟩ := HM.out; exact ⟨m + j, by rw [hm, World.drewN_drewN]⟩)
    have HCW : Hid (∀ ad, wr.cell? ad = w.cell? ad) := hid (fun ad => by obtain ⟨m, hm⟩ := HM.out; rw [hm]; rfl)
    by_cases h1 : k < bs.length
    · by_cases h2 : k < cs.length
      · obtain ⟨b1, o1, rfl, hc1⟩ := HC1.out (by intro e; simp [e] at h1)
        obtain ⟨b2, o2, rfl, hc2⟩ := HC2.out (by intro e; simp [e] at h2)
        have k1 := (HCW.out _).trans (hc1 k h1)
        have k2 := (HCW.out _).trans (hc2 k h2)
        have d1 : decide ((k : Int) < (bs.length : Int)) = true := by simpa using h1
        have d2 : decide ((k : Int) < (cs.length : Int)) = true := by simpa using h2
        have i1 : (k : Int) < (bs.length : Int) := by omega
        have i2 : (k : Int) < (cs.length : Int) := by omega
        by_cases hlt : k < n
        · have he : byteAt bs k = byteAt cs k := (byteAt_eq bs cs k h1 h2).2 (HP.out k hlt).2.2
          rw [he] at k1
          have HX := hid hlt
          go_wp2_with fail
          go_quiet (fail)
          go_wp2
          go_roundw
          case rel => exact ⟨k + 1, HX.out, by go_num, HM2.out nq⟩
          case measure => simp [intOf]; omega
        · have hkn : k = n := by omega
          subst hkn
          have hne : byteAt bs k ≠ byteAt cs k := fun e => HT.out h1 h2 ((byteAt_eq bs cs k h1 h2).1 e)
          have hne' : ((byteAt bs k : Int) == (byteAt cs k : Int)) = false := by simp; omega
          have hq1 : ((k : Int) == (bs.length : Int)) = false := by simp; omega
          have hq2 : ((k : Int) == (cs.length : Int)) = false := by simp; omega
          have hx1 := bits_xor_u8_nat (byteAt bs k) (byteAt cs k) (byteAt_lt _ _) (byteAt_lt _ _)
          have hx2 : byteAt bs k ^^^ byteAt cs k < 256 := Nat.xor_lt_two_pow (n := 8) (byteAt_lt _ _) (byteAt_lt _ _)
          have HG : Hid (fu bs cs = 9 * k + 1 + (8 - len8 (byteAt bs k ^^^ byteAt cs k))) := hid (by
            rw [HF.out, if_neg (by omega)]; rfl)
          have h8 := len8_le (byteAt bs k ^^^ byteAt cs k)
          clear HF HT HP HS HC1 HC2 hc1 hc2
          go_wp2_with fail
          go_quiet (fail)
          have q1 : (wr.drewN nq).cell? ⟨b1, o1 + k, none⟩ = some (.int .u8 (byteAt bs k : Nat)) := k1
          have q2 : (wr.drewN nq).cell? ⟨b2, o2 + k, none⟩ = some (.int .u8 (byteAt cs k : Nat)) := k2
          have HM3 : Hid (∀ j, ∃ m, (wr.drewN nq).drewN j = w.drewN m) := hid (fun j => by rw [World.drewN_drewN]; exact HM2.out _)
          clear k1 k2 HM HM2 HCW
          generalize wr.drewN nq = wq at *
          go_wp2_with fail
          go_quiet ((go_at_call 106; exact Calls.quiet_of_same (lz8_any _ _ hx2)))
          go_wp2
          go_ret
          exact ⟨by rw [HG.out]; refine congrArg (fun z => Ending.returned (.int .i64 z)) ?_; omega, HM3.out _⟩
      · have hkn : k = n := by omega
        subst hkn
        have d2 : decide ((k : Int) < (cs.length : Int)) = false := by simpa using h2
        have i2 : (cs.length : Int) ≤ (k : Int) := by omega
        have i1 : (k : Int) < (bs.length : Int) := by omega
        have hq1 : ((k : Int) == (bs.length : Int)) = false := by simp; omega
        have hq2 : ((k : Int) == (cs.length : Int)) = true := by simp; omega
        have HG : Hid (fu bs cs = 9 * k) := hid (by rw [HF.out, if_pos (by omega)])
        clear HF HT HP HS HC1 HC2
        go_wp2_with fail
        go_quiet (fail)
        go_wp2
        go_ret
        exact ⟨by rw [HG.out]; refine congrArg (fun z => Ending.returned (.int .i64 z)) ?_; omega, HM2.out _⟩
    · have hkn : k = n := by omega
      subst hkn
      have i1 : (bs.length : Int) ≤ (k : Int) := by omega
      have d1 : decide ((k : Int) < (bs.length : Int)) = false := by simpa using h1
      have hq1 : ((k : Int) == (bs.length : Int)) = true := by simp; omega
      have HG : Hid (fu bs cs = 9 * k) := hid (by rw [HF.out, if_pos (by omega)])
      clear HF HT HP HS HC1 HC2
      go_wp2_with fail
      go_quiet (fail)
      go_wp2
      go_ret
      exact ⟨by rw [HG.out]; refine congrArg (fun z => Ending.returned (.int .i64 z)) ?_; omega, HM2.out _⟩
end Go.Proofs.YtmafaioohiaenaaDoor

/- Trees of nodes in memory. -/

namespace Go.Proofs.YtmafaioohiaenaaDoor
open Go.RowKit
set_option linter.unusedVariables false
set_option maxRecDepth 20000

/-- What of bytes there was is there. -/
structure Bytes (w w' : World) : Prop where
  size : w.heap.size ≤ w'.heap.size
  cell : ∀ ad n, w.cell? ad = some (.int .u8 n) → w'.cell? ad = some (.int .u8 n)

theorem Bytes.refl (w : World) : Bytes w w := ⟨Nat.le_refl _, fun _ _ h => h⟩
theorem Bytes.trans {a b c : World} (h : Bytes a b) (k : Bytes b c) : Bytes a c := ⟨Nat.le_trans h.size k.size, fun ad n hc => k.cell ad n (h.cell ad n hc)⟩
theorem Bytes.of_new {w w' : World} (h : Below w.heap.size w w') : Bytes w w' := ⟨h.size, fun ad n hc => by rw [h.cell (p := ad) (World.block_lt_of_cell? w ad hc)]; exact hc⟩

/-- Bytes that a slice shows, wherever they lie. -/
def Says (w : World) (v : Value) (bs : List UInt8) : Prop := Shows w.heap.size w v bs

theorem Says.bytes {w w' : World} {v : Value} {bs : List UInt8} (h : Says w v bs) (hb : Bytes w w') : Says w' v bs := by
  obtain ⟨a, c, hv, h1, h2, hn, h3⟩ := h
  refine ⟨a, c, hv, h1, h2, hn, fun hne => ?_⟩
  obtain ⟨b, off, ha, hlt, hc⟩ := h3 hne
  exact ⟨b, off, ha, by have := hb.size; omega, fun j hj => hb.cell _ _ (hc j hj)⟩

theorem Says.new {w w' : World} {v : Value} {bs : List UInt8} (h : Says w v bs) (hb : Below w.heap.size w w') : Says w' v bs := h.bytes (Bytes.of_new hb)

/-- A tree of nodes: each with its block; of a leaf the slices of its key and its value, and what they show. -/
inductive Nod where
  | leaf (b : Nat) (kv vv : Value) (k v : List UInt8)
  | fork (b p : Nat) (l r : Nod)

namespace Nod
def blk : Nod → Nat
  | leaf b _ _ _ _ => b
  | fork b _ _ _ => b

/-- Where it lies. -/
def at' (x : Nod) : Value := .pointer (some ⟨x.blk, 0, none⟩)

def tri : Nod → Tri
  | leaf _ _ _ k v => .leaf k v
  | fork _ p l r => .fork p l.tri r.tri

def blks : Nod → List Nat
  | leaf b _ _ _ _ => [b]
  | fork b _ l r => b :: (l.blks ++ r.blks)

/-- What its block holds. -/
def cells : Nod → Array Value
  | leaf _ kv vv _ _ => #[kv, vv, .int .i64 0, .pointer none, .pointer none]
  | fork _ p l r => #[.slice none 0 0, .slice none 0 0, .int .i64 p, l.at', r.at']

/-- THE NODES LIE IN MEMORY. -/
def Lies (w : World) : Nod → Prop
  | leaf b kv vv k v => w.heap[b]? = some (.cells #[kv, vv, .int .i64 0, .pointer none, .pointer none] 98 (0, 0)) ∧ Says w kv k ∧ Says w vv v
  | fork b p l r => w.heap[b]? = some (.cells #[.slice none 0 0, .slice none 0 0, .int .i64 p, l.at', r.at'] 98 (0, 0)) ∧ l.Lies w ∧ r.Lies w

theorem Lies.keeps : ∀ {x : Nod} {w w' : World}, x.Lies w → Bytes w w' → (∀ b ∈ x.blks, w'.heap[b]? = w.heap[b]?) → x.Lies w'
  | leaf b kv vv k v, w, w', h, hb, hk => ⟨(hk b (by simp [blks])).trans h.1, h.2.1.bytes hb, h.2.2.bytes hb⟩
  | fork b p l r, w, w', h, hb, hk => ⟨(hk b (by simp [blks])).trans h.1, h.2.1.keeps hb fun i hi => hk i (by simp [blks, hi]), h.2.2.keeps hb fun i hi => hk i (by simp [blks, hi])⟩

theorem Lies.block {x : Nod} {w : World} (h : x.Lies w) : w.heap[x.blk]? = some (.cells x.cells 98 (0, 0)) := by
  cases x with
  | leaf b kv vv k v => exact h.1
  | fork b p l r => exact h.1

theorem Lies.all : ∀ {x : Nod} {w : World}, x.Lies w → ∀ b ∈ x.blks, ∃ cs, w.heap[b]? = some (.cells cs 98 (0, 0)) ∧ ∀ (i : Nat) (n : Int), cs[i]? ≠ some (.int .u8 n)
  | leaf b kv vv k v, w, h, i, hi => by
    simp [blks] at hi
    subst hi
    obtain ⟨_, _, e1, _⟩ := h.2.1
    obtain ⟨_, _, e2, _⟩ := h.2.2
    subst e1 e2
    refine ⟨_, h.1, fun i n => ?_⟩
    match i with
    | 0 => simp
    | 1 => simp
    | 2 => simp
    | 3 => simp
    | 4 => simp
    | i + 5 => simp
  | fork b p l r, w, h, i, hi => by
    simp only [blks, List.mem_cons, List.mem_append] at hi
    rcases hi with rfl | hi | hi
    · refine ⟨_, h.1, fun i n => ?_⟩
      match i with
      | 0 => simp
      | 1 => simp
      | 2 => simp
      | 3 => simp [at']
      | 4 => simp [at']
      | i + 5 => simp
    · exact h.2.1.all i hi
    · exact h.2.2.all i hi

theorem Lies.lt {x : Nod} {w : World} (h : x.Lies w) : ∀ b ∈ x.blks, b < w.heap.size := fun b hb => by
  obtain ⟨cs, hc, _⟩ := h.all b hb
  exact (Array.getElem?_eq_some_iff.1 hc).1

theorem Lies.new {x : Nod} {w w' : World} (h : x.Lies w) (hb : Below w.heap.size w w') : x.Lies w' := h.keeps (Bytes.of_new hb) fun b hi => hb.block b (h.lt b hi)

theorem blk_mem (x : Nod) : x.blk ∈ x.blks := by cases x <;> simp [blk, blks]

/-- The nodes that a key leads through, from the top. -/
def way : Nod → List UInt8 → List Nod
  | leaf b kv vv k v, _ => [leaf b kv vv k v]
  | fork b p l r, key => fork b p l r :: (if bit key p then r.way key else l.way key)

theorem way_lies : ∀ {x : Nod} {w : World}, x.Lies w → ∀ {key : List UInt8}, ∀ y ∈ x.way key, y.Lies w
  | leaf b kv vv k v, w, h, key, y, hy => by simp [way] at hy; subst hy; exact h
  | fork b p l r, w, h, key, y, hy => by
    simp only [way, List.mem_cons] at hy
    rcases hy with rfl | hy
    · exact h
    · split at hy
      · exact way_lies h.2.2 y hy
      · exact way_lies h.2.1 y hy

theorem way_blks : ∀ {x : Nod} {key : List UInt8}, ∀ y ∈ x.way key, ∀ b ∈ y.blks, b ∈ x.blks
  | leaf b kv vv k v, key, y, hy, i, hi => by simp [way] at hy; subst hy; exact hi
  | fork b p l r, key, y, hy, i, hi => by
    simp only [way, List.mem_cons] at hy
    rcases hy with rfl | hy
    · exact hi
    · simp only [blks, List.mem_cons, List.mem_append]
      split at hy
      · exact .inr (.inr (way_blks y hy i hi))
      · exact .inr (.inl (way_blks y hy i hi))

theorem way_ne (x : Nod) (key : List UInt8) : x.way key ≠ [] := by cases x <;> simp [way]

theorem way_head (x : Nod) (key : List UInt8) : ∃ r, x.way key = x :: r := by cases x <;> simp [way]

theorem ok_way : ∀ {x : Nod}, x.tri.WF → ∀ {key : List UInt8}, ∀ y ∈ x.way key, y.tri.WF
  | leaf b kv vv k v, h, key, y, hy => by simp [way] at hy; subst hy; exact h
  | fork b p l r, h, key, y, hy => by
    simp only [way, List.mem_cons] at hy
    rcases hy with rfl | hy
    · exact h
    · split at hy
      · exact ok_way h.2.1 y hy
      · exact ok_way h.1 y hy

/-- The leaf to which a key leads. -/
def end' : Nod → List UInt8 → Nod
  | leaf b kv vv k v, _ => leaf b kv vv k v
  | fork b p l r, key => if bit key p then r.end' key else l.end' key

theorem way_last : ∀ (x : Nod) (key : List UInt8), (x.way key).getLast? = some (x.end' key)
  | leaf b kv vv k v, key => rfl
  | fork b p l r, key => by
    simp only [way, end']
    have hr := way_last r key
    have hl := way_last l key
    split
    · rw [List.getLast?_cons, hr]; rfl
    · rw [List.getLast?_cons, hl]; rfl

theorem end_leaf : ∀ (x : Nod) (key : List UInt8), ∃ b kv vv k v, x.end' key = leaf b kv vv k v ∧ x.tri.near key = (k, v)
  | leaf b kv vv k v, key => ⟨b, kv, vv, k, v, rfl, rfl⟩
  | fork b p l r, key => by
    simp only [end', tri, Tri.near]
    split
    · exact end_leaf r key
    · exact end_leaf l key

theorem end_mem (x : Nod) (key : List UInt8) : x.end' key ∈ x.way key := List.mem_of_getLast? (way_last x key)
end Nod

/-- Where a tree of nodes lies that may be none. -/
def topOf : Option Nod → Option Addr
  | none => none
  | some x => some ⟨x.blk, 0, none⟩

def triO (o : Option Nod) : Option Tri := o.map Nod.tri

def wayO : Option Nod → List UInt8 → List Nod
  | none, _ => []
  | some x, key => x.way key

/-- A TREE: its block, its nodes. -/
structure TreeAt (w : World) (tb : Nat) (o : Option Nod) : Prop where
  head : w.heap[tb]? = some (.cells #[.pointer (topOf o), .int .i64 ((Tri.entsO (triO o)).length : Nat)] 101 (0, 0))
  lies : ∀ x, o = some x → x.Lies w
  nodup : ∀ x, o = some x → x.blks.Nodup
  wf : Tri.WFO (triO o)

/-- The blocks that a call may write: the tree's own, its nodes. -/
def own (tb : Nat) (o : Option Nod) (b : Nat) : Prop := b = tb ∨ ∃ x, o = some x ∧ b ∈ x.blks

theorem TreeAt.keeps {w w' : World} {tb : Nat} {o : Option Nod} (h : TreeAt w tb o) (hb : Bytes w w') (hk : ∀ b, own tb o b → w'.heap[b]? = w.heap[b]?) : TreeAt w' tb o :=
  ⟨(hk tb (.inl rfl)).trans h.head, fun x e => (h.lies x e).keeps hb fun b hi => hk b (.inr ⟨x, e, hi⟩), h.nodup, h.wf⟩

theorem TreeAt.lt {w : World} {tb : Nat} {o : Option Nod} (h : TreeAt w tb o) : ∀ b, own tb o b → b < w.heap.size := by
  rintro b (rfl | ⟨x, e, hi⟩)
  · exact (Array.getElem?_eq_some_iff.1 h.head).1
  · exact (h.lies x e).lt b hi

theorem TreeAt.new {w w' : World} {tb : Nat} {o : Option Nod} (h : TreeAt w tb o) (hb : Below w.heap.size w w') : TreeAt w' tb o :=
  h.keeps (Bytes.of_new hb) fun b hi => hb.block b (h.lt b hi)

/-- None of the blocks that a call may write has bytes. -/
theorem TreeAt.clean {w : World} {tb : Nat} {o : Option Nod} (h : TreeAt w tb o) (ad : Addr) (n : Int) (ho : own tb o ad.block) : w.cell? ad ≠ some (.int .u8 n) := by
  intro hc
  have key : ∀ cs t, w.heap[ad.block]? = some (.cells cs t (0, 0)) → (∀ (i : Nat) (n : Int), cs[i]? ≠ some (.int .u8 n)) → False := by
    intro cs t hcs hno
    unfold World.cell? at hc
    rw [hcs] at hc
    simp only at hc
    split at hc
    · cases hc
    · exact hno _ _ hc
  rcases ho with e | ⟨x, e, hi⟩
  · refine key _ _ (by rw [e]; exact h.head) fun i n => ?_
    match i with
    | 0 => simp
    | 1 => simp
    | i + 2 => simp
  · obtain ⟨cs, h1, h2⟩ := (h.lies x e).all _ hi
    exact key cs _ h1 h2

theorem TreeAt.bytes {w w' : World} {tb : Nat} {o : Option Nod} (h : TreeAt w tb o) (hs : Spares (own tb o) w w') : Bytes w w' :=
  ⟨hs.size, fun ad n hc => hs.cell hc fun ho => h.clean ad n ho hc⟩
end Go.Proofs.YtmafaioohiaenaaDoor
