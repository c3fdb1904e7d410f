/- Contracts of trie.Bit, node.isLeaf, node.other, bytes.Equal, bytes.Clone, trie.isLong. -/
import Derived.Test.YthkeofinamedfaaDoorTri
import Derived.Test.YthkeofinamedfaaDoorRow
import Derived.Deep.QuietTactic
import Derived.BigQuiet
namespace Go.Proofs.YthkeofinamedfaaDoor
open Go.RowKit
set_option linter.unusedVariables false
set_option maxRecDepth 20000

/-- Bit, of whatever number. -/
def bitI (k : List UInt8) (i : Int) : Bool := if i < 0 then false else bit k i.toNat

theorem bitI_nat (k : List UInt8) (i : Nat) : bitI k i = bit k i := by simp [bitI]

theorem wrap_u8_nat (n : Nat) (h : n < 2 ^ 8) : IntKind.u8.wrap (n : Int) = (n : Int) := by
  simp [IntKind.wrap, IntKind.bits, IntKind.signed]
  omega

theorem bits_and_u8_nat (a b : Nat) (ha : a < 256) (hb : b < 256) : bits .and .u8 (a : Int) (b : Int) = ((a &&& b : Nat) : Int) := by
  have hx : a &&& b < 2 ^ 8 := Nat.and_lt_two_pow _ (by omega)
  have h1 : (BitVec.ofInt 8 (a : Int)).toNat = a := by
    rw [BitVec.ofInt_natCast, BitVec.toNat_ofNat]; exact Nat.mod_eq_of_lt (by omega)
  have h2 : (BitVec.ofInt 8 (b : Int)).toNat = b := by
    rw [BitVec.ofInt_natCast, BitVec.toNat_ofNat]; exact Nat.mod_eq_of_lt (by omega)
  show IntKind.u8.wrap ((BitVec.ofInt 8 (a : Int) &&& BitVec.ofInt 8 (b : Int)).toNat : Int) = _
  rw [BitVec.toNat_and, h1, h2, wrap_u8_nat _ hx]

theorem bits_xor_u8_nat (a b : Nat) (ha : a < 256) (hb : b < 256) : bits .xor .u8 (a : Int) (b : Int) = ((a ^^^ b : Nat) : Int) := by
  have hx : a ^^^ b < 2 ^ 8 := Nat.xor_lt_two_pow (by omega) (by omega)
  have h1 : (BitVec.ofInt 8 (a : Int)).toNat = a := by
    rw [BitVec.ofInt_natCast, BitVec.toNat_ofNat]; exact Nat.mod_eq_of_lt (by omega)
  have h2 : (BitVec.ofInt 8 (b : Int)).toNat = b := by
    rw [BitVec.ofInt_natCast, BitVec.toNat_ofNat]; exact Nat.mod_eq_of_lt (by omega)
  show IntKind.u8.wrap ((BitVec.ofInt 8 (a : Int) ^^^ BitVec.ofInt 8 (b : Int)).toNat : Int) = _
  rw [BitVec.toNat_xor, h1, h2, wrap_u8_nat _ hx]

set_option maxHeartbeats 1000000 in
theorem bit_any (B : Nat) (v : Value) (bs : List UInt8) (i : Int) (w : World) (hsh : Shows B w v bs) (h1 : -9223372036854775808 ≤ i) (h2 : i ≤ 9223372036854775807) :
    Calls Tryd.prog 20 #[v, .int .i64 i] w fun e w' => e = .returned (.bool (bitI bs i)) ∧ w' = w := by
  obtain ⟨a, c, rfl, g1, g2, gn, g3⟩ := hsh
  unfold maxLen at g2
  by_cases hi : i < 0
  · have HB := hid (show bitI bs i = false by simp [bitI, hi])
    go_enter Tryd.func20, Tryd.ntmps20
    go_wp2
    go_ret
    exact ⟨by rw [HB.out]; rfl, rfl⟩
  · obtain ⟨n, rfl⟩ : ∃ n : Nat, i = n := ⟨i.toNat, by omega⟩
    have hn : n < 9223372036854775808 := by omega
    have hq : (n : Int) / 9 = ((n / 9 : Nat) : Int) := by omega
    have hr : (n : Int) % 9 = ((n % 9 : Nat) : Int) := by omega
    have hr9 : n % 9 < 9 := by omega
    have HB := hid (bitI_nat bs n)
    have HBB : Hid (bit bs n = match bs[n / 9]? with | none => false | some c => n % 9 == 0 || c.toNat / 2 ^ (8 - n % 9) % 2 == 1) := hid rfl
    generalize n / 9 = q at *
    generalize n % 9 = r at *
    by_cases hl : bs.length ≤ q
    · rw [List.getElem?_eq_none hl] at HBB
      have hl' : (bs.length : Int) ≤ (q : Int) := by omega
      go_enter Tryd.func20, Tryd.ntmps20
      go_wp2
      go_ret
      exact ⟨by rw [HB.out, HBB.out]; rfl, rfl⟩
    · have hl' : (q : Int) < (bs.length : Int) := by omega
      obtain ⟨b, off, rfl, hb, hc⟩ := g3 (by intro e; simp [e] at hl)
      have hcq := hc q (by omega)
      rw [List.getElem?_eq_getElem (by omega)] at HBB hcq
      simp only [Option.getD_some] at hcq
      generalize bs[q]'(by omega) = u at *
      clear hc g3
      by_cases hr0 : r = 0
      · subst hr0
        go_enter Tryd.func20, Tryd.ntmps20
        go_wp2
        go_ret
        exact ⟨by rw [HB.out, HBB.out]; rfl, rfl⟩
      · have hr1 : ¬ ((r : Int) == 0) = true := by simpa using hr0
        go_enter Tryd.func20, Tryd.ntmps20
        go_wp2
        go_ret
        refine ⟨?_, rfl⟩
        rw [HB.out, HBB.out]
        refine congrArg (fun b => Ending.returned (.bool b)) ?_
        have e1 : (u.toNat : Int) / 2 ^ (8 - r) = ((u.toNat / 2 ^ (8 - r) : Nat) : Int) := by simp
        have hu : u.toNat / 2 ^ (8 - r) < 256 := Nat.lt_of_le_of_lt (Nat.div_le_self _ _) u.toNat_lt
        have e2 := bits_and_u8_nat (u.toNat / 2 ^ (8 - r)) 1 hu (by omega)
        rw [e1]
        rw [show ((1 : Nat) : Int) = 1 from rfl] at e2
        rw [e2, Nat.and_one_is_mod]
        have h0 : (r == 0) = false := by simpa using hr0
        rw [h0, Bool.false_or, Bool.eq_iff_iff]
        simp only [beq_iff_eq]
        omega

set_option maxHeartbeats 1000000 in
theorem isLeaf_any (b : Nat) (q : Option Addr) (w : World) (h3 : w.cell? ⟨b, 3, none⟩ = some (.pointer q)) :
    Calls Tryd.prog 52 #[.pointer (some ⟨b, 0, none⟩)] w fun e w' => e = .returned (.bool q.isNone) ∧ w' = w := by
  cases q with
  | none =>
    go_enter Tryd.func52, Tryd.ntmps52
    go_wp2
    go_ret
    exact ⟨rfl, rfl⟩
  | some q =>
    go_enter Tryd.func52, Tryd.ntmps52
    go_wp2
    go_ret
    exact ⟨rfl, rfl⟩

set_option maxHeartbeats 1000000 in
theorem other_any (b p : Nat) (q r : Value) (B : Nat) (v : Value) (bs : List UInt8) (w : World) (hsh : Shows B w v bs) (hp : p < 1080)
    (h2 : w.cell? ⟨b, 2, none⟩ = some (.int .i64 p)) (h3 : w.cell? ⟨b, 3, none⟩ = some q) (h4 : w.cell? ⟨b, 4, none⟩ = some r) :
    Calls Tryd.prog 51 #[.pointer (some ⟨b, 0, none⟩), v] w fun e w' => e = .returned (if bit bs p then q else r) ∧ w' = w := by
  have hbit := bit_any B v bs p w hsh (by omega) (by omega)
  rw [bitI_nat] at hbit
  cases hb : bit bs p with
  | true =>
    rw [hb] at hbit
    go_enter Tryd.func51, Tryd.ntmps51
    go_wp2_with (go_at_call 20; refine hbit.mono ?_; rintro e w' ⟨rfl, rfl⟩)
    go_ret
    exact ⟨rfl, rfl⟩
  | false =>
    rw [hb] at hbit
    go_enter Tryd.func51, Tryd.ntmps51
    go_wp2_with (go_at_call 20; refine hbit.mono ?_; rintro e w' ⟨rfl, rfl⟩)
    go_ret
    exact ⟨rfl, rfl⟩

theorem str8_toList (bs : List UInt8) : (str8 bs).toList = bs := by simp [str8, ByteArray.toList_eq]

set_option maxHeartbeats 1000000 in
theorem equal_any (B C : Nat) (v u : Value) (bs cs : List UInt8) (w : World) (hsh : Shows B w v bs) (hsu : Shows C w u cs) :
    Calls Tryd.prog 46 #[v, u] w fun e w' => e = .returned (.bool (decide (bs = cs))) ∧ w' = w := by
  have c1 := run_string_shows (P := Tryd.prog) 28 5 9 Tryd.underlying28 Tryd.underlying5 Tryd.underlying9 hsh
  have c2 := run_string_shows (P := Tryd.prog) 28 5 9 Tryd.underlying28 Tryd.underlying5 Tryd.underlying9 hsu
  go_enter Tryd.func46, Tryd.ntmps46
  go_wp2
  go_ret
  refine ⟨?_, rfl⟩
  refine congrArg (fun b => Ending.returned (.bool b)) ?_
  rw [str8_toList, str8_toList, Bool.eq_iff_iff]
  simp

set_option maxHeartbeats 1000000 in
theorem isLong_any (B C : Nat) (v u : Value) (bs cs : List UInt8) (w : World) (hsh : Shows B w v bs) (hsu : Shows C w u cs) :
    Calls Tryd.prog 42 #[v, u] w fun e w' => e = .returned (.bool (decide (120 < bs.length ∨ 1200 < cs.length))) ∧ w' = w := by
  obtain ⟨a, c, rfl, g1, g2, gn, g3⟩ := hsh
  obtain ⟨a', c', rfl, f1, f2, fn, f3⟩ := hsu
  unfold maxLen at g2 f2
  by_cases h1 : 120 < bs.length
  · have i1 : (120 : Int) < (bs.length : Int) := by omega
    go_enter Tryd.func42, Tryd.ntmps42
    go_wp2
    go_ret
    exact ⟨by simp [h1], rfl⟩
  · have i1 : (bs.length : Int) ≤ 120 := by omega
    by_cases h2 : 1200 < cs.length
    · have i2 : (1200 : Int) < (cs.length : Int) := by omega
      go_enter Tryd.func42, Tryd.ntmps42
      go_wp2
      go_ret
      exact ⟨by simp [h2], rfl⟩
    · have i2 : (cs.length : Int) ≤ 1200 := by omega
      go_enter Tryd.func42, Tryd.ntmps42
      go_wp2
      go_ret
      exact ⟨by simp [h1, h2]; omega, rfl⟩
end Go.Proofs.YthkeofinamedfaaDoor
