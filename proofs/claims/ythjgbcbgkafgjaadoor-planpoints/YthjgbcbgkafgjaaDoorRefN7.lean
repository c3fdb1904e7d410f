/- Contracts of the document's own Num, NumKey, TakeNum, TakeNumKey. -/
import Derived.Test.YthjgbcbgkafgjaaDoorCodec
import Derived.Deep.QuietTactic
import Derived.BigQuiet
import Derived.Deep.RegionHeld3
namespace Go.Proofs.YthjgbcbgkafgjaaDoor
open Go.RowKit
set_option linter.unusedVariables false
set_option maxRecDepth 20000

theorem byte_eq (n : Int) (m : Nat) (hm : m ≤ 7) : n / 256 ^ m % 256 = ((u64of n / 256 ^ m % 256 : Nat) : Int) := by
  have h : (u64of n : Int) = n % 18446744073709551616 := by
    unfold u64of
    exact Int.toNat_of_nonneg (Int.emod_nonneg n (by decide))
  generalize u64of n = K at *
  have hc : m = 0 ∨ m = 1 ∨ m = 2 ∨ m = 3 ∨ m = 4 ∨ m = 5 ∨ m = 6 ∨ m = 7 := by omega
  rcases hc with rfl | rfl | rfl | rfl | rfl | rfl | rfl | rfl <;> simp only [Int.reducePow, Nat.reducePow] <;> omega

theorem bytes_of (n : Int) (ys : List Value) (hl : ys.length = 8) (h : ∀ j, j < 8 → ys[j]? = some (.int .u8 (n / 256 ^ (7 - j) % 256))) : ys = (be (u64of n) 8).map by8 := by
  apply List.ext_getElem?
  intro j
  by_cases hj : j < 8
  · have hb : j < (be (u64of n) 8).length := by rw [be_length]; exact hj
    have e := be_at (u64of n) 8 j hj
    rw [List.getElem?_eq_getElem hb, Option.getD_some] at e
    rw [h j hj, List.getElem?_map, List.getElem?_eq_getElem hb, byte_eq n _ (by omega)]
    show some (Value.int .u8 _) = some (Value.int .u8 ((be (u64of n) 8)[j].toNat : Int))
    rw [e, show 8 - 1 - j = 7 - j from by omega]
  · rw [List.getElem?_eq_none (by omega), List.getElem?_eq_none (by rw [List.length_map, be_length]; omega)]

set_option maxHeartbeats 1000000 in
theorem refNum_any (n : Int) (w : World) (h0 : -9223372036854775808 ≤ n) (h1 : n ≤ 9223372036854775807) :
    Calls Tryd.prog 49 #[.int .i64 n] w fun e w' => ∃ g, e = .returned (.slice (some ⟨g, 0, none⟩) 8 8) ∧ w'.ownsRow w.heap.size 5 1 (.slice (some ⟨g, 0, none⟩) 8 8) 8 ((be (u64of n) 8).map by8) ∧ Below w.heap.size w w' := by
  obtain ⟨i0, hi, hz0, hz1, hz2⟩ := info_parts Tryd.infoU8
  have hmk : ∀ u : World, (Instr.makeSlice 29 (.int .i64 8) (.int .i64 8)).run Tryd.prog u = .ok (.slice (some ⟨u.heap.size, 0, none⟩) 8 8) (u.alloc (.cells (zeros 8).toArray 5)) := fun u => by
    have h := run_make (P := Tryd.prog) u 29 5 i0 (.int .u8 0) Tryd.underlying29 hi hz0 .i64 .i64 8 8 (by omega) (by omega) (by rw [hz2]; omega) (by omega)
    rw [hz1, Nat.mul_one] at h
    rw [h]
    congr 3
    exact toArray_made _
  have hown0 : (w.alloc (.cells (zeros 8).toArray 5)).ownsRow w.heap.size 5 1 (.slice (some ⟨w.heap.size, 0, none⟩) 8 8) 8 (zeros 8) :=
    World.ownsRow_lit w (zeros 8).toArray 8 (Nat.le_refl _) (by unfold maxLen; omega) (by simp [zeros])
  have HO := hid hown0
  clear hown0
  generalize zeros 8 = Z at *
  go_enter Tryd.func49, Tryd.ntmps49
  go_wp2_with fail
  go_loopw [0, 4] (fun x i wr => ∃ (k : Nat) (ys : List Value), k ≤ 8 ∧ i = .int .i64 ((k : Int) - 1) ∧ x = .int .i64 (n / 256 ^ (8 - k)) ∧ wr.ownsRow w.heap.size 5 1 (.slice (some ⟨w.heap.size, 0, none⟩) 8 8) 8 ys ∧ Hid (∀ j, k ≤ j → j < 8 → ys[j]? = some (.int .u8 ((n / 256 ^ (7 - j)) % 256))) ∧ Below w.heap.size w wr) (fun _ i _ => (intOf i + 1).toNat)
  case atStart => exact ⟨8, Z, by omega, rfl, by simp, HO.out, fun j h1 h2 => by omega, (Below.refl _ _).alloc (Nat.le_refl _) _⟩
  case round =>
    obtain ⟨k, ys, hk, rfl, rfl, hown, HY, hbel⟩ := hrel
    rcases k with _ | k
    · have hys : ys = (be (u64of n) 8).map by8 := bytes_of n ys (by have := hown.1; omega) fun j hj => HY.out j (by omega) hj
      clear HY
      go_wp2
      go_ret
      exact ⟨w.heap.size, rfl, by rw [← hys]; exact hown, hbel⟩
    · have hl : ys.length = 8 := by have := hown.1; omega
      have hc : wr.cell? ⟨w.heap.size, k, none⟩ = some (ys[k]'(by omega)) := by rw [hown.cellAt k (by omega)]; exact List.getElem?_eq_getElem _
      have hf := hown.frozenAt k
      have hst := (hown.stored k (.int .u8 (n / 256 ^ (7 - k) % 256))).1
      go_wp2_with fail
      go_roundw
      case rel =>
        refine ⟨k, _, by omega, rfl, ?_, hst, ?_, hbel.setCell (Nat.le_refl _) _⟩
        · refine congrArg (Value.int .i64) ?_
          rw [Int.ediv_ediv_of_nonneg (Int.pow_nonneg (by omega)), ← Int.pow_succ, show (7 - k).succ = 8 - k from by omega]
        · intro j h1 h2
          rw [List.getElem?_set]
          by_cases hjk : k = j
          · subst hjk
            rw [if_pos rfl, if_pos (by omega)]
          · rw [if_neg hjk]; exact HY.out j (by omega) h2
      case measure => simp [intOf]

theorem xor_128 (c : UInt8) : bits .xor .u8 (c.toNat : Int) 128 = (((c.toNat + 128) % 256 : Nat) : Int) := by
  have h : ∀ n : Fin 256, bits .xor .u8 (n.val : Int) 128 = (((n.val + 128) % 256 : Nat) : Int) := by decide +kernel
  exact h ⟨c.toNat, c.toNat_lt⟩

theorem key_top (K : Nat) (h : K < 18446744073709551616) : (K + 9223372036854775808) % 18446744073709551616 / 256 ^ (8 - 1 - 0) % 256 = (K / 256 ^ (8 - 1 - 0) % 256 + 128) % 256 := by
  simp only [Nat.reduceSub, Nat.reducePow]
  omega

theorem key_low (K j : Nat) (h : K < 18446744073709551616) (h1 : 1 ≤ j) (h7 : j ≤ 7) : (K + 9223372036854775808) % 18446744073709551616 / 256 ^ (8 - 1 - j) % 256 = K / 256 ^ (8 - 1 - j) % 256 := by
  have hc : j = 1 ∨ j = 2 ∨ j = 3 ∨ j = 4 ∨ j = 5 ∨ j = 6 ∨ j = 7 := by omega
  rcases hc with rfl | rfl | rfl | rfl | rfl | rfl | rfl <;> simp only [Nat.reduceSub, Nat.reducePow] <;> omega

/-- The first byte turned: the number's key. -/
theorem be_key (n : Int) : ((be (u64of n) 8).map by8).set 0 (.int .u8 ((((be (u64of n) 8)[0]?.getD 0).toNat + 128) % 256 : Nat)) = (be (u64of (n + 9223372036854775808)) 8).map by8 := by
  have e0 := be_at (u64of n) 8 0 (by omega)
  rw [e0]
  have hk : u64of (n + 9223372036854775808) = (u64of n + 9223372036854775808) % 18446744073709551616 := by
    have h1 : (u64of n : Int) = n % 18446744073709551616 := Int.toNat_of_nonneg (Int.emod_nonneg n (by decide))
    have h2 : (u64of (n + 9223372036854775808) : Int) = (n + 9223372036854775808) % 18446744073709551616 := Int.toNat_of_nonneg (Int.emod_nonneg _ (by decide))
    generalize u64of n = A at *
    generalize u64of (n + 9223372036854775808) = C at *
    omega
  have hlt := u64of_lt n
  rw [hk]
  generalize u64of n = K at *
  apply List.ext_getElem?
  intro j
  rw [List.getElem?_set]
  by_cases hj : j < 8
  · have hb1 : j < (be K 8).length := by rw [be_length]; exact hj
    have hb2 : j < (be ((K + 9223372036854775808) % 18446744073709551616) 8).length := by rw [be_length]; exact hj
    have f1 := be_at K 8 j hj
    have f2 := be_at ((K + 9223372036854775808) % 18446744073709551616) 8 j hj
    rw [List.getElem?_eq_getElem hb1, Option.getD_some] at f1
    rw [List.getElem?_eq_getElem hb2, Option.getD_some] at f2
    rw [List.getElem?_map, List.getElem?_map, List.getElem?_eq_getElem hb1, List.getElem?_eq_getElem hb2]
    by_cases hj0 : 0 = j
    · subst hj0
      rw [if_pos rfl, if_pos (by simp [be_length])]
      show some (Value.int .u8 _) = some (Value.int .u8 ((be ((K + 9223372036854775808) % 18446744073709551616) 8)[0].toNat : Int))
      rw [f2, key_top K hlt]
    · rw [if_neg hj0]
      rw [Option.map_some, Option.map_some, by8, by8, f1, f2, key_low K j hlt (by omega) (by omega)]
  · rw [if_neg (by omega), List.getElem?_eq_none (by rw [List.length_map, be_length]; omega), List.getElem?_eq_none (by rw [List.length_map, be_length]; omega)]

set_option maxHeartbeats 1000000 in
theorem refNumKey_any (n : Int) (w : World) (h0 : -9223372036854775808 ≤ n) (h1 : n ≤ 9223372036854775807) :
    Calls Tryd.prog 46 #[.int .i64 n] w fun e w' => ∃ g, e = .returned (.slice (some ⟨g, 0, none⟩) 8 8) ∧ w'.ownsRow w.heap.size 5 1 (.slice (some ⟨g, 0, none⟩) 8 8) 8 ((be (u64of (n + 9223372036854775808)) 8).map by8) ∧ Below w.heap.size w w' := by
  have HK := hid (be_key n)
  generalize (be (u64of (n + 9223372036854775808)) 8).map by8 = R at *
  go_enter Tryd.func46, Tryd.ntmps46
  go_wp2_with fail
  refine (refNum_any n w h0 h1).mono ?_
  rintro e w1 ⟨g, rfl, hown, hbel⟩
  have hb0 : 0 < (be (u64of n) 8).length := by rw [be_length]; omega
  have hc : w1.cell? ⟨g, 0, none⟩ = some (.int .u8 (((be (u64of n) 8)[0]?.getD 0).toNat : Int)) := by
    rw [hown.cellAt 0 (by omega), List.getElem?_map, List.getElem?_eq_getElem hb0]
    rfl
  have hf := hown.frozenAt 0
  have hx := xor_128 ((be (u64of n) 8)[0]?.getD 0)
  have hst := (hown.stored 0 (.int .u8 ((((be (u64of n) 8)[0]?.getD 0).toNat + 128) % 256 : Nat))).1
  rw [HK.out] at hst
  have hg := (hown.lt g rfl).1
  generalize (be (u64of n) 8)[0]?.getD 0 = d at *
  clear hb0 HK
  go_wp2
  go_ret
  exact ⟨g, rfl, hst, hbel.setCell hg _⟩

/-- The first byte turned: the number whose key it was. -/
theorem num_key (l : List UInt8) (h : l.length = 8) : i64of (num (l.set 0 (UInt8.ofNat ((l[0]?.getD 0).toNat + 128)))) = i64of (num l + 9223372036854775808) := by
  cases l with
  | nil => simp at h
  | cons c t =>
    have ht : t.length = 7 := by simpa using h
    have hc := c.toNat_lt
    have hl := num_lt t
    rw [ht] at hl
    rw [List.set_cons_zero, num_cons, num_cons, ht, List.getElem?_cons_zero, Option.getD_some, UInt8.toNat_ofNat', i64of, i64of, wrap64_eq, wrap64_eq]
    simp only [Nat.reducePow] at hc hl ⊢
    generalize c.toNat = d at *
    generalize num t = m at *
    omega

theorem set_by8 (l : List UInt8) (c : UInt8) : (l.map by8).set 0 (by8 c) = (l.set 0 c).map by8 := by
  rw [List.map_set]

theorem by8_turn (c : UInt8) : Value.int .u8 (((c.toNat : Int) + 128) % 256) = by8 (UInt8.ofNat (c.toNat + 128)) := by
  rw [by8, UInt8.toNat_ofNat']
  refine congrArg (Value.int .u8) ?_
  omega

end Go.Proofs.YthjgbcbgkafgjaaDoor
