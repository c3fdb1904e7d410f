/- Contracts of the document's own turn, not, ks, hs, expand. -/
import Derived.Test.YtomfhihhhfelfaaDoorKitD
import Derived.Deep.RegionHeld3
namespace Go.Proofs.YtomfhihhhfelfaaDoor
open Go.RowKit
set_option linter.unusedVariables false

/-- A number as a cell. -/
def iv (n : Nat) : Value := .int .i64 (n : Int)

set_option maxHeartbeats 1000000 in
theorem turn_any (x n : Nat) (w : World) (hx : x < 4294967296) (h1 : 1 ≤ n) (h2 : n ≤ 31) :
    Calls Tryd.prog 31 #[.int .i64 x, .int .i64 n] w fun e w' => e = .returned (.int .i64 (rot x n)) ∧ ∃ m, w' = w.drewN m := by
  have i1 : (0 : Int) ≤ (n : Int) := by omega
  have i2 : IntKind.i64.wrap (32 - (n : Int)) = ((32 - n : Nat) : Int) := by rw [IntKind.wrap_i64]; omega
  have i3 : (0 : Int) ≤ ((32 - n : Nat) : Int) := by omega
  go_enter Tryd.func31, Tryd.ntmps31
  go_wp2_with fail
  go_quiet (fail)
  go_wp2
  go_ret
  refine ⟨congrArg (fun y : Int => Ending.returned (Value.int .i64 y)) ?_, nq, rfl⟩
  have hp : x * 2 ^ (32 - n) < 9223372036854775808 := by
    have h3 : 2 ^ (32 - n) ≤ 2 ^ 31 := Nat.pow_le_pow_right (by omega) (by omega)
    have h4 : x * 2 ^ (32 - n) ≤ x * 2 ^ 31 := Nat.mul_le_mul_left _ h3
    simp only [Nat.reducePow] at h4
    omega
  have e1 : wrap64 ((x : Int) * 2 ^ (32 - n)) = ((x * 2 ^ (32 - n) : Nat) : Int) := by
    rw [show ((x : Int) * 2 ^ (32 - n)) = ((x * 2 ^ (32 - n) : Nat) : Int) from by simp]
    generalize x * 2 ^ (32 - n) = y at *
    unfold wrap64
    omega
  rw [e1, Int.tmod_eq_emod_of_nonneg (Int.natCast_nonneg _), show (((x * 2 ^ (32 - n) : Nat) : Int) % 4294967296) = ((x * 2 ^ (32 - n) % 4294967296 : Nat) : Int) from by omega, show ((x : Int) / 2 ^ n) = ((x / 2 ^ n : Nat) : Int) from by simp]
  have hd : x / 2 ^ n ≤ x := Nat.div_le_self _ _
  have hm := Nat.mod_lt (x * 2 ^ (32 - n)) (show 4294967296 > 0 by decide)
  rw [or64 _ _ (by omega) (by omega)]
  rfl

/-- The same, the number whatever is typed. -/
theorem turn_int (x : Nat) (m : Int) (w : World) (hx : x < 4294967296) (h1 : 1 ≤ m) (h2 : m ≤ 31) :
    Calls Tryd.prog 31 #[.int .i64 x, .int .i64 m] w fun e w' => e = .returned (.int .i64 (rot x m.toNat)) ∧ ∃ n, w' = w.drewN n := by
  have := turn_any x m.toNat w hx (by omega) (by omega)
  rwa [show ((m.toNat : Nat) : Int) = m by omega] at this

set_option maxHeartbeats 400000 in
theorem not_any (x : Nat) (w : World) (hx : x < 4294967296) :
    Calls Tryd.prog 32 #[.int .i64 x] w fun e w' => e = .returned (.int .i64 ((4294967295 - x : Nat) : Int)) ∧ w' = w := by
  go_enter Tryd.func32, Tryd.ntmps32
  go_wp2
  go_ret
  exact ⟨congrArg (fun y : Int => Ending.returned (Value.int .i64 y)) (by omega), rfl⟩

set_option maxRecDepth 100000 in
set_option maxHeartbeats 4000000 in
theorem ks_any (w : World) : Calls Tryd.prog 28 #[] w fun e w' => e = .returned (.slice (some ⟨w.heap.size, 0, none⟩) 64 64) ∧ w' = w.alloc (.cells (cubes.map iv).toArray 3) := by
  go_enter Tryd.func28, Tryd.ntmps28
  go_wp2
  go_ret
  exact ⟨rfl, rfl⟩

set_option maxRecDepth 100000 in
set_option maxHeartbeats 4000000 in
theorem hs_any (w : World) : Calls Tryd.prog 29 #[] w fun e w' => e = .returned (.slice (some ⟨w.heap.size, 0, none⟩) 8 8) ∧ w' = w.alloc (.cells #[iv start.a, iv start.b, iv start.c, iv start.d, iv start.e, iv start.f, iv start.g, iv start.h] 3) := by
  go_enter Tryd.func29, Tryd.ntmps29
  go_wp2
  go_ret
  exact ⟨rfl, rfl⟩

theorem spread_keeps (bs : List UInt8) (k j : Nat) (hj : j < 16 + k) : ∀ m, (spread bs (k + m)).getD j 0 = (spread bs k).getD j 0
  | 0 => rfl
  | m + 1 => by
    rw [show k + (m + 1) = (k + m) + 1 by omega, spread, List.getD_eq_getElem?_getD, List.getElem?_set_ne (by omega), ← List.getD_eq_getElem?_getD]
    exact spread_keeps bs k j hj m

theorem sched_low (bs : List UInt8) (t : Nat) (ht : t < 16) : (sched bs).getD t 0 = num ((bs.drop (4 * t)).take 4) := by
  have := spread_keeps bs 0 t (by omega) 48
  rw [Nat.zero_add] at this
  rw [sched, this, spread, List.getD_eq_getElem?_getD, part_at _ _ _ (by omega), Option.getD_some, show min 4 (64 - 4 * t) = 4 by omega]

theorem sched_high (bs : List UInt8) (t : Nat) (h1 : 16 ≤ t) (h2 : t < 64) : (sched bs).getD t 0 = (lo1 ((sched bs).getD (t - 2) 0) + (sched bs).getD (t - 7) 0 + lo0 ((sched bs).getD (t - 15) 0) + (sched bs).getD (t - 16) 0) % 4294967296 := by
  have hk : ∀ j, j < t → (sched bs).getD j 0 = (spread bs (t - 16)).getD j 0 := fun j hj => by
    have := spread_keeps bs (t - 16) j (by omega) (48 - (t - 16))
    rw [show t - 16 + (48 - (t - 16)) = 48 by omega] at this
    exact this
  have h0 : (sched bs).getD t 0 = nextWord (spread bs (t - 16)) t := by
    have := spread_keeps bs (t - 16 + 1) t (by omega) (48 - (t - 16 + 1))
    rw [show t - 16 + 1 + (48 - (t - 16 + 1)) = 48 by omega] at this
    rw [sched, this, spread, show 16 + (t - 16) = t by omega, List.getD_eq_getElem?_getD, List.getElem?_set_self (by rw [spread_length]; exact h2), Option.getD_some]
  rw [h0, nextWord, hk _ (by omega), hk _ (by omega), hk _ (by omega), hk _ (by omega)]

/-- The words, the first t of them laid. -/
def laidW (ws : List Nat) (t : Nat) : List Nat := ws.take t ++ List.replicate (64 - t) 0

theorem laidW_step (ws : List Nat) (t : Nat) (hl : ws.length = 64) (ht : t < 64) : ((laidW ws t).map iv).toArray.setIfInBounds t (iv (ws.getD t 0)) = ((laidW ws (t + 1)).map iv).toArray := by
  have hkl : (ws.take t).length = t := by simp; omega
  have hg : ws.getD t 0 = ws[t]'(by omega) := by rw [List.getD_eq_getElem?_getD, List.getElem?_eq_getElem (by omega), Option.getD_some]
  rw [List.setIfInBounds_toArray, ← List.map_set, laidW, laidW, List.set_append_right _ _ (by omega), hkl, Nat.sub_self, show 64 - t = (64 - (t + 1)) + 1 by omega, List.replicate_succ, List.set_cons_zero, List.take_succ_eq_append_getElem (by omega), hg, List.append_assoc]
  rfl

theorem laidW_at (ws : List Nat) (t j : Nat) (hl : ws.length = 64) (hj : j < t) (ht : t ≤ 64) : ((laidW ws t).map iv).toArray[j]? = some (.int .i64 (ws.getD j 0 : Nat)) := by
  have hkl : (ws.take t).length = t := by simp; omega
  rw [List.getElem?_toArray, List.getElem?_map, laidW, List.getElem?_append_left (by omega), List.getElem?_take, if_pos hj, List.getD_eq_getElem?_getD, List.getElem?_eq_getElem (by omega)]
  rfl

theorem laidW_zero (ws : List Nat) (t j : Nat) (hl : ws.length = 64) (hj : t ≤ j) (ht : j < 64) : ((laidW ws t).map iv).toArray[j]? = some (.int .i64 0) := by
  have hkl : (ws.take t).length = t := by simp; omega
  rw [List.getElem?_toArray, List.getElem?_map, laidW, List.getElem?_append_right (by omega), hkl, List.getElem?_replicate, if_pos (by omega)]
  rfl

theorem Tryd.infoInt : (Tryd.prog.info? 3).map (fun i => (i.zero, i.size, i.bytes)) = some (some (.int .i64 0), 1, 8) := by kernel_rfl

theorem made_ints (n : Nat) : madeCells #[Value.int .i64 0] n = (List.replicate n (Value.int .i64 0)).toArray := by
  apply Array.ext'
  rw [toList_madeCells_one]
end Go.Proofs.YtomfhihhhfelfaaDoor
