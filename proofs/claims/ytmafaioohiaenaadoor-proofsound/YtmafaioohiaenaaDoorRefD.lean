/- Contracts of the document's own Num, NumKey, TakeNum, TakeNumKey. -/
import Derived.Test.YtmafaioohiaenaaDoorCodec
import Derived.Deep.QuietTactic
import Derived.BigQuiet
import Derived.Test.YtmafaioohiaenaaDoorOfD
import Derived.Deep.RegionHeld3
namespace Go.Proofs.YtmafaioohiaenaaDoor
open Go.RowKit
set_option linter.unusedVariables false
set_option maxRecDepth 20000

set_option maxHeartbeats 1000000 in
theorem refTakeNum_some (b off c : Nat) (bs : List UInt8) (w : World) (hlen : 8 ≤ bs.length) (hcl : bs.length ≤ c) (hcm : c ≤ maxLen)
    (hcell : ∀ j, j < bs.length → w.cell? ⟨b, off + j, none⟩ = some (.int .u8 ((bs[j]?.getD 0).toNat : Int))) :
    Calls Tryd.prog 62 #[.slice (some ⟨b, off, none⟩) bs.length c] w fun e w' => e = .returned (.tuple #[.int .i64 (i64of (num (bs.take 8))), .int .i64 8, .int .i64 0]) ∧ w' = w := by
  unfold maxLen at hcm
  go_enter Tryd.func62, Tryd.ntmps62
  go_wp2_with fail
  go_loop [5, 6] (fun n i => ∃ k : Nat, k ≤ 8 ∧ i = .int .i64 k ∧ n = .int .i64 (i64of (num (bs.take k)))) (fun _ i => 8 - (intOf i).toNat)
  case atStart => exact ⟨0, by omega, rfl, by simp [num, i64of, wrap64_eq]⟩
  case round =>
    obtain ⟨k, hk, rfl, rfl⟩ := hrel
    by_cases hlt : k < 8
    · have hc := hcell k (by omega)
      have e := or_i64 (num (bs.take k)) (bs[k]?.getD 0)
      rw [← num_take bs k (by omega)] at e
      have HE := hid e
      clear e
      generalize bs[k]?.getD 0 = d at *
      go_wp2
      go_round
      case rel => exact ⟨k + 1, by omega, by go_num, congrArg (Value.int .i64) HE.out⟩
      case measure => simp [intOf]; omega
    · have hk8 : k = 8 := by omega
      subst hk8
      go_wp2
      go_ret3
      exact ⟨rfl, rfl⟩

theorem byte_eq (n : Int) (m : Nat) (hm : m ≤ 7) : n / 256 ^ m % 256 = ((u64of n / 256 ^ m % 256 : Nat) : Int) := by
  have h : (u64of n : Int) = n % 18446744073709551616 := by
    unfold u64of
    exact Int.toNat_of_nonneg (Int.emod_nonneg n (by decide))
  generalize u64of n = K at *
  have hc : m = 0 ∨ m = 1 ∨ m = 2 ∨ m = 3 ∨ m = 4 ∨ m = 5 ∨ m = 6 ∨ m = 7 := by omega
  rcases hc with rfl | rfl | rfl | rfl | rfl | rfl | rfl | rfl <;> simp only [Int.reducePow, Nat.reducePow] <;> omega

theorem bytes_of (n : Int) (ys : List Value) (hl : ys.length = 8) (h : ∀ j, j < 8 → ys[j]? = some (.int .u8 (n / 256 ^ (7 - j) % 256))) : ys = (be (u64of n) 8).map by8 := by
  apply List.ext_getElem?
  intro j
  by_cases hj : j < 8
  · have hb : j < (be (u64of n) 8).length := by rw [be_length]; exact hj
    have e := be_at (u64of n) 8 j hj
    rw [List.getElem?_eq_getElem hb, Option.getD_some] at e
    rw [h j hj, List.getElem?_map, List.getElem?_eq_getElem hb, byte_eq n _ (by omega)]
    show some (Value.int .u8 _) = some (Value.int .u8 ((be (u64of n) 8)[j].toNat : Int))
    rw [e, show 8 - 1 - j = 7 - j from by omega]
  · rw [List.getElem?_eq_none (by omega), List.getElem?_eq_none (by rw [List.length_map, be_length]; omega)]

set_option maxHeartbeats 1000000 in
theorem refNum_any (n : Int) (w : World) (h0 : -9223372036854775808 ≤ n) (h1 : n ≤ 9223372036854775807) :
    Calls Tryd.prog 38 #[.int .i64 n] w fun e w' => ∃ g, e = .returned (.slice (some ⟨g, 0, none⟩) 8 8) ∧ w'.ownsRow w.heap.size 5 1 (.slice (some ⟨g, 0, none⟩) 8 8) 8 ((be (u64of n) 8).map by8) ∧ Below w.heap.size w w' := by
  obtain ⟨i0, hi, hz0, hz1, hz2⟩ := info_parts Tryd.infoU8
  have hmk : ∀ u : World, (Instr.makeSlice 24 (.int .i64 8) (.int .i64 8)).run Tryd.prog u = .ok (.slice (some ⟨u.heap.size, 0, none⟩) 8 8) (u.alloc (.cells (zeros 8).toArray 5)) := fun u => by
    have h := run_make (P := Tryd.prog) u 24 5 i0 (.int .u8 0) Tryd.underlying24 hi hz0 .i64 .i64 8 8 (by omega) (by omega) (by rw [hz2]; omega) (by omega)
    rw [hz1, Nat.mul_one] at h
    rw [h]
    congr 3
    exact toArray_made _
  have hown0 : (w.alloc (.cells (zeros 8).toArray 5)).ownsRow w.heap.size 5 1 (.slice (some ⟨w.heap.size, 0, none⟩) 8 8) 8 (zeros 8) :=
    World.ownsRow_lit w (zeros 8).toArray 8 (Nat.le_refl _) (by unfold maxLen; omega) (by simp [zeros])
  have HO := hid hown0
  clear hown0
  generalize zeros 8 = Z at *
  go_enter Tryd.func38, Tryd.ntmps38
  go_wp2_with fail
  go_loopw [0, 4] (fun x i wr => ∃ (k : Nat) (ys : List Value), k ≤ 8 ∧ i = .int .i64 ((k : Int) - 1) ∧ x = .int .i64 (n / 256 ^ (8 - k)) ∧ wr.ownsRow w.heap.size 5 1 (.slice (some ⟨w.heap.size, 0, none⟩) 8 8) 8 ys ∧ Hid (∀ j, k ≤ j → j < 8 → ys[j]? = some (.int .u8 ((n / 256 ^ (7 - j)) % 256))) ∧ Below w.heap.size w wr) (fun _ i _ => (intOf i + 1).toNat)
  case atStart => exact ⟨8, Z, by omega, rfl, by simp, HO.out, fun j h1 h2 => by omega, (Below.refl _ _).alloc (Nat.le_refl _) _⟩
  case round =>
    obtain ⟨k, ys, hk, rfl, rfl, hown, HY, hbel⟩ := hrel
    rcases k with _ | k
    · have hys : ys = (be (u64of n) 8).map by8 := bytes_of n ys (by have := hown.1; omega) fun j hj => HY.out j (by omega) hj
      clear HY
      go_wp2
      go_ret
      exact ⟨w.heap.size, rfl, by rw [← hys]; exact hown, hbel⟩
    · have hl : ys.length = 8 := by have := hown.1; omega
      have hc : wr.cell? ⟨w.heap.size, k, none⟩ = some (ys[k]'(by omega)) := by rw [hown.cellAt k (by omega)]; exact List.getElem?_eq_getElem _
      have hf := hown.frozenAt k
      have hst := (hown.stored k (.int .u8 (n / 256 ^ (7 - k) % 256))).1
      go_wp2_with fail
      go_roundw
      case rel =>
        refine ⟨k, _, by omega, rfl, ?_, hst, ?_, hbel.setCell (Nat.le_refl _) _⟩
        · refine congrArg (Value.int .i64) ?_
          rw [Int.ediv_ediv_of_nonneg (Int.pow_nonneg (by omega)), ← Int.pow_succ, show (7 - k).succ = 8 - k from by omega]
        · intro j h1 h2
          rw [List.getElem?_set]
          by_cases hjk : k = j
          · subst hjk
            rw [if_pos rfl, if_pos (by omega)]
          · rw [if_neg hjk]; exact HY.out j (by omega) h2
      case measure => simp [intOf]

theorem refTakeNum_any (B : Nat) (v : Value) (bs : List UInt8) (w : World) (hsh : Shows B w v bs) :
    Calls Tryd.prog 62 #[v] w fun e w' => e = .returned (.tuple #[.int .i64 (tnum bs 0).1, .int .i64 (tnum bs 0).2.1, .int .i64 (tnum bs 0).2.2]) ∧ w' = w := by
  have hsh0 := hsh
  obtain ⟨a, c, rfl, h1, h2, hn, h3⟩ := hsh
  by_cases h8 : bs.length < 8
  · have HT := hid (show tnum bs 0 = (0, 0, 3) by rw [tnum, if_pos h8])
    go_enter Tryd.func62, Tryd.ntmps62
    go_wp2
    go_ret3
    exact ⟨by rw [HT.out]; rfl, rfl⟩
  · obtain ⟨b, off, rfl, hbB, hc⟩ := h3 (by intro e; simp [e] at h8)
    have HT : tnum bs 0 = (i64of (num (bs.take 8)), 8, 0) := by rw [tnum, if_neg h8]; rfl
    rw [HT]
    exact refTakeNum_some b off c bs w (by omega) h1 h2 hc

theorem xor_128 (c : UInt8) : bits .xor .u8 (c.toNat : Int) 128 = (((c.toNat + 128) % 256 : Nat) : Int) := by
  have h : ∀ n : Fin 256, bits .xor .u8 (n.val : Int) 128 = (((n.val + 128) % 256 : Nat) : Int) := by decide +kernel
  exact h ⟨c.toNat, c.toNat_lt⟩

theorem key_top (K : Nat) (h : K < 18446744073709551616) : (K + 9223372036854775808) % 18446744073709551616 / 256 ^ (8 - 1 - 0) % 256 = (K / 256 ^ (8 - 1 - 0) % 256 + 128) % 256 := by
  simp only [Nat.reduceSub, Nat.reducePow]
  omega

theorem key_low (K j : Nat) (h : K < 18446744073709551616) (h1 : 1 ≤ j) (h7 : j ≤ 7) : (K + 9223372036854775808) % 18446744073709551616 / 256 ^ (8 - 1 - j) % 256 = K / 256 ^ (8 - 1 - j) % 256 := by
  have hc : j = 1 ∨ j = 2 ∨ j = 3 ∨ j = 4 ∨ j = 5 ∨ j = 6 ∨ j = 7 := by omega
  rcases hc with rfl | rfl | rfl | rfl | rfl | rfl | rfl <;> simp only [Nat.reduceSub, Nat.reducePow] <;> omega

/-- The first byte turned: the number's key. -/
theorem be_key (n : Int) : ((be (u64of n) 8).map by8).set 0 (.int .u8 ((((be (u64of n) 8)[0]?.getD 0).toNat + 128) % 256 : Nat)) = (be (u64of (n + 9223372036854775808)) 8).map by8 := by
  have e0 := be_at (u64of n) 8 0 (by omega)
  rw [e0]
  have hk : u64of (n + 9223372036854775808) = (u64of n + 9223372036854775808) % 18446744073709551616 := by
    have h1 : (u64of n : Int) = n % 18446744073709551616 := Int.toNat_of_nonneg (Int.emod_nonneg n (by decide))
    have h2 : (u64of (n + 9223372036854775808) : Int) = (n + 9223372036854775808) % 18446744073709551616 := Int.toNat_of_nonneg (Int.emod_nonneg _ (by decide))
    generalize u64of n = A at *
    generalize u64of (n + 9223372036854775808) = C at *
    omega
  have hlt := u64of_lt n
  rw [hk]
  generalize u64of n = K at *
  apply List.ext_getElem?
  intro j
  rw [List.getElem?_set]
  by_cases hj : j < 8
  · have hb1 : j < (be K 8).length := by rw [be_length]; exact hj
    have hb2 : j < (be ((K + 9223372036854775808) % 18446744073709551616) 8).length := by rw [be_length]; exact hj
    have f1 := be_at K 8 j hj
    have f2 := be_at ((K + 9223372036854775808) % 18446744073709551616) 8 j hj
    rw [List.getElem?_eq_getElem hb1, Option.getD_some] at f1
    rw [List.getElem?_eq_getElem hb2, Option.getD_some] at f2
    rw [List.getElem?_map, List.getElem?_map, List.getElem?_eq_getElem hb1, List.getElem?_eq_getElem hb2]
    by_cases hj0 : 0 = j
    · subst hj0
      rw [if_pos rfl, if_pos (by simp [be_length])]
      show some (Value.int .u8 _) = some (Value.int .u8 ((be ((K + 9223372036854775808) % 18446744073709551616) 8)[0].toNat : Int))
      rw [f2, key_top K hlt]
    · rw [if_neg hj0]
      rw [Option.map_some, Option.map_some, by8, by8, f1, f2, key_low K j hlt (by omega) (by omega)]
  · rw [if_neg (by omega), List.getElem?_eq_none (by rw [List.length_map, be_length]; omega), List.getElem?_eq_none (by rw [List.length_map, be_length]; omega)]

/-- The first byte turned: the number whose key it was. -/
theorem num_key (l : List UInt8) (h : l.length = 8) : i64of (num (l.set 0 (UInt8.ofNat ((l[0]?.getD 0).toNat + 128)))) = i64of (num l + 9223372036854775808) := by
  cases l with
  | nil => simp at h
  | cons c t =>
    have ht : t.length = 7 := by simpa using h
    have hc := c.toNat_lt
    have hl := num_lt t
    rw [ht] at hl
    rw [List.set_cons_zero, num_cons, num_cons, ht, List.getElem?_cons_zero, Option.getD_some, UInt8.toNat_ofNat', i64of, i64of, wrap64_eq, wrap64_eq]
    simp only [Nat.reducePow] at hc hl ⊢
    generalize c.toNat = d at *
    generalize num t = m at *
    omega

theorem set_by8 (l : List UInt8) (c : UInt8) : (l.map by8).set 0 (by8 c) = (l.set 0 c).map by8 := by
  rw [List.map_set]

theorem by8_turn (c : UInt8) : Value.int .u8 (((c.toNat : Int) + 128) % 256) = by8 (UInt8.ofNat (c.toNat + 128)) := by
  rw [by8, UInt8.toNat_ofNat']
  refine congrArg (Value.int .u8) ?_
  omega

end Go.Proofs.YtmafaioohiaenaaDoor

/- Contracts of plain.Blob and of the document's own four, count, Blob, TakeBlob. -/

namespace Go.Proofs.YtmafaioohiaenaaDoor
open Go.RowKit
set_option linter.unusedVariables false
set_option maxRecDepth 20000

/-- Blob's answer: the error, the bytes. -/
def blobOf (p : List UInt8) : Nat × List UInt8 := if 65536 < p.length then (2, []) else (0, blob p)

theorem be4 (n : Nat) : be n 4 = [UInt8.ofNat (n / 16777216), UInt8.ofNat (n / 65536), UInt8.ofNat (n / 256), UInt8.ofNat n] := by
  simp [be]

theorem by8_mod (n : Nat) : by8 (UInt8.ofNat n) = .int .u8 ((n : Int) % 256) := by
  rw [by8, UInt8.toNat_ofNat']
  refine congrArg (Value.int .u8) ?_
  omega

set_option maxHeartbeats 1000000 in
theorem four_any (n : Nat) (w : World) (hn : n ≤ 65536) :
    Calls Tryd.prog 86 #[.int .i64 n] w fun e w' => ∃ v', e = .returned v' ∧ w'.ownsRow w.heap.size 5 1 v' 4 ((be n 4).map by8) ∧ Below w.heap.size w w' := by
  go_enter Tryd.func86, Tryd.ntmps86
  have e : [Value.int .u8 ((n : Int) / 16777216), .int .u8 ((n : Int) / 65536), .int .u8 ((n : Int) / 256 % 256), .int .u8 ((n : Int) % 256)] = (be n 4).map by8 := by
    rw [be4, List.map_cons, List.map_cons, List.map_cons, List.map_cons, List.map_nil, by8_mod, by8_mod, by8_mod, by8_mod]
    rw [show (n : Int) / 16777216 = ((n / 16777216 : Nat) : Int) % 256 from by omega, show (n : Int) / 65536 = ((n / 65536 : Nat) : Int) % 256 from by omega, show (n : Int) / 256 = ((n / 256 : Nat) : Int) from by omega]
  have HE := hid e
  clear e
  go_wp2
  go_ret
  refine ⟨_, rfl, ?_, (Below.refl _ _).alloc (Nat.le_refl _) _⟩
  rw [← HE.out]
  exact World.ownsRow_lit w _ 4 (Nat.le_refl _) (by unfold maxLen; omega) rfl

theorem num4 (a b c d : UInt8) : num [a, b, c, d] = a.toNat * 16777216 + b.toNat * 65536 + c.toNat * 256 + d.toNat := by
  simp [num]
  omega

set_option maxHeartbeats 1000000 in
theorem rcount_any (B : Nat) (v : Value) (bs : List UInt8) (w : World) (hsh : Shows B w v bs) (h4 : 4 ≤ bs.length) :
    Calls Tryd.prog 88 #[v] w fun e w' => e = .returned (.int .i64 (num (bs.take 4))) ∧ ∃ nq, w' = w.drewN nq := by
  obtain ⟨a, c, rfl, h1, h2, hn, h3⟩ := hsh
  obtain ⟨b, off, rfl, hbB, hc⟩ := h3 (by intro e; simp [e] at h4)
  have c0 := hc 0 (by omega)
  have c1 := hc 1 (by omega)
  have c2 := hc 2 (by omega)
  have c3 := hc 3 (by omega)
  rw [Nat.add_zero] at c0
  have e : bs.take 4 = [bs[0]?.getD 0, bs[1]?.getD 0, bs[2]?.getD 0, bs[3]?.getD 0] := by
    match bs, h4 with
    | x :: y :: z :: u :: r, _ => simp
  have HE := hid (show num (bs.take 4) = _ by rw [e, num4])
  have b0 := (bs[0]?.getD 0).toNat_lt
  have b1 := (bs[1]?.getD 0).toNat_lt
  have b2 := (bs[2]?.getD 0).toNat_lt
  have b3 := (bs[3]?.getD 0).toNat_lt
  clear hc h3 hn e
  generalize num (bs.take 4) = Q at *
  generalize (bs[0]?.getD 0).toNat = x at *
  generalize (bs[1]?.getD 0).toNat = y at *
  generalize (bs[2]?.getD 0).toNat = z at *
  generalize (bs[3]?.getD 0).toNat = u at *
  have l0 : (0 : Int) < (bs.length : Int) := by omega
  have l1 : (1 : Int) < (bs.length : Int) := by omega
  have l2 : (2 : Int) < (bs.length : Int) := by omega
  have l3 : (3 : Int) < (bs.length : Int) := by omega
  go_enter Tryd.func88, Tryd.ntmps88
  go_wp2_with fail
  go_quiet (fail)
  go_wp2
  go_ret
  refine ⟨?_, nq, rfl⟩
  rw [HE.out]
  refine congrArg (fun x : Int => Ending.returned (Value.int .i64 x)) ?_
  omega

set_option maxHeartbeats 1000000 in
theorem refBlob_any (B : Nat) (v : Value) (bs : List UInt8) (w : World) (hB : B ≤ w.heap.size) (hsh : Shows B w v bs) :
    Calls Tryd.prog 87 #[v] w fun e w' => ∃ v', e = .returned (.tuple #[v', .int .i64 (blobOf bs).1]) ∧ w'.ownsRow w.heap.size 5 1 v' (blobOf bs).2.length ((blobOf bs).2.map by8) ∧ Below w.heap.size w w' := by
  obtain ⟨i0, hi, hz0, hz1, hz2⟩ := info_parts Tryd.infoU8
  have hsh0 := hsh
  obtain ⟨a, c, rfl, h1, h2, hn, h3⟩ := hsh
  unfold maxLen at h2
  by_cases hl : 65536 < bs.length
  · have HT := hid (show blobOf bs = (2, []) by rw [blobOf, if_pos hl])
    go_enter Tryd.func87, Tryd.ntmps87
    go_wp2
    go_ret2
    exact ⟨_, by rw [HT.out]; rfl, by rw [HT.out]; exact World.ownsRow_nil _ _ _ _, Below.refl _ _⟩
  · have HT := hid (show blobOf bs = (0, blob bs) by rw [blobOf, if_neg hl])
    go_enter Tryd.func87, Tryd.ntmps87
    go_wp2_with fail
    refine (four_any bs.length w (by omega)).mono ?_
    rintro e w1 ⟨v1, rfl, hown1, hb1⟩
    have hsz1 := hb1.size
    have hsh1 := (hsh0.mono hB).below hb1
    go_wp2_with (first | (at_builtin; refine wpList_append_shows _ rfl _ _ 24 rfl w.heap.size 5 i0 Tryd.underlying24 hi hz0 hz1 hz2 _ _ _ rfl hown1 w.heap.size _ bs rfl hsh1 ?_ ?_ ?_) | fail)
    · omega
    · omega
    · intro v2 w2 hown2 hg2 _
      have hb2 := hb1.grown hg2 (by omega) (fun q hq => (hown1.lt q hq).1)
      clear hown1 hg2 hsh1
      go_wp2
      go_ret2
      refine ⟨_, by rw [HT.out]; rfl, ?_, hb2⟩
      rw [HT.out]
      show w2.ownsRow w.heap.size 5 1 v2 (blob bs).length ((blob bs).map by8)
      rw [blob_length]
      simpa [blob] using hown2

theorem Shows.drewN {B : Nat} {w : World} {v : Value} {bs : List UInt8} (h : Shows B w v bs) (n : Nat) : Shows B (w.drewN n) v bs := by
  obtain ⟨a, c, hv, h1, h2, hn, h3⟩ := h
  refine ⟨a, c, hv, h1, h2, hn, fun hne => ?_⟩
  obtain ⟨b, off, ha, hlt, hc⟩ := h3 hne
  exact ⟨b, off, ha, hlt, fun j hj => by rw [← hc j hj]; rfl⟩

theorem tcount_eq (bs : List UInt8) (most : Nat) (h : 4 ≤ bs.length) : tcount bs most = if most < num (bs.take 4) then (0, 2) else (num (bs.take 4), 0) := by
  rw [tcount, if_neg (by omega)]

set_option maxHeartbeats 2000000 in
theorem refTakeBlob_any (B : Nat) (v : Value) (bs : List UInt8) (w : World) (hsh : Shows B w v bs) (hB : B ≤ w.heap.size) :
    Calls Tryd.prog 89 #[v] w fun e w' => ∃ v', e = .returned (.tuple #[v', .int .i64 (tblob bs).2.2, .int .i64 (tblob bs).1]) ∧ ((tblob bs).1 = 0 → v' ≠ .slice none 0 0) ∧
      w'.ownsRow w.heap.size 5 1 v' (tblob bs).2.1.length ((tblob bs).2.1.map by8) ∧ Below w.heap.size w w' := by
  obtain ⟨i0, hi, hz0, hz1, hz2⟩ := info_parts Tryd.infoU8
  have hsh0 := hsh
  obtain ⟨a, c, rfl, h1, h2, hn, h3⟩ := hsh
  have h2' := h2
  unfold maxLen at h2
  by_cases h4 : bs.length < 4
  · have HT := hid (show tblob bs = (3, [], 0) by rw [tblob, tcount_short bs 65536 h4]; rfl)
    go_enter Tryd.func89, Tryd.ntmps89
    go_wp2
    go_ret3
    exact ⟨_, by rw [HT.out]; rfl, by rw [HT.out]; simp, by rw [HT.out]; exact World.ownsRow_nil _ _ _ _, Below.refl _ _⟩
  · obtain ⟨b, off, rfl, hbB, hc⟩ := h3 (by intro e; simp [e] at h4)
    have HC := hid (rcount_any B _ bs w hsh0 (by omega))
    have ht := tcount_eq bs 65536 (by omega)
    by_cases hm : 65536 < num (bs.take 4)
    · have HT := hid (show tblob bs = (2, [], 0) by rw [tblob, ht, if_pos hm]; rfl)
      clear ht
      generalize num (bs.take 4) = q at *
      go_enter Tryd.func89, Tryd.ntmps89
      go_wp2_with fail
      refine HC.out.mono ?_
      rintro e w1 ⟨rfl, nq, rfl⟩
      go_wp2
      go_ret3
      exact ⟨_, by rw [HT.out]; rfl, by rw [HT.out]; simp, by rw [HT.out]; exact World.ownsRow_nil _ _ _ _, below_drewN (Below.refl _ _) _⟩
    · rw [if_neg hm] at ht
      by_cases hlen : bs.length < 4 + num (bs.take 4)
      · have HT := hid (show tblob bs = (3, [], 0) by rw [tblob, ht]; simp [hlen])
        clear ht
        generalize num (bs.take 4) = q at *
        go_enter Tryd.func89, Tryd.ntmps89
        go_wp2_with fail
        refine HC.out.mono ?_
        rintro e w1 ⟨rfl, nq, rfl⟩
        go_wp2
        go_ret3
        exact ⟨_, by rw [HT.out]; rfl, by rw [HT.out]; simp, by rw [HT.out]; exact World.ownsRow_nil _ _ _ _, below_drewN (Below.refl _ _) _⟩
      · have HT := hid (show tblob bs = (0, (bs.drop 4).take (num (bs.take 4)), 4 + num (bs.take 4)) by rw [tblob, ht]; simp [hlen])
        clear ht
        generalize num (bs.take 4) = q at *
        have HQ := hid (show ((bs.drop 4).take q).length = q by simp; omega)
        by_cases hc4 : c = 4
        · have hq0 : q = 0 := by omega
          subst hq0
          subst hc4
          go_enter Tryd.func89, Tryd.ntmps89
          go_wp2_with fail
          refine HC.out.mono ?_
          rintro e w1 ⟨rfl, nq, rfl⟩
          have hmid := Shows.empty B ((w.drewN nq).alloc (.cells #[] 5)) ⟨b, off, none⟩ 0 (by unfold maxLen; omega)
          go_wp2_with (first | (at_builtin; refine wpList_append_shows _ rfl (.tmp 18) (.tmp 22) 24 rfl w.heap.size 5 i0 Tryd.underlying24 hi hz0 hz1 hz2 _ 0 [] rfl (World.ownsRow_made (w.drewN nq) #[] 0 (Nat.le_refl _) (by unfold maxLen; omega) rfl) B _ [] rfl hmid ?_ ?_ ?_) | fail)
          · simp
          · exact Nat.le_trans (Nat.le_refl _) (by show w.heap.size ≤ ((w.drewN nq).heap.push _).size; rw [Array.size_push]; exact Nat.le_succ _)
          · intro v2 w2 hown2 hg2 hnil
            have hb2 : Below w.heap.size w w2 := ((below_drewN (Below.refl _ _) nq).alloc (Nat.le_refl _) _).grown hg2 (by show w.heap.size ≤ ((w.drewN nq).heap.push _).size; rw [Array.size_push]; exact Nat.le_succ _) (fun k hk => by have hk' : some w.heap.size = some k := hk; cases hk'; exact Nat.le_refl _)
            have hne : v2 ≠ .slice none 0 0 := fun e => hnil e
            clear hg2 hnil
            go_wp2
            go_ret3
            exact ⟨_, by rw [HT.out]; rfl, fun _ => hne, by rw [HT.out]; exact hown2, hb2⟩
        · have hmid := hsh0.mid 4 q (by omega)
          have HM := hid hmid
          clear hmid
          go_enter Tryd.func89, Tryd.ntmps89
          go_wp2_with fail
          refine HC.out.mono ?_
          rintro e w1 ⟨rfl, nq, rfl⟩
          have hmid2 : Shows B ((w.drewN nq).alloc (.cells #[] 5)) (.slice (some ⟨b, off + 4, none⟩) (4 + q - 4) (c - 4)) ((bs.drop 4).take q) := by
            rw [Nat.add_sub_cancel_left]
            exact (HM.out.drewN nq).alloc hB _
          have HM2 := hid hmid2
          clear hmid2
          go_wp2_with (first | (at_builtin; refine wpList_append_shows _ rfl (.tmp 18) (.tmp 22) 24 rfl w.heap.size 5 i0 Tryd.underlying24 hi hz0 hz1 hz2 _ 0 [] rfl (World.ownsRow_made (w.drewN nq) #[] 0 (Nat.le_refl _) (by unfold maxLen; omega) rfl) B _ ((bs.drop 4).take q) rfl HM2.out ?_ ?_ ?_) | fail)
          · have := HQ.out; omega
          · exact Nat.le_trans (Nat.le_refl _) (by show w.heap.size ≤ ((w.drewN nq).heap.push _).size; rw [Array.size_push]; exact Nat.le_succ _)
          · intro v2 w2 hown2 hg2 hnil
            have hb2 : Below w.heap.size w w2 := ((below_drewN (Below.refl _ _) nq).alloc (Nat.le_refl _) _).grown hg2 (by show w.heap.size ≤ ((w.drewN nq).heap.push _).size; rw [Array.size_push]; exact Nat.le_succ _) (fun k hk => by have hk' : some w.heap.size = some k := hk; cases hk'; exact Nat.le_refl _)
            have hne : v2 ≠ .slice none 0 0 := fun e => by have := hnil e; simp at this
            clear hg2 hnil
            go_wp2
            go_ret3
            exact ⟨_, by rw [HT.out]; rfl, fun _ => hne, by rw [HT.out]; simpa using hown2, hb2⟩
end Go.Proofs.YtmafaioohiaenaaDoor

/- Contract of the document's own Row. -/

namespace Go.Proofs.YtmafaioohiaenaaDoor
open Go.RowKit
set_option linter.unusedVariables false
set_option maxRecDepth 20000

set_option maxHeartbeats 2000000 in
theorem refRow_short (B : Nat) (a : Option Addr) (c : Nat) (rows : List (List UInt8)) (w : World) (hB : B ≤ w.heap.size) (hL : Lists B w (.slice a rows.length c) rows) (h : rows.length ≤ 4096) :
    Calls Tryd.prog 60 #[.slice a rows.length c] w fun e w' => ∃ v', e = .returned (.tuple #[v', .int .i64 (rowOf rows).1]) ∧ w'.ownsRow w.heap.size 5 1 v' (rowOf rows).2.length ((rowOf rows).2.map by8) ∧ Below w.heap.size w w' := by
  obtain ⟨i0, hi, hz0, hz1, hz2⟩ := info_parts Tryd.infoU8
  have HL := hid hL
  clear hL
  go_enter Tryd.func60, Tryd.ntmps60
  go_wp2_with fail
  refine (four_any rows.length w (by omega)).mono ?_
  rintro e w1 ⟨v1, rfl, hown1, hb1⟩
  have hsz1 := hb1.size
  go_wp2_with fail
  go_loopw [4, 5] (fun u i wr => ∃ k : Nat, k ≤ rows.length ∧ i = .int .i64 k ∧ (blobs (rows.take k)).length ≤ k * 65540 ∧ wr.ownsRow w.heap.size 5 1 u (4 + (blobs (rows.take k)).length) ((be rows.length 4 ++ blobs (rows.take k)).map by8) ∧ Below w.heap.size w wr ∧ Hid (∀ m, m < k → (rows[m]?.getD []).length ≤ 65536)) (fun _ i _ => rows.length - (intOf i).toNat)
  case atStart => exact ⟨0, Nat.zero_le _, rfl, by simp [blobs], by simpa [blobs] using hown1, hb1, fun m hm => by omega⟩
  case round =>
    obtain ⟨k, hk, rfl, hbl, hown, hbel, HF⟩ := hrel
    have hszr := hbel.size
    by_cases hlt : k < rows.length
    · obtain ⟨b, off, ak, ck, rfl, hcell, hsh⟩ := (HL.out.below (hbel.mono hB)).at k hlt
      by_cases hbig : 65536 < (rows[k]?.getD []).length
      · have hro : rowOf rows = (2, []) := by rw [rowOf, if_pos (.inr ⟨k, hlt, hbig⟩)]
        have HR := hid hro
        have hb2 : blobOf (rows[k]?.getD []) = (2, []) := by rw [blobOf, if_pos hbig]
        have HB2 := hid hb2
        have HC := hid (refBlob_any B _ (rows[k]?.getD []) wr (by omega) hsh)
        rw [hb2] at HC
        clear hro hb2 hsh hbig
        generalize rows[k]?.getD [] = r at *
        go_wp2_with fail
        refine HC.out.mono ?_
        rintro e w2 ⟨v2, rfl, _, hbel2⟩
        go_wp2
        go_ret2
        exact ⟨_, by rw [HR.out]; rfl, by rw [HR.out]; exact World.ownsRow_nil _ _ _ _, hbel.trans (hbel2.mono hszr)⟩
      · have hb2 : blobOf (rows[k]?.getD []) = (0, blob (rows[k]?.getD [])) := by rw [blobOf, if_neg hbig]
        have HC := hid (refBlob_any B _ (rows[k]?.getD []) wr (by omega) hsh)
        rw [hb2] at HC
        have HBT := hid (blobs_take rows k hlt)
        have HBL := hid (blob_length (rows[k]?.getD []))
        have hle : (rows[k]?.getD []).length ≤ 65536 := by omega
        have HFN : Hid (∀ m, m < k + 1 → (rows[m]?.getD []).length ≤ 65536) := fun m hm => by
          rcases Nat.lt_or_ge m k with h' | h'
          · exact HF.out m h'
          · rw [show m = k by omega]; exact hle
        clear hb2 hsh hbig
        generalize rows[k]?.getD [] = r at *
        go_wp2_with fail
        refine HC.out.mono ?_
        rintro e w2 ⟨v2, rfl, hown2, hbel2⟩
        have hsz2 := hbel2.size
        have hown' := ownsRow_below hown hbel2
        have hsh2 := (shows_of_owns hown2).2
        go_wp2_with (first | (at_builtin; refine wpList_append_shows _ rfl (.tmp 31) (.tmp 32) 24 rfl w.heap.size 5 i0 Tryd.underlying24 hi hz0 hz1 hz2 _ _ _ rfl hown' w2.heap.size _ (blob r) rfl hsh2 ?_ ?_ ?_) | fail)
        · have := HBL.out; omega
        · omega
        · intro v3 w3 hown3 hg3 _
          have hb3 : Below w.heap.size w w3 := (hbel.trans (hbel2.mono hszr)).grown hg3 (by omega) (fun q hq => (hown'.lt q hq).1)
          clear hown hown' hown2 hsh2 hg3 hbel hbel2 HC
          go_wp2
          go_roundw
          case rel =>
            refine ⟨k + 1, by omega, by go_num, ?_, ?_, hb3, HFN⟩
            · rw [HBT.out, List.length_append]
              have := HBL.out
              omega
            · rw [HBT.out, List.length_append, ← Nat.add_assoc, ← List.append_assoc, List.map_append (l₂ := blob r)]
              exact hown3
          case measure => simp [intOf]; omega
    · have hkl : k = rows.length := by omega
      have htk : rows.take k = rows := List.take_of_length_le (by omega)
      rw [htk] at hown
      have hro : rowOf rows = (0, rowBytes rows) := by
        rw [rowOf, if_neg]
        rintro (h1 | ⟨m, h1, h2⟩)
        · omega
        · have := HF.out m (by omega)
          omega
      have HR := hid hro
      clear htk hro
      go_wp2
      go_ret2
      refine ⟨_, by rw [HR.out]; rfl, ?_, hbel⟩
      rw [HR.out]
      show wr.ownsRow w.heap.size 5 1 _ (rowBytes rows).length ((rowBytes rows).map by8)
      have e : (rowBytes rows).length = 4 + (blobs rows).length := by simp [rowBytes, be_length]
      rw [e]
      exact hown

set_option maxHeartbeats 1000000 in
theorem refRow_long (a : Option Addr) (l c : Nat) (w : World) (h : 4096 < l) (hl : l ≤ 9223372036854775807) :
    Calls Tryd.prog 60 #[.slice a l c] w fun e w' => e = .returned (.tuple #[.slice none 0 0, .int .i64 2]) ∧ w' = w := by
  go_enter Tryd.func60, Tryd.ntmps60
  go_wp2
  go_ret2
  exact ⟨rfl, rfl⟩

theorem refRow_any (B : Nat) (v : Value) (rows : List (List UInt8)) (w : World) (hB : B ≤ w.heap.size) (hL : Lists B w v rows) :
    Calls Tryd.prog 60 #[v] w fun e w' => ∃ v', e = .returned (.tuple #[v', .int .i64 (rowOf rows).1]) ∧ w'.ownsRow w.heap.size 5 1 v' (rowOf rows).2.length ((rowOf rows).2.map by8) ∧ Below w.heap.size w w' := by
  have hL0 := hL
  obtain ⟨a, c, vs, rfl, h1, h2, _⟩ := hL
  by_cases hl : rows.length ≤ 4096
  · exact refRow_short B a c rows w hB hL0 hl
  · have hr3 : rowOf rows = (2, []) := by rw [rowOf, if_pos (.inl (by omega))]
    rw [hr3]
    refine (refRow_long a rows.length c w (by omega) (by unfold maxLen at h2; omega)).mono fun e w' ⟨he, hw⟩ => ?_
    subst he hw
    exact ⟨_, rfl, World.ownsRow_nil _ _ _ _, Below.refl _ _⟩
end Go.Proofs.YtmafaioohiaenaaDoor

/- Contracts of the document's own turn, not, ks, hs, expand. -/

namespace Go.Proofs.YtmafaioohiaenaaDoor
open Go.RowKit
set_option linter.unusedVariables false
set_option maxRecDepth 20000

/-- A number as a cell. -/
def iv (n : Nat) : Value := .int .i64 (n : Int)

set_option maxHeartbeats 1000000 in
theorem turn_any (x n : Nat) (w : World) (hx : x < 4294967296) (h1 : 1 ≤ n) (h2 : n ≤ 31) :
    Calls Tryd.prog 42 #[.int .i64 x, .int .i64 n] w fun e w' => e = .returned (.int .i64 (rot x n)) ∧ ∃ m, w' = w.drewN m := by
  have i1 : (0 : Int) ≤ (n : Int) := by omega
  have i2 : IntKind.i64.wrap (32 - (n : Int)) = ((32 - n : Nat) : Int) := by rw [IntKind.wrap_i64]; omega
  have i3 : (0 : Int) ≤ ((32 - n : Nat) : Int) := by omega
  go_enter Tryd.func42, Tryd.ntmps42
  go_wp2_with fail
  go_quiet (fail)
  go_wp2
  go_ret
  refine ⟨congrArg (fun y : Int => Ending.returned (Value.int .i64 y)) ?_, nq, rfl⟩
  have hp : x * 2 ^ (32 - n) < 9223372036854775808 := by
    have h3 : 2 ^ (32 - n) ≤ 2 ^ 31 := Nat.pow_le_pow_right (by omega) (by omega)
    have h4 : x * 2 ^ (32 - n) ≤ x * 2 ^ 31 := Nat.mul_le_mul_left _ h3
    simp only [Nat.reducePow] at h4
    omega
  have e1 : wrap64 ((x : Int) * 2 ^ (32 - n)) = ((x * 2 ^ (32 - n) : Nat) : Int) := by
    rw [show ((x : Int) * 2 ^ (32 - n)) = ((x * 2 ^ (32 - n) : Nat) : Int) from by simp]
    generalize x * 2 ^ (32 - n) = y at *
    unfold wrap64
    omega
  rw [e1, Int.tmod_eq_emod_of_nonneg (Int.natCast_nonneg _), show (((x * 2 ^ (32 - n) : Nat) : Int) % 4294967296) = ((x * 2 ^ (32 - n) % 4294967296 : Nat) : Int) from by omega, show ((x : Int) / 2 ^ n) = ((x / 2 ^ n : Nat) : Int) from by simp]
  have hd : x / 2 ^ n ≤ x := Nat.div_le_self _ _
  have hm := Nat.mod_lt (x * 2 ^ (32 - n)) (show 4294967296 > 0 by decide)
  rw [or64 _ _ (by omega) (by omega)]
  rfl

/-- The same, the number whatever is typed. -/
theorem turn_int (x : Nat) (m : Int) (w : World) (hx : x < 4294967296) (h1 : 1 ≤ m) (h2 : m ≤ 31) :
    Calls Tryd.prog 42 #[.int .i64 x, .int .i64 m] w fun e w' => e = .returned (.int .i64 (rot x m.toNat)) ∧ ∃ n, w' = w.drewN n := by
  have := turn_any x m.toNat w hx (by omega) (by omega)
  rwa [show ((m.toNat : Nat) : Int) = m by omega] at this

set_option maxHeartbeats 400000 in
theorem not_any (x : Nat) (w : World) (hx : x < 4294967296) :
    Calls Tryd.prog 43 #[.int .i64 x] w fun e w' => e = .returned (.int .i64 ((4294967295 - x : Nat) : Int)) ∧ w' = w := by
  go_enter Tryd.func43, Tryd.ntmps43
  go_wp2
  go_ret
  exact ⟨congrArg (fun y : Int => Ending.returned (Value.int .i64 y)) (by omega), rfl⟩

set_option maxRecDepth 100000 in
set_option maxHeartbeats 4000000 in
theorem ks_any (w : World) : Calls Tryd.prog 39 #[] w fun e w' => e = .returned (.slice (some ⟨w.heap.size, 0, none⟩) 64 64) ∧ w' = w.alloc (.cells (cubes.map iv).toArray 3) := by
  go_enter Tryd.func39, Tryd.ntmps39
  go_wp2
  go_ret
  exact ⟨rfl, rfl⟩

set_option maxRecDepth 100000 in
set_option maxHeartbeats 4000000 in
theorem hs_any (w : World) : Calls Tryd.prog 40 #[] w fun e w' => e = .returned (.slice (some ⟨w.heap.size, 0, none⟩) 8 8) ∧ w' = w.alloc (.cells #[iv start.a, iv start.b, iv start.c, iv start.d, iv start.e, iv start.f, iv start.g, iv start.h] 3) := by
  go_enter Tryd.func40, Tryd.ntmps40
  go_wp2
  go_ret
  exact ⟨rfl, rfl⟩

theorem spread_keeps (bs : List UInt8) (k j : Nat) (hj : j < 16 + k) : ∀ m, (spread bs (k + m)).getD j 0 = (spread bs k).getD j 0
  | 0 => rfl
  | m + 1 => by
    rw [show k + (m + 1) = (k + m) + 1 by omega, spread, List.getD_eq_getElem?_getD, List.getElem?_set_ne (by omega), ← List.getD_eq_getElem?_getD]
    exact spread_keeps bs k j hj m

theorem sched_low (bs : List UInt8) (t : Nat) (ht : t < 16) : (sched bs).getD t 0 = num ((bs.drop (4 * t)).take 4) := by
  have := spread_keeps bs 0 t (by omega) 48
  rw [Nat.zero_add] at this
  rw [sched, this, spread, List.getD_eq_getElem?_getD, part_at _ _ _ (by omega), Option.getD_some, show min 4 (64 - 4 * t) = 4 by omega]

theorem sched_high (bs : List UInt8) (t : Nat) (h1 : 16 ≤ t) (h2 : t < 64) : (sched bs).getD t 0 = (lo1 ((sched bs).getD (t - 2) 0) + (sched bs).getD (t - 7) 0 + lo0 ((sched bs).getD (t - 15) 0) + (sched bs).getD (t - 16) 0) % 4294967296 := by
  have hk : ∀ j, j < t → (sched bs).getD j 0 = (spread bs (t - 16)).getD j 0 := fun j hj => by
    have := spread_keeps bs (t - 16) j (by omega) (48 - (t - 16))
    rw [show t - 16 + (48 - (t - 16)) = 48 by omega] at this
    exact this
  have h0 : (sched bs).getD t 0 = nextWord (spread bs (t - 16)) t := by
    have := spread_keeps bs (t - 16 + 1) t (by omega) (48 - (t - 16 + 1))
    rw [show t - 16 + 1 + (48 - (t - 16 + 1)) = 48 by omega] at this
    rw [sched, this, spread, show 16 + (t - 16) = t by omega, List.getD_eq_getElem?_getD, List.getElem?_set_self (by rw [spread_length]; exact h2), Option.getD_some]
  rw [h0, nextWord, hk _ (by omega), hk _ (by omega), hk _ (by omega), hk _ (by omega)]

/-- The words, the first t of them laid. -/
def laidW (ws : List Nat) (t : Nat) : List Nat := ws.take t ++ List.replicate (64 - t) 0

theorem laidW_step (ws : List Nat) (t : Nat) (hl : ws.length = 64) (ht : t < 64) : ((laidW ws t).map iv).toArray.setIfInBounds t (iv (ws.getD t 0)) = ((laidW ws (t + 1)).map iv).toArray := by
  have hkl : (ws.take t).length = t := by simp; omega
  have hg : ws.getD t 0 = ws[t]'(by omega) := by rw [List.getD_eq_getElem?_getD, List.getElem?_eq_getElem (by omega), Option.getD_some]
  rw [List.setIfInBounds_toArray, ← List.map_set, laidW, laidW, List.set_append_right _ _ (by omega), hkl, Nat.sub_self, show 64 - t = (64 - (t + 1)) + 1 by omega, List.replicate_succ, List.set_cons_zero, List.take_succ_eq_append_getElem (by omega), hg, List.append_assoc]
  rfl

theorem laidW_at (ws : List Nat) (t j : Nat) (hl : ws.length = 64) (hj : j < t) (ht : t ≤ 64) : ((laidW ws t).map iv).toArray[j]? = some (.int .i64 (ws.getD j 0 : Nat)) := by
  have hkl : (ws.take t).length = t := by simp; omega
  rw [List.getElem?_toArray, List.getElem?_map, laidW, List.getElem?_append_left (by omega), List.getElem?_take, if_pos hj, List.getD_eq_getElem?_getD, List.getElem?_eq_getElem (by omega)]
  rfl

theorem laidW_zero (ws : List Nat) (t j : Nat) (hl : ws.length = 64) (hj : t ≤ j) (ht : j < 64) : ((laidW ws t).map iv).toArray[j]? = some (.int .i64 0) := by
  have hkl : (ws.take t).length = t := by simp; omega
  rw [List.getElem?_toArray, List.getElem?_map, laidW, List.getElem?_append_right (by omega), hkl, List.getElem?_replicate, if_pos (by omega)]
  rfl

theorem Tryd.infoInt : (Tryd.prog.info? 3).map (fun i => (i.zero, i.size, i.bytes)) = some (some (.int .i64 0), 1, 8) := by kernel_rfl

theorem made_ints (n : Nat) : madeCells #[Value.int .i64 0] n = (List.replicate n (Value.int .i64 0)).toArray := by
  apply Array.ext'
  rw [toList_madeCells_one]
end Go.Proofs.YtmafaioohiaenaaDoor

/- Contract of the document's own expand. -/

namespace Go.Proofs.YtmafaioohiaenaaDoor
open Go.RowKit
set_option linter.unusedVariables false
set_option maxRecDepth 20000

set_option maxRecDepth 100000 in
theorem word_bytes (b0 b1 b2 b3 : Nat) (h0 : b0 < 256) (h1 : b1 < 256) (h2 : b2 < 256) (h3 : b3 < 256) :
    ((b0 * 16777216 ||| b1 * 65536) ||| b2 * 256) ||| b3 = b0 * 16777216 + b1 * 65536 + b2 * 256 + b3 := by
  have e1 : b0 * 16777216 ||| b1 * 65536 = b0 * 16777216 + b1 * 65536 := by
    have := Nat.shiftLeft_add_eq_or_of_lt (i := 24) (b := b1 * 65536) (by omega) b0
    rw [Nat.shiftLeft_eq] at this
    exact this.symm
  have e2 : (b0 * 16777216 + b1 * 65536) ||| b2 * 256 = b0 * 16777216 + b1 * 65536 + b2 * 256 := by
    have := Nat.shiftLeft_add_eq_or_of_lt (i := 16) (b := b2 * 256) (by omega) (b0 * 256 + b1)
    rw [Nat.shiftLeft_eq, show (2 : Nat) ^ 16 = 65536 from rfl, show (b0 * 256 + b1) * 65536 = b0 * 16777216 + b1 * 65536 by rw [Nat.add_mul, Nat.mul_assoc]] at this
    exact this.symm
  have e3 : (b0 * 16777216 + b1 * 65536 + b2 * 256) ||| b3 = b0 * 16777216 + b1 * 65536 + b2 * 256 + b3 := by
    have := Nat.shiftLeft_add_eq_or_of_lt (i := 8) (b := b3) (by omega) (b0 * 65536 + b1 * 256 + b2)
    rw [Nat.shiftLeft_eq, show (2 : Nat) ^ 8 = 256 from rfl, show (b0 * 65536 + b1 * 256 + b2) * 256 = b0 * 16777216 + b1 * 65536 + b2 * 256 by rw [Nat.add_mul, Nat.add_mul, Nat.mul_assoc, Nat.mul_assoc]] at this
    exact this.symm
  rw [e1, e2, e3]

theorem off_ne (g a b : Nat) (h : ¬ a = b) : (⟨g, a, none⟩ : Addr) ≠ ⟨g, b, none⟩ := fun e => h (by injection e)

theorem sum4 (a b c d : Nat) (ha : a < 4294967296) (hb : b < 4294967296) (hc : c < 4294967296) (hd : d < 4294967296) :
    (IntKind.i64.wrap (IntKind.i64.wrap (IntKind.i64.wrap ((a : Int) + (b : Int)) + (c : Int)) + (d : Int))).tmod 4294967296 = (((a + b + c + d) % 4294967296 : Nat) : Int) := by
  have fit : ∀ n : Nat, n < 4611686018427387904 → IntKind.i64.wrap (n : Int) = (n : Int) := fun n hn => i64_fit n (by omega) (by simp only [Int.reducePow]; omega)
  rw [show (a : Int) + (b : Int) = ((a + b : Nat) : Int) from by omega, fit _ (by omega), show ((a + b : Nat) : Int) + (c : Int) = ((a + b + c : Nat) : Int) from by omega, fit _ (by omega), show ((a + b + c : Nat) : Int) + (d : Int) = ((a + b + c + d : Nat) : Int) from by omega, fit _ (by omega), Int.tmod_eq_emod_of_nonneg (Int.natCast_nonneg _)]
  omega

set_option maxRecDepth 100000 in
set_option maxHeartbeats 16000000 in
theorem expand_some (b off c : Nat) (bs : List UInt8) (w : World) (hl : bs.length = 64) (hb : b < w.heap.size) (hc : 64 ≤ c) (hcm : c ≤ maxLen)
    (hcell : ∀ j, j < 64 → w.cell? ⟨b, off + j, none⟩ = some (.int .u8 ((bs[j]?.getD 0).toNat : Int))) :
    Calls Tryd.prog 41 #[.slice (some ⟨b, off, none⟩) 64 c] w fun e w' => e = .returned (.slice (some ⟨w.heap.size, 0, none⟩) 64 64) ∧ w'.heap[w.heap.size]? = some (.cells ((sched bs).map iv).toArray 3 (0, 0)) ∧ Below w.heap.size w w' := by
  obtain ⟨i0, hi, hz0, hz1, hz2⟩ := info_parts Tryd.infoInt
  unfold maxLen at hcm
  have hmk : ∀ u : World, (Instr.makeSlice 69 (.int .i64 64) (.int .i64 64)).run Tryd.prog u = .ok (.slice (some ⟨u.heap.size, 0, none⟩) 64 64) (u.alloc (.cells (List.replicate 64 (Value.int .i64 0)).toArray 3)) := fun u => by
    have h := run_make (P := Tryd.prog) u 69 3 i0 (.int .i64 0) Tryd.underlying69 hi hz0 .i64 .i64 64 64 (by omega) (by omega) (by rw [hz2]; decide) (by omega)
    rw [hz1, show (64 : Int).toNat = 64 from rfl, Nat.mul_one] at h
    rw [h]
    congr 3
    exact made_ints _
  have hsl : (sched bs).length = 64 := spread_length bs 48
  have HSL := hid hsl
  have HLT : Hid (∀ j, (sched bs).getD j 0 < 4294967296) := hid (getD_lt (spread_lt bs 48))
  have HLO := hid (sched_low bs)
  have HHI := hid (sched_high bs)
  have hnew := heap_alloc_new w (.cells (List.replicate 64 (Value.int .i64 0)).toArray 3)
  have hbn : Below w.heap.size w (w.alloc (.cells (List.replicate 64 (Value.int .i64 0)).toArray 3)) := (Below.refl _ _).alloc (Nat.le_refl _) _
  have HN : Hid ((w.alloc (.cells (List.replicate 64 (Value.int .i64 0)).toArray 3)).heap[w.heap.size]? = some (.cells ((laidW (sched bs) 0).map iv).toArray 3 (0, 0))) := hid (by rw [hnew]; simp [laidW, iv])
  have HB := hid hbn
  clear hnew hbn hsl
  generalize (List.replicate 64 (Value.int .i64 0)).toArray = Z at *
  generalize sched bs = ws at *
  go_enter Tryd.func41, Tryd.ntmps41
  go_wp2_with fail
  generalize w.alloc _ = w0 at *
  go_loopw [4] (fun i wr => ∃ t : Nat, t ≤ 64 ∧ i = .int .i64 t ∧ Hid (wr.heap[w.heap.size]? = some (.cells ((laidW ws t).map iv).toArray 3 (0, 0))) ∧ Below w.heap.size w wr) (fun i _ => 64 - (intOf i).toNat)
  case atStart => exact ⟨0, Nat.zero_le _, rfl, HN, HB.out⟩
  case round =>
    clear HN HB hmk
    obtain ⟨t, ht, rfl, HR, hbr⟩ := hrel
    by_cases hlt : t < 64
    · have hc0 := (cell_of_row wr _ t _ _ _ HR.out).trans (laidW_zero ws t t HSL.out (Nat.le_refl _) hlt)
      have hfz : wr.frozen? ⟨w.heap.size, t, none⟩ = false := frozen_of_row wr _ _ _ _ HR.out
      by_cases h16 : t < 16
      · have k0 : wr.cell? ⟨b, off + 4 * t, none⟩ = _ := (hbr.cell (p := ⟨b, off + 4 * t, none⟩) hb).trans (hcell (4 * t) (by omega))
        have k1 : wr.cell? ⟨b, off + (4 * t + 1), none⟩ = _ := (hbr.cell (p := ⟨b, off + (4 * t + 1), none⟩) hb).trans (hcell (4 * t + 1) (by omega))
        have k2 : wr.cell? ⟨b, off + (4 * t + 2), none⟩ = _ := (hbr.cell (p := ⟨b, off + (4 * t + 2), none⟩) hb).trans (hcell (4 * t + 2) (by omega))
        have k3 : wr.cell? ⟨b, off + (4 * t + 3), none⟩ = _ := (hbr.cell (p := ⟨b, off + (4 * t + 3), none⟩) hb).trans (hcell (4 * t + 3) (by omega))
        have y0 := (bs[4 * t]?.getD 0).toNat_lt
        have y1 := (bs[4 * t + 1]?.getD 0).toNat_lt
        have y2 := (bs[4 * t + 2]?.getD 0).toNat_lt
        have y3 := (bs[4 * t + 3]?.getD 0).toNat_lt
        have HW : Hid (ws.getD t 0 = (bs[4 * t]?.getD 0).toNat * 16777216 + (bs[4 * t + 1]?.getD 0).toNat * 65536 + (bs[4 * t + 2]?.getD 0).toNat * 256 + (bs[4 * t + 3]?.getD 0).toNat) := hid (by
          rw [HLO.out t h16]
          have e : (bs.drop (4 * t)).take 4 = [bs[4 * t]?.getD 0, bs[4 * t + 1]?.getD 0, bs[4 * t + 2]?.getD 0, bs[4 * t + 3]?.getD 0] := by
            rw [List.getElem?_eq_getElem (by omega), List.getElem?_eq_getElem (by omega), List.getElem?_eq_getElem (by omega), List.getElem?_eq_getElem (by omega)]
            simp only [Option.getD_some]
            rw [List.drop_eq_getElem_cons (by omega), List.take_succ_cons, List.drop_eq_getElem_cons (by omega), List.take_succ_cons, List.drop_eq_getElem_cons (by omega), List.take_succ_cons, List.drop_eq_getElem_cons (by omega), List.take_succ_cons, List.take_zero]
          rw [e]
          simp [num]
          omega)
        clear hcell
        generalize (bs[4 * t]?.getD 0).toNat = c0 at *
        generalize (bs[4 * t + 1]?.getD 0).toNat = c1 at *
        generalize (bs[4 * t + 2]?.getD 0).toNat = c2 at *
        generalize (bs[4 * t + 3]?.getD 0).toNat = c3 at *
        have q0 : IntKind.i64.wrap ((4 : Int) * (t : Int)) = 4 * (t : Int) := by rw [IntKind.wrap_i64]; omega
        have q1 : IntKind.i64.wrap ((4 : Int) * (t : Int) + 1) = 4 * (t : Int) + 1 := by rw [IntKind.wrap_i64]; omega
        have q2 : IntKind.i64.wrap ((4 : Int) * (t : Int) + 2) = 4 * (t : Int) + 2 := by rw [IntKind.wrap_i64]; omega
        have q3 : IntKind.i64.wrap ((4 : Int) * (t : Int) + 3) = 4 * (t : Int) + 3 := by rw [IntKind.wrap_i64]; omega
        have p0 : (0 : Int) ≤ 4 * (t : Int) := by omega
        have p1 : (0 : Int) ≤ 4 * (t : Int) + 1 := by omega
        have p2 : (0 : Int) ≤ 4 * (t : Int) + 2 := by omega
        have p3 : (0 : Int) ≤ 4 * (t : Int) + 3 := by omega
        have n0 : (4 * (t : Int)).toNat = 4 * t := by omega
        have n1 : (4 * (t : Int) + 1).toNat = 4 * t + 1 := by omega
        have n2 : (4 * (t : Int) + 2).toNat = 4 * t + 2 := by omega
        have n3 : (4 * (t : Int) + 3).toNat = 4 * t + 3 := by omega
        have z0 : (4 : Int) * (t : Int) < 64 := by omega
        have z1 : (4 : Int) * (t : Int) + 1 < 64 := by omega
        have z2 : (4 : Int) * (t : Int) + 2 < 64 := by omega
        have z3 : (4 : Int) * (t : Int) + 3 < 64 := by omega
        go_wp2_with fail
        refine wp_region_still_tail 36 (by kernel_rfl) (by kernel_rfl) ?_
        simp only [List.take_succ_cons, List.take_zero, List.drop_succ_cons, List.drop_zero]
        repeat still_step
        try refine wpStill_nil ?_
        go_wp2
        refine ⟨⟨t + 1, by omega, by go_num, hid ?_, (hbr.setCell (p := ⟨w.heap.size, t, none⟩) (Nat.le_refl _) _).drew⟩, by simp [intOf]; omega⟩
        have e : bits .or .i64 (bits .or .i64 (bits .or .i64 ((c0 : Int) * 16777216) ((c1 : Int) * 65536)) ((c2 : Int) * 256)) (c3 : Int) = ((ws.getD t 0 : Nat) : Int) := by
          have y0' : c0 < 256 := y0
          have y1' : c1 < 256 := y1
          have y2' : c2 < 256 := y2
          have y3' : c3 < 256 := y3
          have l1 : c0 * 16777216 ||| c1 * 65536 < 4294967296 := or_lt32 (by omega) (by omega)
          have l2 : (c0 * 16777216 ||| c1 * 65536) ||| c2 * 256 < 4294967296 := or_lt32 l1 (by omega)
          rw [show (c0 : Int) * 16777216 = ((c0 * 16777216 : Nat) : Int) from by omega, show (c1 : Int) * 65536 = ((c1 * 65536 : Nat) : Int) from by omega, show (c2 : Int) * 256 = ((c2 * 256 : Nat) : Int) from by omega]
          rw [or64 _ _ (by omega) (by omega), or64 _ _ (by omega) (by omega), or64 _ _ (by omega) (by omega), word_bytes c0 c1 c2 c3 y0 y1 y2 y3, HW.out]
        rw [e, ← laidW_step ws t HSL.out hlt]
        exact heap_setCell_same wr _ _ _ _ _ HR.out
      · have c2 := (cell_of_row wr _ (t - 2) _ _ _ HR.out).trans (laidW_at ws t (t - 2) HSL.out (by omega) ht)
        have c7 := (cell_of_row wr _ (t - 7) _ _ _ HR.out).trans (laidW_at ws t (t - 7) HSL.out (by omega) ht)
        have c15 := (cell_of_row wr _ (t - 15) _ _ _ HR.out).trans (laidW_at ws t (t - 15) HSL.out (by omega) ht)
        have c16 := (cell_of_row wr _ (t - 16) _ _ _ HR.out).trans (laidW_at ws t (t - 16) HSL.out (by omega) ht)
        have x2 : IntKind.i64.wrap ((t : Int) - 2) = ((t - 2 : Nat) : Int) := by rw [IntKind.wrap_i64]; omega
        have x7 : IntKind.i64.wrap ((t : Int) - 7) = ((t - 7 : Nat) : Int) := by rw [IntKind.wrap_i64]; omega
        have x15 : IntKind.i64.wrap ((t : Int) - 15) = ((t - 15 : Nat) : Int) := by rw [IntKind.wrap_i64]; omega
        have x16 : IntKind.i64.wrap ((t : Int) - 16) = ((t - 16 : Nat) : Int) := by rw [IntKind.wrap_i64]; omega
        have y2 : ((t - 2 : Nat) : Int) < 64 := by omega
        have y7 : ((t - 7 : Nat) : Int) < 64 := by omega
        have y15 : ((t - 15 : Nat) : Int) < 64 := by omega
        have y16 : ((t - 16 : Nat) : Int) < 64 := by omega
        have yt : (t : Int) < 64 := by omega
        have b2 := HLT.out (t - 2)
        have b7 := HLT.out (t - 7)
        have b15 := HLT.out (t - 15)
        have b16 := HLT.out (t - 16)
        have HW := hid (HHI.out t (by omega) hlt)
        clear hcell
        generalize ws.getD (t - 2) 0 = X2 at *
        generalize ws.getD (t - 7) 0 = X7 at *
        generalize ws.getD (t - 15) 0 = X15 at *
        generalize ws.getD (t - 16) 0 = X16 at *
        have r17 := rot_lt X2 17 b2
        have r19 := rot_lt X2 19 b2
        have r7 := rot_lt X15 7 b15
        have r18 := rot_lt X15 18 b15
        have e1 := xor64 (rot X2 17) (rot X2 19) (by omega) (by omega)
        have e2 : bits .xor .i64 ((rot X2 17 ^^^ rot X2 19 : Nat) : Int) ((X2 : Int) / 1024) = ((lo1 X2 : Nat) : Int) := by
          have := xor_lt32 r17 r19
          rw [show (X2 : Int) / 1024 = ((X2 / 1024 : Nat) : Int) from by omega, xor64 _ _ (by omega) (by omega)]
          rfl
        have e3 := xor64 (rot X15 7) (rot X15 18) (by omega) (by omega)
        have e4 : bits .xor .i64 ((rot X15 7 ^^^ rot X15 18 : Nat) : Int) ((X15 : Int) / 8) = ((lo0 X15 : Nat) : Int) := by
          have := xor_lt32 r7 r18
          rw [show (X15 : Int) / 8 = ((X15 / 8 : Nat) : Int) from by omega, xor64 _ _ (by omega) (by omega)]
          rfl
        have f1 := lo1_lt b2
        have f2 := lo0_lt b15
        have u7 : ¬ t - 7 = t := by omega
        have u16 : ¬ t - 16 = t := by omega
        have v7 : ¬ t = t - 7 := by omega
        have v16 : ¬ t = t - 16 := by omega
        go_wp2_with fail
        go_region_held3 (fun w' => w'.cell? ⟨w.heap.size, t - 7, none⟩ = some (.int .i64 (X7 : Int)) ∧ w'.cell? ⟨w.heap.size, t - 16, none⟩ = some (.int .i64 (X16 : Int)))
          (first
            | go_keep
            | (exact ⟨(World.cell?_setCell_other _ _ _ _ (off_ne _ _ _ v7)).trans c7, (World.cell?_setCell_other _ _ _ _ (off_ne _ _ _ v16)).trans c16⟩))
          ((go_at_call 42; refine (turn_int _ _ _ (by assumption) (by decide) (by decide)).mono ?_; rintro e' w' ⟨rfl, mq, rfl⟩))
        have e5 : ((lo1 X2 : Nat) + (X7 : Int) + (lo0 X15 : Nat) + (X16 : Int)) % 4294967296 = ((ws.getD t 0 : Nat) : Int) := by rw [HW.out]; omega
        have HE5 := hid e5
        clear e5 e1 e2 e3 e4 x2 x7 x15 x16
        go_wp2_with fail
        refine ⟨⟨t + 1, by omega, by go_num, hid ?_, (below_drewN hbr _).setCell (p := ⟨w.heap.size, t, none⟩) (Nat.le_refl _) _⟩, by simp [intOf]; omega⟩
        rw [HE5.out, ← laidW_step ws t HSL.out hlt]
        exact heap_setCell_same (wr.drewN _) _ _ _ _ _ HR.out
    · have ht64 : t = 64 := by omega
      have HF : Hid (wr.heap[w.heap.size]? = some (.cells (ws.map iv).toArray 3 (0, 0))) := hid (by
        have := HR.out
        rwa [ht64, show laidW ws 64 = ws by rw [laidW, List.take_of_length_le (by rw [HSL.out]; exact Nat.le_refl _)]; simp] at this)
      clear ht64
      go_wp2
      go_ret
      exact ⟨rfl, HF.out, hbr⟩

theorem expand_any (B : Nat) (v : Value) (bs : List UInt8) (w : World) (hB : B ≤ w.heap.size) (hsh : Shows B w v bs) (hl : bs.length = 64) :
    Calls Tryd.prog 41 #[v] w fun e w' => e = .returned (.slice (some ⟨w.heap.size, 0, none⟩) 64 64) ∧ w'.heap[w.heap.size]? = some (.cells ((sched bs).map iv).toArray 3 (0, 0)) ∧ Below w.heap.size w w' := by
  obtain ⟨a, c, rfl, h1, h2, hn, h3⟩ := hsh
  obtain ⟨b, off, rfl, hlt, hc⟩ := h3 (by intro e; simp [e] at hl)
  rw [hl] at h1 hc ⊢
  exact expand_some b off c bs w hl (by omega) h1 h2 hc
end Go.Proofs.YtmafaioohiaenaaDoor

/- Plain facts for the document's own Raw. -/

namespace Go.Proofs.YtmafaioohiaenaaDoor
open Go.RowKit
set_option linter.unusedVariables false
set_option maxRecDepth 20000

/-- The eight words. -/
def St.nums (s : St) : List Nat := [s.a, s.b, s.c, s.d, s.e, s.f, s.g, s.h]

/-- The eight words as cells. -/
def St.ints (s : St) : List Value := s.nums.map iv

theorem ints_length (s : St) : s.ints.length = 8 := rfl

theorem ints_one (s : St) : ∀ u ∈ s.ints, u.oneCell' = true := by
  intro u hu
  obtain ⟨x, _, rfl⟩ := List.mem_map.1 hu
  rfl

theorem nums_lt {s : St} (h : s.Ok) (i : Nat) : s.nums.getD i 0 < 4294967296 := by
  obtain ⟨h1, h2, h3, h4, h5, h6, h7, h8⟩ := h
  refine getD_lt (fun x hx => ?_) i
  simp only [St.nums, List.mem_cons, List.not_mem_nil, or_false] at hx
  rcases hx with rfl | rfl | rfl | rfl | rfl | rfl | rfl | rfl <;> assumption

theorem ints_at (s : St) (j : Nat) (hj : j < 8) : s.ints[j]? = some (.int .i64 ((s.nums.getD j 0 : Nat) : Int)) := by
  match j, hj with
  | 0, _ => rfl
  | 1, _ => rfl
  | 2, _ => rfl
  | 3, _ => rfl
  | 4, _ => rfl
  | 5, _ => rfl
  | 6, _ => rfl
  | 7, _ => rfl

/-- The row while its words go one place on: those behind place j have gone. -/
def gone (s : St) (j : Nat) : List Value := (s.nums.take (j + 1) ++ (s.nums.drop j).take (7 - j)).map iv

theorem gone_seven (s : St) : gone s 7 = s.ints := rfl

theorem gone_at (s : St) (j : Nat) (hj : j < 7) : (gone s (j + 1))[j]? = some (.int .i64 ((s.nums.getD j 0 : Nat) : Int)) := by
  match j, hj with
  | 0, _ => rfl
  | 1, _ => rfl
  | 2, _ => rfl
  | 3, _ => rfl
  | 4, _ => rfl
  | 5, _ => rfl
  | 6, _ => rfl

theorem gone_old (s : St) (j : Nat) (hj : j < 7) : ∃ n : Nat, (gone s (j + 1))[j + 1]? = some (.int .i64 (n : Int)) := by
  match j, hj with
  | 0, _ => exact ⟨_, rfl⟩
  | 1, _ => exact ⟨_, rfl⟩
  | 2, _ => exact ⟨_, rfl⟩
  | 3, _ => exact ⟨_, rfl⟩
  | 4, _ => exact ⟨_, rfl⟩
  | 5, _ => exact ⟨_, rfl⟩
  | 6, _ => exact ⟨_, rfl⟩

theorem gone_step (s : St) (j : Nat) (hj : j < 7) : (gone s (j + 1)).set (j + 1) (.int .i64 ((s.nums.getD j 0 : Nat) : Int)) = gone s j := by
  match j, hj with
  | 0, _ => rfl
  | 1, _ => rfl
  | 2, _ => rfl
  | 3, _ => rfl
  | 4, _ => rfl
  | 5, _ => rfl
  | 6, _ => rfl

/-- A round's end: two words are written. -/
theorem gone_round (s : St) (k w : Nat) : ((gone s 0).set 0 (iv (rnd s k w).a)).set 4 (iv (rnd s k w).e) = (rnd s k w).ints := rfl

/-- The row while a round's words are added: the first i have been. -/
def added (s r : St) (i : Nat) : List Value := ((s.plus r).nums.take i ++ s.nums.drop i).map iv

theorem added_zero (s r : St) : added s r 0 = s.ints := rfl

theorem added_eight (s r : St) : added s r 8 = (s.plus r).ints := rfl

theorem added_length (s r : St) (i : Nat) (hi : i ≤ 8) : (added s r i).length = 8 := by
  simp [added, St.nums]
  omega

theorem added_at (s r : St) (i : Nat) (hi : i < 8) : (added s r i)[i]? = some (.int .i64 ((s.nums.getD i 0 : Nat) : Int)) := by
  match i, hi with
  | 0, _ => rfl
  | 1, _ => rfl
  | 2, _ => rfl
  | 3, _ => rfl
  | 4, _ => rfl
  | 5, _ => rfl
  | 6, _ => rfl
  | 7, _ => rfl

theorem added_step (s r : St) (i : Nat) (hi : i < 8) : (added s r i).set i (iv ((s.nums.getD i 0 + r.nums.getD i 0) % 4294967296)) = added s r (i + 1) := by
  match i, hi with
  | 0, _ => rfl
  | 1, _ => rfl
  | 2, _ => rfl
  | 3, _ => rfl
  | 4, _ => rfl
  | 5, _ => rfl
  | 6, _ => rfl
  | 7, _ => rfl

/-- What is owned stays so while only younger memory is written. -/
theorem owns_below {w w' : World} {base B : Nat} {e : TypeId} {size : Nat} {v : Value} {n : Nat} {xs : List Value} (h : w.ownsRow base e size v n xs) (hb : Below B w w') (hB : w.heap.size ≤ B) : w'.ownsRow base e size v n xs := by
  refine ⟨h.1, ?_⟩
  rcases h.2 with hn | ⟨g, cap, cur, rfl, hb1, hg, rest⟩
  · exact .inl hn
  · exact .inr ⟨g, cap, cur, rfl, hb1, (hb.block g (by have := block_lt hg; omega)).trans hg, rest⟩

theorem not_eq (x n : Nat) (w : World) (h : x + n = 4294967295) :
    Calls Tryd.prog 43 #[.int .i64 x] w fun e w' => e = .returned (.int .i64 (n : Int)) ∧ w' = w := by
  have := not_any x w (by omega)
  rwa [show 4294967295 - x = n by omega] at this

/-- The bytes that are put behind. -/
def tailOf (n : Nat) : Nat := (119 - n % 64) % 64

theorem tail_more (n j : Nat) (h : j < tailOf n) : ¬ (n + 1 + j) % 64 = 56 := by
  unfold tailOf at h
  omega

theorem tail_end (n : Nat) : (n + 1 + tailOf n) % 64 = 56 := by
  unfold tailOf
  omega

theorem tail_lt (n : Nat) : tailOf n < 64 := Nat.mod_lt _ (by decide)

theorem padded_eq (bs : List UInt8) : padded bs = bs ++ [128] ++ List.replicate (tailOf bs.length) 0 ++ be (8 * bs.length) 8 := rfl

theorem padded_len (bs : List UInt8) : (padded bs).length = bs.length + 1 + tailOf bs.length + 8 := by
  rw [padded_eq]
  simp [be_length]
  omega

theorem padded_whole (bs : List UInt8) : (padded bs).length = 64 * ((padded bs).length / 64) := by
  have h1 := padded_len bs
  have h2 := tail_end bs.length
  omega

theorem u64of_nat (n : Nat) (h : n < 18446744073709551616) : u64of (n : Int) = n := by
  unfold u64of
  omega

/-- Two empty blocks: the result's, and an empty row. -/
theorem made_two (w : World) (o : Obj) (e : TypeId) : ((w.alloc o).alloc (.cells #[] e)).ownsRow (w.heap.size + 1) e 1 (.slice (some ⟨w.heap.size + 1, 0, none⟩) 0 0) 0 [] := by
  have := World.ownsRow_made (base := w.heap.size + 1) (e := e) (size := 1) (w.alloc o) #[] 0 (by simp) (by unfold maxLen; omega) rfl
  rwa [show (w.alloc o).heap.size = w.heap.size + 1 by simp] at this
end Go.Proofs.YtmafaioohiaenaaDoor

/- Contract of the document's own Raw. -/

namespace Go.Proofs.YtmafaioohiaenaaDoor
open Go.RowKit
set_option linter.unusedVariables false
set_option maxRecDepth 20000

theorem owns_form {w : World} {base : Nat} {e : TypeId} {size : Nat} {v : Value} {n : Nat} {xs : List Value} (h : w.ownsRow base e size v n xs) (hn : 0 < n) : ∃ g cap, v = .slice (some ⟨g, 0, none⟩) n cap := by
  rcases h.2 with ⟨_, h0⟩ | ⟨g, cap, _, e, _⟩
  · omega
  · exact ⟨_, _, e⟩

theorem Tryd.infoSum0 : (Tryd.prog.info? 23).map (·.size) = some 32 := by kernel_rfl

set_option maxRecDepth 100000 in
set_option maxHeartbeats 16000000 in
theorem refRaw_any (B : Nat) (v : Value) (bs : List UInt8) (w : World) (hB : B ≤ w.heap.size) (hsh : Shows B w v bs) (hl : bs.length ≤ 1099511627776) :
    Calls Tryd.prog 11 #[v] w fun e w' => e = .returned (.agg ((sha bs).map by8).toArray) ∧ Below w.heap.size w w' := by
  obtain ⟨i0, hi, hz0, hz1, hz2⟩ := info_parts Tryd.infoU8
  obtain ⟨i9, hi9, hz09, hz19, hz29⟩ := info_parts Tryd.infoInt
  have hsh0 := hsh
  obtain ⟨a, c, rfl, h1, h2, hn, h3⟩ := hsh
  have HM := fun o => made_two w o 5
  clear h3
  go_enter Tryd.func11, Tryd.ntmps11
  go_wp2_with (first
    | (at_builtin; refine wpList_append_shows _ rfl (.tmp 18) (.tmp 19) 24 rfl (w.heap.size + 1) 5 i0 Tryd.underlying24 hi hz0 hz1 hz2 _ 0 [] rfl (HM _) B _ bs rfl ((hsh0.alloc hB _).alloc (by simp; omega) _) ?_ ?_ ?_)
    | fail)
  · omega
  · simp
  intro v1 w1 hown1 hg1 hnil
  try rw [Nat.zero_add, List.nil_append] at hown1
  obtain ⟨n1, n0, nb⟩ := two_new w (.cells #[.int .u8 0, .int .u8 0, .int .u8 0, .int .u8 0, .int .u8 0, .int .u8 0, .int .u8 0, .int .u8 0, .int .u8 0, .int .u8 0, .int .u8 0, .int .u8 0, .int .u8 0, .int .u8 0, .int .u8 0, .int .u8 0, .int .u8 0, .int .u8 0, .int .u8 0, .int .u8 0, .int .u8 0, .int .u8 0, .int .u8 0, .int .u8 0, .int .u8 0, .int .u8 0, .int .u8 0, .int .u8 0, .int .u8 0, .int .u8 0, .int .u8 0, .int .u8 0] 23) (.cells #[] 5)
  have hb1 : Below w.heap.size w w1 := nb.grown hg1 (by simp; omega) (fun q hq => by have hq' : some (w.heap.size + 1) = some q := hq; cases hq'; omega)
  have HZ : Hid (∃ z : Array Value, z.size = 32 ∧ w1.heap[w.heap.size]? = some (.cells z 23 (0, 0))) := hid ⟨_, by rfl, (hg1.block _ (by simp; omega) (by simp [Value.ownBlock])).trans n0⟩
  clear n1 n0 nb hg1 hnil HM
  have hs1 : w.heap.size < w1.heap.size := by obtain ⟨z, _, hz⟩ := HZ.out; exact block_lt hz
  go_wp2_with (first
    | (at_builtin; refine wpList_append_own _ rfl (.tmp 20) (.tmp 21) 24 rfl (w.heap.size + 1) 5 i0 (.int .u8 0) 1 1 Tryd.underlying24 hi hz0 hz1 hz2 rfl (by decide) _ _ _ rfl (hown1.alloc _) ⟨w1.heap.size, 0, none⟩ 1 1 [.int .u8 128] rfl rfl (one_cell w1 _ _) ?c2 ?c3 ?c4 ?c5 ?_)
    | fail)
  case c2 => intro u hu; simp at hu; subst hu; rfl
  case c3 => unfold maxLen; omega
  case c4 => omega
  case c5 => simp; omega
  intro v2 w2 hown2 hg2 _
  have hb2 : Below w.heap.size w w2 := (hb1.alloc (by omega) _).grown hg2 (by simp; omega) (fun q hq => by have := (hown1.lt q hq).1; omega)
  replace HZ : Hid (∃ z : Array Value, z.size = 32 ∧ w2.heap[w.heap.size]? = some (.cells z 23 (0, 0))) := hid (by
    obtain ⟨z, hz, hz2⟩ := HZ.out
    refine ⟨z, hz, (hg2.block _ (by simp; omega) (fun e => ?_)).trans ((heap_alloc_old w1 _ hs1).trans hz2)⟩
    have := (hown1.lt _ e.symm).1
    omega)
  have hown3 : w2.ownsRow (w.heap.size + 1) 5 1 v2 (bs.length + 1 + 0) ((bs ++ [128] ++ List.replicate 0 0).map by8) := by simpa [by8] using hown2
  clear hown1 hown2 hg2 hb1 hs1
  have HO := hid hown3
  have HB := hid hb2
  clear hown3 hb2
  go_wp2_with fail
  go_loopw [3] (fun x wr => ∃ (j g cap : Nat), j ≤ tailOf bs.length ∧ x = .slice (some ⟨g, 0, none⟩) (bs.length + 1 + j) cap ∧ wr.ownsRow (w.heap.size + 1) 5 1 (.slice (some ⟨g, 0, none⟩) (bs.length + 1 + j) cap) (bs.length + 1 + j) ((bs ++ [128] ++ List.replicate j 0).map by8) ∧ Hid (∃ z : Array Value, z.size = 32 ∧ wr.heap[w.heap.size]? = some (.cells z 23 (0, 0))) ∧ Below w.heap.size w wr) (fun x _ => bs.length + 1 + tailOf bs.length - sliceLen x)
  case atStart =>
    obtain ⟨g, cap, hv⟩ : ∃ g cap, v2 = .slice (some ⟨g, 0, none⟩) (bs.length + 1 + 0) cap := owns_form HO.out (by omega)
    have := HO.out
    rw [hv] at this
    exact ⟨0, g, cap, Nat.zero_le _, hv, this, HZ, HB.out⟩
  case round =>
    clear HO HZ HB
    obtain ⟨j, g, cap, hj, rfl, hown, HZ, hbr⟩ := hrel
    have hm1 := HZ.out.elim fun z h => block_lt h.2
    by_cases hjt : j < tailOf bs.length
    · have q2 : ((((bs.length : Nat) : Int) + 1 + (j : Int)) % 64 != 56) = true := by
        have q1 := tail_more bs.length j hjt
        have : ((bs.length : Int) + 1 + (j : Int)) % 64 ≠ 56 := by omega
        simpa using this
      have q3 := tail_lt bs.length
      have HJ := hid hjt
      have HJ2 := hid hj
      clear hjt hj
      go_wp2_with (first
        | (at_builtin; refine wpList_append_own _ rfl (.tmp 27) (.tmp 28) 24 rfl (w.heap.size + 1) 5 i0 (.int .u8 0) 1 1 Tryd.underlying24 hi hz0 hz1 hz2 rfl (by decide) _ _ _ rfl (hown.alloc _) ⟨wr.heap.size, 0, none⟩ 1 1 [.int .u8 0] rfl rfl (one_cell wr _ _) ?c2 ?c3 ?c4 ?c5 ?_)
        | fail)
      case c2 => intro u hu; simp at hu; subst hu; rfl
      case c3 => have := HJ.out; unfold maxLen; omega
      case c4 => have := HJ.out; omega
      case c5 => simp; omega
      intro v3 w3 hown3 hg3 _
      obtain ⟨g3, cap3, hv3⟩ := owns_form hown3 (by omega)
      rw [hv3] at hown3 ⊢
      have hb3 : Below w.heap.size w w3 := (hbr.alloc (by omega) _).grown hg3 (by simp; omega) (fun q hq => by have := (hown.lt q hq).1; omega)
      have HZ3 : Hid (∃ z : Array Value, z.size = 32 ∧ w3.heap[w.heap.size]? = some (.cells z 23 (0, 0))) := hid (by
        obtain ⟨z, hz, hz2⟩ := HZ.out
        refine ⟨z, hz, (hg3.block _ (by simp; omega) (fun e => ?_)).trans ((heap_alloc_old wr _ hm1).trans hz2)⟩
        have := (hown.lt _ e.symm).1
        omega)
      clear hg3 HZ hown hbr
      go_wp2
      go_roundw
      case rel =>
        refine ⟨j + 1, g3, cap3, HJ.out, rfl, ?_, HZ3, hb3⟩
        rw [show List.map by8 (bs ++ [128] ++ List.replicate (j + 1) 0) = List.map by8 bs ++ by8 128 :: (List.replicate j (by8 0) ++ [.int .u8 0]) by simp [List.replicate_succ', by8]]
        exact hown3
      case measure => have := HJ.out; simp [sliceLen]; omega
    · have hjt2 : j = tailOf bs.length := by omega
      have q2 : ((((bs.length : Nat) : Int) + 1 + (j : Int)) % 64 != 56) = false := by
        have q1 := tail_end bs.length
        have : ((bs.length : Int) + 1 + (j : Int)) % 64 = 56 := by omega
        simpa using this
      have HPL := hid (padded_len bs)
      have HPW := hid (padded_whole bs)
      have q3 := tail_lt bs.length
      have HPE : Hid (padded bs = bs ++ [128] ++ List.replicate j 0 ++ be (u64of ((8 * bs.length : Nat) : Int)) 8) := hid (by rw [u64of_nat _ (by omega), hjt2]; exact padded_eq bs)
      have HN := hid (refNum_any (8 * (bs.length : Int)) wr (by omega) (by omega))
      rw [show ((8 * bs.length : Nat) : Int) = 8 * (bs.length : Int) by omega] at HPE
      have HJ := hid hjt2
      clear hjt hjt2 hj
      go_wp2_with fail
      refine HN.out.mono ?_
      rintro e' w2 ⟨gn, rfl, hownn, hbn⟩
      have hown2 := owns_below hown hbn (Nat.le_refl _)
      have hshn := (shows_of_owns hownn).2
      have hs2 := hbn.size
      go_wp2_with (first
        | (at_builtin; refine wpList_append_shows _ rfl (.tmp 30) (.tmp 34) 24 rfl (w.heap.size + 1) 5 i0 Tryd.underlying24 hi hz0 hz1 hz2 _ _ _ rfl hown2 w2.heap.size _ _ rfl hshn ?_ ?_ ?_)
        | fail)
      · have := HJ.out; rw [be_length]; omega
      · omega
      intro v3 w3 hown3 hg3 _
      have hown4 : w3.ownsRow (w.heap.size + 1) 5 1 v3 (padded bs).length ((padded bs).map by8) := by
        rw [be_length] at hown3
        rw [HPL.out, HPE.out, ← HJ.out]
        simpa using hown3
      have hb3 : Below w.heap.size w w3 := (hbr.trans (hbn.mono hbr.size)).grown hg3 (by omega) (fun q hq => by have := (hown.lt q hq).1; omega)
      have HZ3 : Hid (∃ z : Array Value, z.size = 32 ∧ w3.heap[w.heap.size]? = some (.cells z 23 (0, 0))) := hid (by
        obtain ⟨z, hz, hz2⟩ := HZ.out
        refine ⟨z, hz, (hg3.block _ (by omega) (fun e => ?_)).trans ((hbn.block _ hm1).trans hz2)⟩
        have := (hown.lt _ e.symm).1
        omega)
      have hm3 : w.heap.size < w3.heap.size := by obtain ⟨z, _, hz⟩ := HZ3.out; exact block_lt hz
      clear hown3 hg3 hown2 hownn hbn hshn hown hbr HZ hm1 hs2 HPE HN q2 HJ
      obtain ⟨hlenP, hownP⟩ := hown4
      rcases hownP with ⟨_, hzero⟩ | ⟨gb, capb, curb, rfl, hBg, hg, hnc, hcm, hcs, htk⟩
      · have := HPL.out; omega
      have HSH : Hid (∀ wx : World, wx.heap[gb]? = some (.cells curb 5 (0, 0)) → Shows wx.heap.size wx (.slice (some ⟨gb, 0, none⟩) (padded bs).length capb) (padded bs)) := hid (fun wx hx => (shows_of_owns (B := w.heap.size + 1) (e := 5) ⟨hlenP, .inr ⟨gb, capb, curb, rfl, hBg, hx, hnc, hcm, hcs, htk⟩⟩).2)
      have HG := hid hg
      have HSHA : Hid (sha bs = (works (padded bs) start ((padded bs).length / 64)).bytes) := hid rfl
      have hplm : (padded bs).length ≤ 1099511627776 + 128 := by have := HPL.out; omega
      have hpl0 : (padded bs).length = 64 * ((padded bs).length / 64) := HPW.out
      have HPL0 := hid hpl0
      unfold maxLen at hcm
      have hgb3 := block_lt hg
      clear hlenP hg hcs htk HPL HPW hpl0 q3
      generalize padded bs = pd at *
      generalize hL : pd.length = L at *
      have HLL := hid hL
      clear hL
      go_wp2_with ((go_at_call 39; refine (ks_any w3).mono ?_; rintro e' w' ⟨rfl, rfl⟩))
      refine (hs_any _).mono ?_
      rintro e' w' ⟨rfl, rfl⟩
      rw [show (w3.alloc (.cells (cubes.map iv).toArray 3)).heap.size = w3.heap.size + 1 by simp]
      obtain ⟨m1, m0, mb⟩ := two_new w3 (.cells (cubes.map iv).toArray 3) (.cells #[iv start.a, iv start.b, iv start.c, iv start.d, iv start.e, iv start.f, iv start.g, iv start.h] 3)
      generalize World.alloc _ (.cells #[iv start.a, iv start.b, iv start.c, iv start.d, iv start.e, iv start.f, iv start.g, iv start.h] 3) = w4 at *
      have HH : Hid (w4.heap[w3.heap.size + 1]? = some (.cells (works pd start 0).ints.toArray 3 (0, 0))) := hid m1
      have HK := hid m0
      replace HG := hid ((mb.block _ hgb3).trans HG.out)
      replace HZ3 : Hid (∃ z : Array Value, z.size = 32 ∧ w4.heap[w.heap.size]? = some (.cells z 23 (0, 0))) := hid (by obtain ⟨z, hz, hz2⟩ := HZ3.out; exact ⟨z, hz, (mb.block _ hm3).trans hz2⟩)
      have HB4 := hid (hb3.trans (mb.mono (by omega)))
      clear m1 m0 mb hb3
      generalize w3.heap.size = kb at *
      go_wp2_with fail
      go_loopw [6] (fun i wr => ∃ (at' n : Nat), i = .int .i64 at' ∧ at' ≤ L ∧ Hid (at' = 64 * n) ∧ Hid (wr.heap[kb + 1]? = some (.cells (works pd start n).ints.toArray 3 (0, 0))) ∧ Hid (wr.heap[kb]? = some (.cells (cubes.map iv).toArray 3 (0, 0))) ∧ Hid (wr.heap[gb]? = some (.cells curb 5 (0, 0))) ∧ Hid (∃ z : Array Value, z.size = 32 ∧ wr.heap[w.heap.size]? = some (.cells z 23 (0, 0))) ∧ Hid (Below w.heap.size w wr)) (fun i _ => L - (intOf i).toNat)
      case atStart => exact ⟨0, 0, rfl, Nat.zero_le _, rfl, HH, HK, HG, HZ3, HB4⟩
      case round =>
        clear HH HK HG HZ3 HB4
        rename_i wr0
        obtain ⟨at', n, rfl, hat, HAT, HH, HK, HG, HZ, HBR⟩ := hrel
        have hkb := block_lt HH.out
        by_cases hlt : at' < L
        · have hat3 : at' + 64 ≤ L := by have := HAT.out; have := HPL0.out; omega
          have HP : Hid (Shows wr.heap.size wr (.slice (some ⟨gb, at', none⟩) 64 (capb - at')) ((pd.drop at').take 64)) := hid (by
            have := (HSH.out wr HG.out).mid at' 64 (by rw [HLL.out]; exact hat3)
            rw [Nat.zero_add] at this
            exact this)
          have HPL2 : Hid (((pd.drop at').take 64).length = 64) := hid (by have := HLL.out; simp; omega)
          have HQ := hid (show works pd start (n + 1) = work (works pd start n) ((pd.drop at').take 64) by rw [works, HAT.out])
          have HOK := hid (works_ok pd start_ok n)
          have i1 : (0 : Int) ≤ (at' : Int) := by omega
          have i2 : (at' : Int) + 64 ≤ (capb : Int) := by omega
          have i3 : (at' : Int) ≤ (at' : Int) + 64 := by omega
          have i4 : IntKind.i64.wrap ((at' : Int) + 64) = (at' : Int) + 64 := by rw [IntKind.wrap_i64]; omega
          have i5 : ¬ capb = at' := by omega
          have i6 : at' + 64 - at' = 64 := by omega
          generalize works pd start n = st at *
          generalize (pd.drop at').take 64 = pc at *
          go_wp2_with fail
          refine (expand_any wr.heap.size _ pc wr (Nat.le_refl _) HP.out HPL2.out).mono ?_
          rintro e' w5 ⟨rfl, hx, hb5⟩
          have hwb5 := block_lt hx
          have HX := hid hx
          replace HH := hid ((hb5.block _ hkb).trans HH.out)
          replace HK := hid ((hb5.block _ (by omega)).trans HK.out)
          replace HG := hid ((hb5.block _ (by omega)).trans HG.out)
          replace HZ : Hid (∃ z : Array Value, z.size = 32 ∧ w5.heap[w.heap.size]? = some (.cells z 23 (0, 0))) := hid (by obtain ⟨z, hz, hz2⟩ := HZ.out; exact ⟨z, hz, (hb5.block _ (by omega)).trans hz2⟩)
          replace HBR := hid (HBR.out.trans (hb5.mono (by omega)))
          clear hx hb5 HP HPL2 i1 i2 i3 i4 i5 i6
          generalize wr.heap.size = wb at *
          have HWL : Hid (∀ i, (sched pc).getD i 0 < 4294967296) := hid (getD_lt (spread_lt pc 48))
          have HWS : Hid ((sched pc).length = 64) := hid (spread_length pc 48)
          have HWK : Hid (work st pc = st.plus (rnds (sched pc) st 64)) := hid rfl
          generalize sched pc = ws at *
          have HIO := hid (ints_one st)
          have HIC : Hid (∀ (o : Obj) (j : Nat) (u : Value), st.ints[j]? = some u → (w5.alloc o).cell? ((⟨kb + 1, 0, none⟩ : Addr).add j) = some u) := hid (fun o j u hu => by
            have hadd : (⟨kb + 1, 0, none⟩ : Addr).add j = ⟨kb + 1, j, none⟩ := by unfold Addr.add; split <;> simp_all
            rw [hadd, cell_of_row _ _ _ _ _ _ ((heap_alloc_old w5 o (block_lt HH.out)).trans HH.out)]
            simpa using hu)
          have hst8 : st.ints.length = 8 := ints_length st
          have HST8 := hid hst8
          clear hst8
          have hm5 : (w5.alloc (.cells #[] 3)).ownsRow w5.heap.size 3 1 (.slice (some ⟨w5.heap.size, 0, none⟩) 0 0) 0 [] := World.ownsRow_made w5 #[] 0 (Nat.le_refl _) (by unfold maxLen; omega) rfl
          go_wp2_with (first
            | (at_builtin; refine wpList_append_own _ rfl (.tmp 50) (.tmp 51) 69 rfl w5.heap.size 3 i9 (.int .i64 0) 1 8 Tryd.underlying69 hi9 hz09 hz19 hz29 rfl (by decide) _ 0 [] rfl hm5 ⟨kb + 1, 0, none⟩ 8 8 st.ints rfl ?c0 ?c1 ?c2 ?c3 ?c4 ?c5 ?_)
            | fail)
          case c0 => rw [HST8.out]
          case c1 => exact HIC.out _
          case c2 => exact HIO.out
          case c3 => unfold maxLen; omega
          case c4 => omega
          case c5 => simp
          intro v6 w6 hown6 hg6 _
          have hown6' : w6.ownsRow w5.heap.size 3 1 v6 8 st.ints := by simpa using hown6
          obtain ⟨gv, capv, hv6⟩ := owns_form hown6' (by omega)
          rw [hv6] at hown6' ⊢
          have hgv : w5.heap.size ≤ gv := (hown6'.lt gv rfl).1
          have hcv : 8 ≤ capv := by
            rcases hown6'.2 with ⟨_, h⟩ | ⟨_, _, _, e, _, _, h, _⟩
            · omega
            · simp only [Value.slice.injEq] at e; omega
          have hb6 : Below w5.heap.size w5 w6 := ((Below.refl _ _).alloc (Nat.le_refl _) _).grown hg6 (by simp) (fun q hq => by have hq' : some w5.heap.size = some q := hq; cases hq'; exact Nat.le_refl _)
          replace HH := hid ((hb6.block _ (by omega)).trans HH.out)
          replace HK := hid ((hb6.block _ (by omega)).trans HK.out)
          replace HG := hid ((hb6.block _ (by omega)).trans HG.out)
          replace HX := hid ((hb6.block _ (by omega)).trans HX.out)
          replace HZ : Hid (∃ z : Array Value, z.size = 32 ∧ w6.heap[w.heap.size]? = some (.cells z 23 (0, 0))) := hid (by obtain ⟨z, hz, hz2⟩ := HZ.out; exact ⟨z, hz, (hb6.block _ (by omega)).trans hz2⟩)
          replace HBR := hid (HBR.out.trans (hb6.mono (by omega)))
          have HV6 := hid hown6'
          clear hown6 hown6' hg6 hb6 hm5 HIC HIO HST8
          generalize w5.heap.size = vb at *
          have HCK : Hid (∀ i, i < 64 → w6.cell? ⟨kb, i, none⟩ = some (.int .i64 ((cubes.getD i 0 : Nat) : Int))) := hid (fun i hi => by
            rw [cell_of_row _ _ _ _ _ _ HK.out]
            have : i < cubes.length := by rw [cubes_length]; exact hi
            simp [List.getElem?_eq_getElem this, iv])
          have HCX : Hid (∀ i, i < 64 → w6.cell? ⟨wb, i, none⟩ = some (.int .i64 ((ws.getD i 0 : Nat) : Int))) := hid (fun i hi => by
            rw [cell_of_row _ _ _ _ _ _ HX.out]
            have : i < ws.length := by rw [HWS.out]; exact hi
            simp [List.getElem?_eq_getElem this, iv])
          have HCL : Hid (∀ i, cubes.getD i 0 < 4294967296) := hid (getD_lt cubes_lt)
          go_wp2_with fail
          go_loopw [9] (fun i wx => ∃ (t : Nat) (s : St), t ≤ 64 ∧ i = .int .i64 t ∧ Hid s.Ok ∧ Hid (s = rnds ws st t) ∧ Hid (wx.ownsRow vb 3 1 (.slice (some ⟨gv, 0, none⟩) 8 capv) 8 s.ints) ∧ Hid (Below vb w6 wx)) (fun i _ => 64 - (intOf i).toNat)
          case atStart => exact ⟨0, st, Nat.zero_le _, rfl, HOK, rfl, HV6, hid (Below.refl _ _)⟩
          case round =>
            clear HV6
            obtain ⟨t, s, ht, rfl, HOK2, HS, HV, HBX⟩ := hrel
            by_cases hlt6 : t < 64
            · obtain ⟨A, B', C, D, E, F, G, H⟩ := s
              have ck : wr.cell? ⟨kb, t, none⟩ = _ := (HBX.out.cell (p := ⟨kb, t, none⟩) (by show kb < vb; omega)).trans (HCK.out t hlt6)
              have cx : wr.cell? ⟨wb, t, none⟩ = _ := (HBX.out.cell (p := ⟨wb, t, none⟩) (by show wb < vb; omega)).trans (HCX.out t hlt6)
              have hkl := HCL.out t
              have hwl := HWL.out t
              have HN : Hid (rnds ws st (t + 1) = rnd (rnds ws st t) (cubes.getD t 0) (ws.getD t 0)) := hid rfl
              obtain ⟨o1, o2, o3, o4, o5, o6, o7, o8⟩ := HOK2.out
              simp only at o1 o2 o3 o4 o5 o6 o7 o8
              have c0 : wr.cell? ⟨gv, 0, none⟩ = some (.int .i64 (A : Int)) := HV.out.cellAt 0 (by omega)
              have c1 : wr.cell? ⟨gv, 1, none⟩ = some (.int .i64 (B' : Int)) := HV.out.cellAt 1 (by omega)
              have c2 : wr.cell? ⟨gv, 2, none⟩ = some (.int .i64 (C : Int)) := HV.out.cellAt 2 (by omega)
              have c4 : wr.cell? ⟨gv, 4, none⟩ = some (.int .i64 (E : Int)) := HV.out.cellAt 4 (by omega)
              have c5 : wr.cell? ⟨gv, 5, none⟩ = some (.int .i64 (F : Int)) := HV.out.cellAt 5 (by omega)
              have c6 : wr.cell? ⟨gv, 6, none⟩ = some (.int .i64 (G : Int)) := HV.out.cellAt 6 (by omega)
              have c7 : wr.cell? ⟨gv, 7, none⟩ = some (.int .i64 (H : Int)) := HV.out.cellAt 7 (by omega)
              have ti : (t : Int) < 64 := by omega
              generalize cubes.getD t 0 = kt at *
              generalize ws.getD t 0 = wt at *
              obtain ⟨N, hN⟩ : ∃ N, E + N = 4294967295 := ⟨4294967295 - E, by omega⟩
              have hN2 : N < 4294967296 := by omega
              have r6 := rot_lt E 6 o5
              have r11 := rot_lt E 11 o5
              have r25 := rot_lt E 25 o5
              have x1 := xor64 (rot E 6) (rot E 11) (by omega) (by omega)
              have x2 : bits .xor .i64 ((rot E 6 ^^^ rot E 11 : Nat) : Int) ((rot E 25 : Nat) : Int) = ((up1 E : Nat) : Int) := by
                have := xor_lt32 r6 r11
                rw [xor64 _ _ (by omega) (by omega)]
                rfl
              have a1 := and64 E F (by omega) (by omega)
              have a2 := and64 N G (by omega) (by omega)
              have a3 : bits .xor .i64 ((E &&& F : Nat) : Int) ((N &&& G : Nat) : Int) = ((cho E F G : Nat) : Int) := by
                have h1 := and_lt32 o5 o6
                have h2 := and_lt32 hN2 o7
                rw [xor64 _ _ (by omega) (by omega), cho, show 4294967295 - E = N by omega]
              have u1 := up1_lt o5
              have u2 := cho_lt o5 o6 o7
              have r2 := rot_lt A 2 o1
              have r13 := rot_lt A 13 o1
              have r22 := rot_lt A 22 o1
              have y1 := xor64 (rot A 2) (rot A 13) (by omega) (by omega)
              have y2 : bits .xor .i64 ((rot A 2 ^^^ rot A 13 : Nat) : Int) ((rot A 22 : Nat) : Int) = ((up0 A : Nat) : Int) := by
                have := xor_lt32 r2 r13
                rw [xor64 _ _ (by omega) (by omega)]
                rfl
              have b1 := and64 A B' (by omega) (by omega)
              have b2 := and64 A C (by omega) (by omega)
              have b3 := and64 B' C (by omega) (by omega)
              have b4 := xor64 (A &&& B') (A &&& C) (by have := and_lt32 o1 o2; omega) (by have := and_lt32 o1 o3; omega)
              have b5 : bits .xor .i64 ((A &&& B' ^^^ A &&& C : Nat) : Int) ((B' &&& C : Nat) : Int) = ((maj A B' C : Nat) : Int) := by
                have h1 := xor_lt32 (and_lt32 o1 o2) (and_lt32 o1 o3)
                have h2 := and_lt32 o2 o3
                rw [xor64 _ _ (by omega) (by omega)]
                rfl
              have u3 := up0_lt o1
              have u4 := maj_lt o1 o2 o3
              clear r6 r11 r25 r2 r13 r22
              go_wp2_with fail
              go_quiet (first | (go_at_call 42; refine Calls.quiet_of (turn_int E _ _ o5 (by decide) (by decide))) | (go_at_call 43; refine Calls.quiet_of_same (not_eq E N _ hN)))
              have HVq : Hid ((wr.drewN nq).ownsRow vb 3 1 (.slice (some ⟨gv, 0, none⟩) 8 capv) 8 (St.ints ⟨A, B', C, D, E, F, G, H⟩)) := hid HV.out
              have HBq := hid (below_drewN HBX.out nq)
              clear x1 x2 a1 a2 a3 ck cx c0 c1 c2 c4 c5 c6 c7 HV HBX
              generalize wr.drewN nq = wy at *
              have c1 : wy.cell? ⟨gv, 1, none⟩ = some (.int .i64 (B' : Int)) := HVq.out.cellAt 1 (by omega)
              have c2 : wy.cell? ⟨gv, 2, none⟩ = some (.int .i64 (C : Int)) := HVq.out.cellAt 2 (by omega)
              go_wp2_with fail
              go_quiet ((go_at_call 42; refine Calls.quiet_of (turn_int A _ _ o1 (by decide) (by decide))))
              have HVz : Hid ((wy.drewN nq).ownsRow vb 3 1 (.slice (some ⟨gv, 0, none⟩) 8 capv) 8 (gone ⟨A, B', C, D, E, F, G, H⟩ 7)) := hid HVq.out
              have HBz := hid (below_drewN HBq.out nq)
              clear y1 y2 b1 b2 b3 b4 b5 c1 c2 HVq HBq
              generalize wy.drewN nq = wz at *
              go_wp2_with fail
              go_loopw [14] (fun i wv => ∃ (j : Nat), j ≤ 7 ∧ i = .int .i64 j ∧ Hid (wv.ownsRow vb 3 1 (.slice (some ⟨gv, 0, none⟩) 8 capv) 8 (gone ⟨A, B', C, D, E, F, G, H⟩ j)) ∧ Hid (Below vb w6 wv)) (fun i _ => (intOf i).toNat)
              case atStart => exact ⟨7, Nat.le_refl _, rfl, HVz, HBz⟩
              case round =>
                clear HVz HBz
                obtain ⟨j, hj, rfl, HV, HB⟩ := hrel
                rcases j with _ | j
                · have c4 : wr.cell? ⟨gv, 4, none⟩ = some (.int .i64 (D : Int)) := HV.out.cellAt 4 (by omega)
                  have c0 : wr.cell? ⟨gv, 0, none⟩ = some (.int .i64 (A : Int)) := HV.out.cellAt 0 (by omega)
                  have f0 := HV.out.frozenAt 0
                  have f4 := HV.out.frozenAt 4
                  go_wp2_with fail
                  have e1 : Value.int .i64 (((H : Int) + ((up1 E : Nat) : Int) + ((cho E F G : Nat) : Int) + (kt : Int) + (wt : Int) + (((up0 A : Nat) : Int) + ((maj A B' C : Nat) : Int))) % 4294967296) = iv (rnd ⟨A, B', C, D, E, F, G, H⟩ kt wt).a := congrArg (Value.int .i64) (by rw [rnd_a, pOf, qOf]; simp only; omega)
                  have e2 : Value.int .i64 (((D : Int) + ((H : Int) + ((up1 E : Nat) : Int) + ((cho E F G : Nat) : Int) + (kt : Int) + (wt : Int))) % 4294967296) = iv (rnd ⟨A, B', C, D, E, F, G, H⟩ kt wt).e := congrArg (Value.int .i64) (by rw [rnd_e, pOf]; simp only; omega)
                  rw [e1, e2]
                  refine ⟨⟨t + 1, rnd ⟨A, B', C, D, E, F, G, H⟩ kt wt, by omega, by go_num, hid (rnd_ok HOK2.out _ _), hid (by rw [HN.out, ← HS.out]), hid ?_, hid ((HB.out.setCell (p := ⟨gv, 0, none⟩) hgv _).setCell (p := ⟨gv, 4, none⟩) hgv _)⟩, by simp [intOf]; omega⟩
                  rw [← gone_round]
                  exact (((HV.out.stored 0 (iv (rnd ⟨A, B', C, D, E, F, G, H⟩ kt wt).a)).1).stored 4 (iv (rnd ⟨A, B', C, D, E, F, G, H⟩ kt wt).e)).1
                · have hj6 : j < 7 := by omega
                  have c1 : wr.cell? ⟨gv, j, none⟩ = _ := (HV.out.cellAt j (by omega)).trans (gone_at _ j hj6)
                  obtain ⟨old, hold⟩ := gone_old ⟨A, B', C, D, E, F, G, H⟩ j hj6
                  have c2 : wr.cell? ⟨gv, j + 1, none⟩ = _ := (HV.out.cellAt (j + 1) (by omega)).trans hold
                  have f := HV.out.frozenAt (j + 1)
                  have hst := (HV.out.stored (j + 1) (.int .i64 (((St.nums ⟨A, B', C, D, E, F, G, H⟩).getD j 0 : Nat) : Int))).1
                  rw [gone_step _ j hj6] at hst
                  have HST := hid hst
                  have j1 : (j : Int) + 1 < 8 := by omega
                  have j2 : (j : Int) < 8 := by omega
                  clear hst hold HV
                  generalize (St.nums ⟨A, B', C, D, E, F, G, H⟩).getD j 0 = x at *
                  go_wp2_with fail
                  refine ⟨⟨j, by omega, by go_num, HST, hid (HB.out.setCell (p := ⟨gv, j + 1, none⟩) hgv _)⟩, by simp [intOf]⟩
            · have ht64 : t = 64 := by omega
              have HSP : Hid (work st pc = st.plus s) := hid (by rw [HWK.out, HS.out, ht64])
              replace HH : Hid (wr.heap[kb + 1]? = some (.cells (added st s 0).toArray 3 (0, 0))) := hid ((HBX.out.block _ (by omega)).trans HH.out)
              replace HK := hid ((HBX.out.block _ (by omega)).trans HK.out)
              replace HG := hid ((HBX.out.block _ (by omega)).trans HG.out)
              replace HZ : Hid (∃ z : Array Value, z.size = 32 ∧ wr.heap[w.heap.size]? = some (.cells z 23 (0, 0))) := hid (by obtain ⟨z, hz, hz2⟩ := HZ.out; exact ⟨z, hz, (HBX.out.block _ (by omega)).trans hz2⟩)
              replace HBR := hid (HBR.out.trans (HBX.out.mono (by omega)))
              clear HBX HCK HCX HX HS ht64 HCL HWL HWS HWK
              go_wp2_with fail
              go_loopw [15] (fun i wa => ∃ (m : Nat), m ≤ 8 ∧ i = .int .i64 m ∧ Hid (wa.heap[kb + 1]? = some (.cells (added st s m).toArray 3 (0, 0))) ∧ Hid (wa.ownsRow vb 3 1 (.slice (some ⟨gv, 0, none⟩) 8 capv) 8 s.ints) ∧ Hid (wa.heap[kb]? = some (.cells (cubes.map iv).toArray 3 (0, 0))) ∧ Hid (wa.heap[gb]? = some (.cells curb 5 (0, 0))) ∧ Hid (∃ z : Array Value, z.size = 32 ∧ wa.heap[w.heap.size]? = some (.cells z 23 (0, 0))) ∧ Hid (Below w.heap.size w wa)) (fun i _ => 8 - (intOf i).toNat)
              case atStart => exact ⟨0, Nat.zero_le _, rfl, HH, HV, HK, HG, HZ, HBR⟩
              case round =>
                clear HH HV HK HG HZ HBR
                obtain ⟨m, hm, rfl, HH, HV, HK, HG, HZ, HBR⟩ := hrel
                by_cases hlt8 : m < 8
                · have ch : wr.cell? ⟨kb + 1, m, none⟩ = some (.int .i64 ((st.nums.getD m 0 : Nat) : Int)) := (cell_of_row wr _ m _ _ _ HH.out).trans (by rw [List.getElem?_toArray]; exact added_at st s m hlt8)
                  have cv : wr.cell? ⟨gv, m, none⟩ = some (.int .i64 ((s.nums.getD m 0 : Nat) : Int)) := (HV.out.cellAt m (by omega)).trans (ints_at s m hlt8)
                  have fz : wr.frozen? ⟨kb + 1, m, none⟩ = false := frozen_of_row wr _ _ _ _ HH.out
                  have n1 := nums_lt HOK.out m
                  have n2 := nums_lt HOK2.out m
                  have HAS := hid (added_step st s m hlt8)
                  have mi : (m : Int) < 8 := by omega
                  generalize st.nums.getD m 0 = x at *
                  generalize s.nums.getD m 0 = y at *
                  go_wp2_with fail
                  refine wp_region_still_tail 13 (by kernel_rfl) (by kernel_rfl) ?_
                  simp only [List.take_succ_cons, List.take_zero, List.drop_succ_cons, List.drop_zero]
                  repeat still_step
                  try refine wpStill_nil ?_
                  go_wp2
                  have e1 : Value.int .i64 (((x : Int) + (y : Int)) % 4294967296) = iv ((x + y) % 4294967296) := congrArg (Value.int .i64) (by omega)
                  rw [e1]
                  refine ⟨⟨m + 1, by omega, by go_num, hid ?_, hid (ownsRow_setCell_below HV.out (a := ⟨kb + 1, m, none⟩) (by show kb + 1 < vb; omega) _), hid ((heap_setCell_other wr ⟨kb + 1, m, none⟩ _ _ (by simp)).trans HK.out), hid ((heap_setCell_other wr ⟨kb + 1, m, none⟩ _ _ (by simp; omega)).trans HG.out), hid ?_, hid (HBR.out.setCell (p := ⟨kb + 1, m, none⟩) (by show w.heap.size ≤ kb + 1; omega) _).drew⟩, by simp [intOf]; omega⟩
                  · rw [← HAS.out, ← List.setIfInBounds_toArray]
                    exact heap_setCell_same wr _ _ _ _ _ HH.out
                  · obtain ⟨z, hz, hz2⟩ := HZ.out
                    exact ⟨z, hz, (heap_setCell_other wr ⟨kb + 1, m, none⟩ _ _ (by simp; omega)).trans hz2⟩
                · have hm8 : m = 8 := by omega
                  have HH8 : Hid (wr.heap[kb + 1]? = some (.cells (works pd start (n + 1)).ints.toArray 3 (0, 0))) := hid (by rw [HQ.out, HSP.out, ← added_eight, ← hm8]; exact HH.out)
                  clear hm8 HH HV
                  go_wp2_with fail
                  refine ⟨⟨at' + 64, n + 1, by go_num, hat3, hid (by rw [HAT.out]; omega), HH8, HK, HG, HZ, HBR⟩, by simp [intOf]; omega⟩
        · have hn : n = L / 64 := by have := HAT.out; have := HPL0.out; omega
          replace HSHA : Hid (sha bs = (works pd start n).bytes) := hid (by rw [hn]; exact HSHA.out)
          have HBA := hid (bytes_at (works pd start n))
          have HNL := hid (nums_lt (works_ok pd start_ok n))
          have hbl := St.bytes_length (works pd start n)
          have HIA := hid (ints_at (works pd start n))
          have HWI : Hid (∀ i, (works pd start n).nums.getD i 0 = [(works pd start n).a, (works pd start n).b, (works pd start n).c, (works pd start n).d, (works pd start n).e, (works pd start n).f, (works pd start n).g, (works pd start n).h].getD i 0) := hid (fun _ => rfl)
          generalize (works pd start n).bytes = by32 at *
          generalize hst : works pd start n = st at *
          clear hst hn HSH HLL HPL0 HAT HK HG
          have hkw := block_lt HH.out
          have HB0 : Hid ((wr.alloc (.cells (List.replicate 32 (.int .u8 0)).toArray 23)).heap[wr.heap.size]? = some (.cells ((by32.take 0 ++ List.replicate (32 - 0) 0).map by8).toArray 23 (0, 0))) := hid (heap_alloc_new wr _)
          simp only [List.replicate_succ, List.replicate_zero] at HB0
          replace HH : Hid ((wr.alloc (.cells (List.replicate 32 (.int .u8 0)).toArray 23)).heap[kb + 1]? = some (.cells st.ints.toArray 3 (0, 0))) := hid ((heap_alloc_old wr _ hkw).trans HH.out)
          simp only [List.replicate_succ, List.replicate_zero] at HH
          replace HZ : Hid (∃ z : Array Value, z.size = 32 ∧ (wr.alloc (.cells (List.replicate 32 (.int .u8 0)).toArray 23)).heap[w.heap.size]? = some (.cells z 23 (0, 0))) := hid (by obtain ⟨z, hz, hz2⟩ := HZ.out; exact ⟨z, hz, (heap_alloc_old wr _ (by omega)).trans hz2⟩)
          simp only [List.replicate_succ, List.replicate_zero] at HZ
          replace HBR : Hid (Below w.heap.size w (wr.alloc (.cells (List.replicate 32 (.int .u8 0)).toArray 23))) := hid (HBR.out.alloc (by omega) _)
          simp only [List.replicate_succ, List.replicate_zero] at HBR
          go_wp2_with fail
          generalize World.alloc _ _ = w9 at *
          generalize wr.heap.size = sb at *
          go_loopw [17] (fun i wa => ∃ (k : Nat), k ≤ 32 ∧ i = .int .i64 k ∧ Hid (wa.heap[sb]? = some (.cells ((by32.take k ++ List.replicate (32 - k) 0).map by8).toArray 23 (0, 0))) ∧ Hid (wa.heap[kb + 1]? = some (.cells st.ints.toArray 3 (0, 0))) ∧ Hid (∃ z : Array Value, z.size = 32 ∧ wa.heap[w.heap.size]? = some (.cells z 23 (0, 0))) ∧ Hid (Below w.heap.size w wa)) (fun i _ => 32 - (intOf i).toNat)
          case atStart => exact ⟨0, Nat.zero_le _, rfl, HB0, HH, HZ, HBR⟩
          case round =>
            clear HB0 HH HZ HBR
            obtain ⟨k, hk, rfl, HR, HH, HZ, HBR⟩ := hrel
            by_cases hlt3 : k < 32
            · have hc1 : wr.cell? ⟨kb + 1, k / 4, none⟩ = some (.int .i64 ((st.nums.getD (k / 4) 0 : Nat) : Int)) := (cell_of_row wr _ (k / 4) _ _ _ HH.out).trans (by rw [List.getElem?_toArray]; exact HIA.out (k / 4) (by omega))
              have hfz : wr.frozen? ⟨sb, k, none⟩ = false := frozen_of_row wr _ _ _ _ HR.out
              have hc2 := (cell_of_row wr _ _ _ _ _ HR.out).trans (fill_cell by32 32 k hbl hlt3)
              have HS := hid (HBA.out k hlt3)
              rw [← HWI.out] at HS
              have hwl := HNL.out (k / 4)
              have x4 : (k : Int) < 32 := by omega
              generalize st.nums.getD (k / 4) 0 = x at *
              go_wp2
              rw [show 24 - 8 * (k % 4) = 8 * (3 - k % 4) by omega, by8_shr]
              refine ⟨⟨k + 1, by omega, by go_num, hid ?_, hid ((heap_setCell_other wr ⟨sb, k, none⟩ _ _ (by simp; omega)).trans HH.out), hid ?_, hid (HBR.out.setCell (p := ⟨sb, k, none⟩) (by show w.heap.size ≤ sb; omega) _)⟩, by simp [intOf]; omega⟩
              · rw [← fill_step by32 32 k hbl hlt3 _ HS.out]
                exact heap_setCell_same wr _ _ _ _ _ HR.out
              · obtain ⟨z, hz, hz2⟩ := HZ.out
                exact ⟨z, hz, (heap_setCell_other wr ⟨sb, k, none⟩ _ _ (by simp; omega)).trans hz2⟩
            · have hk32 : k = 32 := by omega
              obtain ⟨A, hA⟩ : ∃ A, A = (by32.map by8).toArray := ⟨_, rfl⟩
              have r2 := HR.out
              rw [hk32, show by32.take 32 ++ List.replicate (32 - 32) 0 = by32 by rw [List.take_of_length_le (by omega)]; simp, ← hA] at r2
              have hAs : A.size = 32 := by rw [hA]; simpa using hbl
              have hA1 : A.all (·.oneCell') = true := by rw [hA]; simp [by8, Value.oneCell']
              obtain ⟨z, hz, hz2⟩ := HZ.out
              have HA := hid hA
              have HR2 := hid r2
              have HR1 := hid hz2
              have HI := hid (show (Tryd.prog.info? 23).map (·.size) = some A.size by rw [hAs]; kernel_rfl)
              have HZS := hid (show z.size = A.size from hz.trans hAs.symm)
              clear hk32 hA r2 hAs hbl HR HZ hz hz2 HIA HBA HNL HWI HH
              go_wp2_with (first
                | (refine wpList_load_row rfl 23 (.tmp 16) rfl sb rfl 23 A (0, 0) _ HR2.out Tryd.underlying23 rfl HI.out ?_)
                | (refine wpList_store_row rfl 23 (.tmp 2) (.tmp 186) rfl w.heap.size A rfl rfl 23 _ HR1.out HI.out HZS.out hA1 ?_)
                | (refine bodyPost_ret (v := .agg A) (results_cell_row rfl _ _ w.heap.size 23 A (0, 0) _ rfl (setRow_heap _ _ _ _ _ _ HR1.out) Tryd.underlying23 rfl HI.out) rfl ⟨by rw [HA.out, HSHA.out], below_setRow HBR.out (Nat.le_refl _) _⟩))
end Go.Proofs.YtmafaioohiaenaaDoor

/- Contracts of the document's own Text and Of. -/

namespace Go.Proofs.YtmafaioohiaenaaDoor
open Go.RowKit
set_option linter.unusedVariables false
set_option maxRecDepth 20000

set_option maxHeartbeats 4000000 in
theorem refText_long (s : ByteArray) (v : Value) (w : World) (h : 16 < s.size) (hm : s.size ≤ maxLen) :
    Calls Tryd.prog 101 #[.string s, v] w fun e w' => e = .returned (.tuple #[.slice none 0 0, .int .i64 2]) ∧ w' = w := by
  unfold maxLen at hm
  go_enter Tryd.func101, Tryd.ntmps101
  go_wp2
  go_ret2
  exact ⟨rfl, rfl⟩

set_option maxHeartbeats 4000000 in
theorem refText_short (B : Nat) (s : ByteArray) (a : Option Addr) (c : Nat) (rows : List (List UInt8)) (w : World) (hs : s.size ≤ 16) (hB : B ≤ w.heap.size) (hL : Lists B w (.slice a rows.length c) rows) (hnl : a = none → c = 0) (hr : rows.length * 24 ≤ 140737488351232) :
    Calls Tryd.prog 101 #[.string s, .slice a rows.length c] w fun e w' => ∃ v', e = .returned (.tuple #[v', .int .i64 (rowOf (s.data.toList :: rows)).1]) ∧ w'.ownsRow w.heap.size 5 1 v' (rowOf (s.data.toList :: rows)).2.length ((rowOf (s.data.toList :: rows)).2.map by8) ∧ Below w.heap.size w w' := by
  obtain ⟨i0, hi, hz0, hz1, hz2⟩ := info_parts Tryd.infoRow
  obtain ⟨cn, wn, hcv, hshn, hbn, hszn, _⟩ := bytes_new s (by unfold maxLen; omega) w
  have h31 := World.ownsRow_lit (base := w.heap.size + 1) (e := 24) (size := 1) wn #[.slice (some ⟨w.heap.size, 0, none⟩) s.size cn] 1 (by omega) (by unfold maxLen; omega) rfl
  have hb1 : Below w.heap.size w (wn.alloc (.cells #[.slice (some ⟨w.heap.size, 0, none⟩) s.size cn] 24)) := hbn.alloc (by omega) _
  have hL1 := hL.below (hb1.mono hB)
  have hnl2 : ∀ l c', Value.slice a rows.length c = .slice none l c' → c' = 0 := fun l c' e => by
    simp only [Value.slice.injEq] at e
    rw [← e.2.2]
    exact hnl e.1
  have HSZ := hid hszn
  have HSN := hid hshn
  clear hszn hshn
  go_enter Tryd.func101, Tryd.ntmps101
  go_wp2_with (first
    | (at_builtin; refine wpList_append_lists _ rfl (.tmp 11) (.tmp 12) 32 rfl (w.heap.size + 1) 24 i0 Tryd.underlying32 hi hz0 hz1 hz2 _ 1 _ rfl h31 B _ rows rfl hL1 hnl2 (by omega) ?base ?_)
    | fail)
  case base => have := HSZ.out; simp; omega
  intro v4 w4 vs hvl hshv hown4 hg4
  have hszn := HSZ.out
  have hb4 : Below w.heap.size w w4 := hb1.grown hg4 (by simp; omega) (fun q hq => by have hq' : some wn.heap.size = some q := hq; cases hq'; omega)
  have hb14 : Below (w.heap.size + 1) (wn.alloc (.cells #[.slice (some ⟨w.heap.size, 0, none⟩) s.size cn] 24)) w4 := (Below.refl _ _).grown hg4 (by simp; omega) (fun q hq => by have hq' : some wn.heap.size = some q := hq; cases hq'; omega)
  have hs4 : wn.heap.size + 1 ≤ w4.heap.size := by have := hg4.size; simpa using this
  have hL4 : Lists w4.heap.size w4 v4 (s.data.toList :: rows) := by
    refine lists_of_owns (B := w.heap.size + 1) (vs := .slice (some ⟨w.heap.size, 0, none⟩) s.size cn :: vs) ?_ (by simp [hvl]) ?_
    · rw [List.length_cons, Nat.add_comm rows.length 1]; simpa using hown4
    · intro j u r hu hrr
      cases j with
      | zero =>
        simp at hu hrr
        subst hu hrr
        exact ((HSN.out.alloc (by omega) _).below hb14).mono (by omega)
      | succ j =>
        have := hshv j u r (by simpa using hu) (by simpa using hrr)
        exact (this.below (hb14.mono (by omega))).mono (by have := hb4.size; omega)
  clear hg4 hshv hown4 h31 hL1 hb14
  have hsz4 := hb4.size
  go_wp2_with fail
  refine (refRow_any w4.heap.size _ (s.data.toList :: rows) w4 (Nat.le_refl _) hL4).mono ?_
  rintro e w5 ⟨v5, rfl, hown5, hb5⟩
  have hb6 := hb4.trans (hb5.mono hsz4)
  have hown6 := ownsRow_mono hown5 hsz4
  clear hb5 hown5 hL4
  generalize hR : rowOf (s.data.toList :: rows) = R at *
  have HR := hid hR
  clear hR
  go_wp2
  go_ret2
  exact ⟨_, by rw [HR.out]; rfl, by rw [HR.out]; exact hown6, hb6⟩

theorem refText_any (B : Nat) (s : ByteArray) (v : Value) (rows : List (List UInt8)) (w : World) (hm : s.size ≤ maxLen) (hB : B ≤ w.heap.size) (hL : Lists B w v rows) (hnl : ∀ l c, v = .slice none l c → c = 0) (hr : rows.length * 24 ≤ 140737488351232) :
    Calls Tryd.prog 101 #[.string s, v] w fun e w' => ∃ v', e = .returned (.tuple #[v', .int .i64 (textOf s.data.toList rows).1]) ∧ w'.ownsRow w.heap.size 5 1 v' (textOf s.data.toList rows).2.length ((textOf s.data.toList rows).2.map by8) ∧ Below w.heap.size w w' := by
  have hsz : s.data.toList.length = s.size := by rw [Array.length_toList]; rfl
  by_cases h : 16 < s.size
  · have e : textOf s.data.toList rows = (2, []) := by rw [textOf, if_pos (by omega)]
    rw [e]
    refine (refText_long s v w h hm).mono fun e w' ⟨he, hw⟩ => ?_
    subst he hw
    exact ⟨_, rfl, World.ownsRow_nil _ _ _ _, Below.refl _ _⟩
  · have e : textOf s.data.toList rows = rowOf (s.data.toList :: rows) := by rw [textOf, if_neg (by omega)]
    rw [e]
    have hL0 := hL
    obtain ⟨a, c, _, rfl, _⟩ := hL
    exact refText_short B s a c rows w (by omega) hB hL0 (fun ha => hnl _ c (by rw [ha])) hr

end Go.Proofs.YtmafaioohiaenaaDoor
