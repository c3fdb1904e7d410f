/- The law DigestBack, walked. -/
import Derived.Test.YtomfhihhhfelfaaDoorSmallD
import Derived.Test.YtomfhihhhfelfaaDoorEqD
namespace Go.Proofs.YtomfhihhhfelfaaDoor
open Go.RowKit
set_option linter.unusedVariables false

theorem dig_hexDig : ∀ n : Fin 16, digOk (hexDig n.val) = true ∧ digVal (hexDig n.val) = n.val := by decide +kernel
theorem hexDig_dig256 : ∀ n : Fin 256, digOk (UInt8.ofNat n.val) = true → hexDig (digVal (UInt8.ofNat n.val)) = UInt8.ofNat n.val := by decide +kernel
theorem hexDig_dig (c : UInt8) (h : digOk c = true) : hexDig (digVal c) = c := by
  have e : UInt8.ofNat c.toNat = c := by simp
  have := hexDig_dig256 ⟨c.toNat, c.toNat_lt⟩
  simp only [e] at this
  exact this h

theorem hpart_two (l : List UInt8) (j : Nat) (hj : j < 32) (hl : l.length = 64) : (hpart l 64)[j]? = some (UInt8.ofNat (digVal (l[2 * j]?.getD 0) * 16 + digVal (l[2 * j + 1]?.getD 0))) := by
  rw [hpart_at _ _ _ hj, show min 2 (64 - 2 * j) = 2 by omega]
  have e : (l.drop (2 * j)).take 2 = [l[2 * j]?.getD 0, l[2 * j + 1]?.getD 0] := by
    rw [List.getElem?_eq_getElem (by omega), List.getElem?_eq_getElem (by omega), Option.getD_some, Option.getD_some, List.drop_eq_getElem_cons (by omega), List.take_succ_cons, List.drop_eq_getElem_cons (by omega), List.take_succ_cons, List.take_zero]
  rw [e]
  simp [num16]

theorem unhex_hex (bs : List UInt8) (hl : bs.length = 32) : unhexOf (hexOf bs) = (0, bs) := by
  have hlen : (hexOf bs).length = 64 := by rw [hexOf_length, hl]
  rw [unhexOf, if_pos]
  · refine congrArg (Prod.mk 0) (List.ext_getElem? fun j => ?_)
    by_cases hj : j < 32
    · have hb := bs[j].toNat_lt
      obtain ⟨h1, h2⟩ := hexOf_at bs j bs[j] (List.getElem?_eq_getElem (by omega))
      rw [hpart_two _ j hj hlen, h1, h2, Option.getD_some, Option.getD_some, List.getElem?_eq_getElem (by omega)]
      have d1 := (dig_hexDig ⟨bs[j].toNat / 16, by omega⟩).2
      have d2 := (dig_hexDig ⟨bs[j].toNat % 16, by omega⟩).2
      simp only at d1 d2
      rw [d1, d2, show bs[j].toNat / 16 * 16 + bs[j].toNat % 16 = bs[j].toNat by omega]
      simp
    · rw [List.getElem?_eq_none (by rw [hpart_length]; omega), List.getElem?_eq_none (by omega)]
  · refine ⟨hlen, fun c hc => ?_⟩
    unfold hexOf at hc
    obtain ⟨b, hb, hc⟩ := List.mem_flatMap.1 hc
    have hb2 := b.toNat_lt
    simp at hc
    rcases hc with rfl | rfl
    · exact (dig_hexDig ⟨b.toNat / 16, by omega⟩).1
    · exact (dig_hexDig ⟨b.toNat % 16, by omega⟩).1

theorem hex_unhex (l : List UInt8) (h : (unhexOf l).1 = 0) : hexOf (unhexOf l).2 = l ∧ l.length = 64 := by
  unfold unhexOf at h ⊢
  split at h
  · rename_i hc
    rw [if_pos hc]
    obtain ⟨hl, hall⟩ := hc
    refine ⟨List.ext_getElem? fun i => ?_, hl⟩
    simp only
    have key : ∀ k, k < 32 → (hexOf (hpart l 64))[2 * k]? = l[2 * k]? ∧ (hexOf (hpart l 64))[2 * k + 1]? = l[2 * k + 1]? := by
      intro k hk
      have h2 := hpart_two l k hk hl
      obtain ⟨e1, e2⟩ := hexOf_at (hpart l 64) k _ h2
      have v1 := digVal_lt (l[2 * k]?.getD 0)
      have v2 := digVal_lt (l[2 * k + 1]?.getD 0)
      have hm : (UInt8.ofNat (digVal (l[2 * k]?.getD 0) * 16 + digVal (l[2 * k + 1]?.getD 0))).toNat = digVal (l[2 * k]?.getD 0) * 16 + digVal (l[2 * k + 1]?.getD 0) := by rw [UInt8.toNat_ofNat', Nat.mod_eq_of_lt (by omega)]
      rw [hm] at e1 e2
      rw [show (digVal (l[2 * k]?.getD 0) * 16 + digVal (l[2 * k + 1]?.getD 0)) / 16 = digVal (l[2 * k]?.getD 0) by omega] at e1
      rw [show (digVal (l[2 * k]?.getD 0) * 16 + digVal (l[2 * k + 1]?.getD 0)) % 16 = digVal (l[2 * k + 1]?.getD 0) by omega] at e2
      rw [List.getElem?_eq_getElem (show 2 * k < l.length by omega), Option.getD_some, hexDig_dig _ (hall _ (List.getElem_mem _))] at e1
      rw [List.getElem?_eq_getElem (show 2 * k + 1 < l.length by omega), Option.getD_some, hexDig_dig _ (hall _ (List.getElem_mem _))] at e2
      exact ⟨by rw [e1, List.getElem?_eq_getElem], by rw [e2, List.getElem?_eq_getElem]⟩
    by_cases hi : i < 64
    · rcases (by omega : i = 2 * (i / 2) ∨ i = 2 * (i / 2) + 1) with h | h
      · rw [h]; exact (key _ (by omega)).1
      · rw [h]; exact (key _ (by omega)).2
    · rw [List.getElem?_eq_none (by rw [hexOf_length, hpart_length]; omega), List.getElem?_eq_none (by omega)]
  · simp at h

theorem unhex_err (l : List UInt8) : (unhexOf l).1 = 0 ∨ unhexOf l = (4, List.replicate 32 0) := by
  unfold unhexOf
  split
  · simp
  · simp

theorem str8_list (u : List UInt8) : (str8 u).data.toList = u := by simp [str8]
theorem str8_data (s : ByteArray) : str8 s.data.toList = s := by simp [str8]

/-- Facts on a digest as an array. -/
theorem sum_facts (bs : List UInt8) (hl : bs.length = 32) : (Tryd.prog.info? 26).map (·.size) = some (bs.map by8).toArray.size ∧ (bs.map by8).toArray.all (·.oneCell') = true ∧ zero32.size = (bs.map by8).toArray.size := by
  refine ⟨?_, by simp [by8, Value.oneCell'], by simp [zero32, hl]⟩
  rw [show (bs.map by8).toArray.size = 32 by simp [hl]]
  exact Tryd.infoSum

/-- A new block, written at once. -/
theorem new_row (w : World) (A : Array Value) : ((w.alloc (.cells zero32 26)).setRow w.heap.size A).heap[w.heap.size]? = some (.cells A 26 (0, 0)) ∧ Below w.heap.size w ((w.alloc (.cells zero32 26)).setRow w.heap.size A) ∧ ((w.alloc (.cells zero32 26)).setRow w.heap.size A).heap.size = w.heap.size + 1 := by
  have h := heap_alloc_new w (.cells zero32 26)
  refine ⟨setRow_heap _ _ _ _ _ _ h, below_setRow ((Below.refl _ _).alloc (Nat.le_refl _) _) (Nat.le_refl _) _, ?_⟩
  simp [World.setRow]

theorem eq_zero (W : World) : (Op.equalIn 10000 26 (.agg zero32) (.agg zero32)).run Tryd.prog W = .ok true W := by
  rw [zero32_eq, show (10000 : Nat) = 9999 + 1 from rfl]
  exact sum_same_at 9999 _ (by simp) W (fun a => by rw [show (9999 : Nat) = 9998 + 1 from rfl, run_equalIn_int W 9998 5 .u8 .u8 a a Tryd.underlying5]; simp)

set_option maxRecDepth 100000 in
set_option maxHeartbeats 16000000 in
theorem back_law (bs : List UInt8) (s : ByteArray) (w : World) (hl : bs.length = 32) (hs : s.size ≤ 140737488351232) (ht : Tables w) :
    Calls Tryd.prog 7 #[.agg (bs.map by8).toArray, .string s] w fun e w' => e = .returned (.bool true) ∧ Below w.heap.size w w' := by
  have hw1 := ht.lt
  have HUH : Hid (unhexOf (str8 (hexOf bs)).data.toList = (0, bs)) := hid (by rw [str8_list, unhex_hex bs hl])
  have HHL : Hid ((str8 (hexOf bs)).size ≤ maxLen) := hid (by
    have : (str8 (hexOf bs)).size = 64 := by simp [str8, ByteArray.size, hexOf_length, hl]
    rw [this]; unfold maxLen; omega)
  obtain ⟨f1, f2, f3⟩ := sum_facts bs hl
  have HF1 := hid f1
  have HF2 := hid f2
  have HF3 := hid f3
  have hEQ := eql_sum bs hl
  have hb0 : Below w.heap.size w (w.alloc (.cells (bs.map by8).toArray 26)) := (Below.refl _ _).alloc (Nat.le_refl _) _
  have HN0 := hid (heap_alloc_new w (.cells (bs.map by8).toArray 26))
  have HB0 := hid hb0
  have HS0 : Hid ((w.alloc (.cells (bs.map by8).toArray 26)).heap.size = w.heap.size + 1) := hid (by simp)
  have HHX := hid (fun W => hex_any bs W hl)
  clear hb0 f1 f2 f3
  generalize hA : (bs.map by8).toArray = A at *
  have HA := hid hA
  clear hA
  go_enter Tryd.func7, Tryd.ntmps7
  go_wp2_with fail
  refine (small_any _ (ht.below HB0.out (by omega))).mono ?_
  rintro e w1 ⟨rfl, hb1⟩
  have HN1 := hid ((hb1.block _ (by rw [HS0.out]; omega)).trans HN0.out)
  have hbel1 := HB0.out.trans (hb1.mono (by rw [HS0.out]; omega))
  clear hb1
  go_wp2_with (refine wpList_load_want (by rfl) 26 (.tmp 2) rfl w.heap.size rfl 26 A (0, 0) _ _ HN1.out Tryd.underlying26 HF1.out ?_)
  refine (HHX.out w1).mono ?_
  rintro e w2 ⟨rfl, hb2⟩
  have HN2 := hid ((hb2.block _ (block_lt HN1.out)).trans HN1.out)
  have hbel2 := hbel1.trans (hb2.mono hbel1.size)
  clear hb2 hbel1
  go_wp2_with fail
  refine (unhex_any _ w2 HHL.out).mono ?_
  rintro e w3 ⟨rfl, hb3⟩
  have HN3 := hid ((hb3.block _ (block_lt HN2.out)).trans HN2.out)
  have hbel3 := hbel2.trans (hb3.mono hbel2.size)
  rw [HUH.out]
  simp only
  rw [HA.out]
  clear hb3 hbel2
  obtain ⟨r1, r2, r3⟩ := new_row w3 A
  have HR1 := hid r1
  have HR2 := hid r2
  have HR3 := hid r3
  clear r1 r2 r3
  go_wp2_with (refine wpList_store_row rfl 26 (.tmp 6) (.tmp 15) rfl w3.heap.size A rfl rfl 26 zero32 (heap_alloc_new w3 _) HF1.out HF3.out HF2.out ?_)
  refine (unhex_any s _ (by unfold maxLen; omega)).mono ?_
  rintro e w5 ⟨rfl, hb5⟩
  replace hb5 : Below (w3.heap.size + 1) ((w3.alloc (.cells zero32 26)).setRow w3.heap.size A) w5 := by rw [← HR3.out]; exact hb5
  have hw3 := block_lt HN3.out
  have HN5 := hid ((hb5.block _ (by omega)).trans ((HR2.out.block _ hw3).trans HN3.out))
  have HM5 := hid ((hb5.block _ (by omega)).trans HR1.out)
  have hbel5 : Below w.heap.size w w5 := hbel3.trans ((HR2.out.trans (hb5.mono (by omega))).mono hbel3.size)
  clear hb5 HN3 HN2 HN1 HN0 hbel3 HR1 HR2 HR3
  have HUE := hid (unhex_err s.data.toList)
  have HHU := hid (hex_unhex s.data.toList)
  have HUL := hid (unhexOf_length s.data.toList)
  generalize hU : unhexOf s.data.toList = U at *
  have HU := hid hU
  clear hU
  have HUS := hid (sum_facts U.2 HUL.out)
  have hw5 := block_lt HM5.out
  rcases HUE.out with hz | hz
  · obtain ⟨hhx, hhl⟩ := HHU.out hz
    have HHX2 := hid (hex_any U.2 ((w5.alloc (.cells zero32 26)).setRow w5.heap.size (U.2.map by8).toArray) HUL.out)
    have hse : str8 (hexOf U.2) = s := by rw [hhx, str8_data]
    rw [hse] at HHX2
    rw [hz]
    obtain ⟨r1, r2, r3⟩ := new_row w5 (U.2.map by8).toArray
    have HR1 := hid r1
    have HR2 := hid r2
    have HR3 := hid r3
    clear r1 r2 r3 hhx hhl hse
    generalize (U.2.map by8).toArray = V at *
    go_wp2_with (first
      | (refine wpList_store_row rfl 26 (.tmp 8) (.tmp 20) rfl w5.heap.size V rfl rfl 26 zero32 (heap_alloc_new w5 _) HUS.out.1 HUS.out.2.2 HUS.out.2.1 ?_)
      | (refine wpList_load_want (by rfl) 26 (.tmp 8) rfl w5.heap.size rfl 26 V (0, 0) _ _ HR1.out Tryd.underlying26 HUS.out.1 ?_))
    refine HHX2.out.mono ?_
    rintro e w6 ⟨rfl, hb6⟩
    replace hb6 : Below (w5.heap.size + 1) ((w5.alloc (.cells zero32 26)).setRow w5.heap.size V) w6 := by rw [← HR3.out]; exact hb6
    have hwn := block_lt HN5.out
    have HN6 := hid ((hb6.block _ (by omega)).trans ((HR2.out.block _ hwn).trans HN5.out))
    have HM6 := hid ((hb6.block _ (by omega)).trans ((HR2.out.block _ hw5).trans HM5.out))
    have hbel6 : Below w.heap.size w w6 := hbel5.trans ((HR2.out.trans (hb6.mono (by omega))).mono hbel5.size)
    clear hb6 HR1 HR2 HR3 HHX2 hbel5
    have hss : (s.toList == s.toList) = true := by simp
    go_wp2_with (first
      | (refine wpList_load_want (by rfl) 26 (.tmp 6) rfl w3.heap.size rfl 26 A (0, 0) _ _ HM6.out Tryd.underlying26 HF1.out ?_)
      | (refine wpList_load_want (by rfl) 26 (.tmp 2) rfl w.heap.size rfl 26 A (0, 0) _ _ HN6.out Tryd.underlying26 HF1.out ?_))
    go_ret
    exact ⟨rfl, hbel6⟩
  · have hz1 : U.1 = 4 := by rw [hz]
    have hz2 : (U.2.map by8).toArray = zero32 := by rw [hz, zero32_eq]
    rw [hz1, hz2]
    obtain ⟨r1, r2, r3⟩ := new_row w5 zero32
    have HR1 := hid r1
    have HR2 := hid r2
    have HR3 := hid r3
    clear r1 r2 r3
    have hEZ : ∀ W : World, (Op.equalIn 10000 26 (.agg zero32) (.agg #[.int .u8 0, .int .u8 0, .int .u8 0, .int .u8 0, .int .u8 0, .int .u8 0, .int .u8 0, .int .u8 0, .int .u8 0, .int .u8 0, .int .u8 0, .int .u8 0, .int .u8 0, .int .u8 0, .int .u8 0, .int .u8 0, .int .u8 0, .int .u8 0, .int .u8 0, .int .u8 0, .int .u8 0, .int .u8 0, .int .u8 0, .int .u8 0, .int .u8 0, .int .u8 0, .int .u8 0, .int .u8 0, .int .u8 0, .int .u8 0, .int .u8 0, .int .u8 0])).run Tryd.prog W = .ok true W := fun W => eq_zero W
    have hwn := block_lt HN5.out
    have HN6 := hid ((HR2.out.block _ hwn).trans HN5.out)
    have HM6 := hid ((HR2.out.block _ hw5).trans HM5.out)
    have hbel6 := hbel5.trans (HR2.out.mono hbel5.size)
    clear hz hz1 hz2
    go_wp2_with (first
      | (refine wpList_store_row rfl 26 (.tmp 8) (.tmp 20) rfl w5.heap.size zero32 rfl rfl 26 zero32 (heap_alloc_new w5 _) Tryd.infoSum rfl zero32_one ?_)
      | (refine wpList_load_want (by rfl) 26 (.tmp 6) rfl w3.heap.size rfl 26 A (0, 0) _ _ HM6.out Tryd.underlying26 HF1.out ?_)
      | (refine wpList_load_want (by rfl) 26 (.tmp 2) rfl w.heap.size rfl 26 A (0, 0) _ _ HN6.out Tryd.underlying26 HF1.out ?_)
      | (refine wpList_load_want (by rfl) 26 (.tmp 8) rfl w5.heap.size rfl 26 zero32 (0, 0) _ _ HR1.out Tryd.underlying26 Tryd.infoSum ?_))
    go_ret
    exact ⟨rfl, hbel6⟩
end Go.Proofs.YtomfhihhhfelfaaDoor
