/- Contracts of the document's own Hex, digit, Unhex. -/
import Derived.Test.YtomfhihhhfelfaaDoorKitD
import Derived.Deep.RegionHeld3
import Derived.Deep.AppendLies
namespace Go.Proofs.YtomfhihhhfelfaaDoor
open Go.RowKit
set_option linter.unusedVariables false

theorem hexOf_take (bs : List UInt8) (k : Nat) (u : UInt8) (h : bs[k]? = some u) : hexOf (bs.take (k + 1)) = hexOf (bs.take k) ++ [hexDig (u.toNat / 16), hexDig (u.toNat % 16)] := by
  have hk : k < bs.length := (List.getElem?_eq_some_iff.1 h).1
  have e : bs[k] = u := (List.getElem?_eq_some_iff.1 h).2
  rw [List.take_succ_eq_append_getElem hk, e]
  simp [hexOf]

set_option maxRecDepth 100000 in
set_option maxHeartbeats 8000000 in
theorem refHex_any (bs : List UInt8) (w : World) (hl : bs.length = 32) :
    Calls Tryd.prog 22 #[.agg (bs.map by8).toArray] w fun e w' => e = .returned (.string (str8 (hexOf bs))) ∧ Below w.heap.size w w' := by
  obtain ⟨i0, hi0, hz0, hz1, hz2⟩ := info_parts Tryd.infoU8
  have HC : Hid (∀ k, k < 32 → (bs.map by8).toArray[k]? = some (.int .u8 ((bs[k]?.getD 0).toNat : Int))) := hid (fun k hk => by simp [hl, hk, by8])
  have HN0 := hid (heap_alloc_new w (.cells (bs.map by8).toArray 26))
  have HB0 : Hid (Below w.heap.size w (w.alloc (.cells (bs.map by8).toArray 26))) := hid ((Below.refl _ _).alloc (Nat.le_refl _) _)
  have HS0 : Hid ((w.alloc (.cells (bs.map by8).toArray 26)).heap.size = w.heap.size + 1) := hid (by simp)
  have HTK : Hid (∀ k, k < 32 → hexOf (bs.take (k + 1)) = hexOf (bs.take k) ++ [hexDig ((bs[k]?.getD 0).toNat / 16), hexDig ((bs[k]?.getD 0).toNat % 16)]) := hid (fun k hk => hexOf_take bs k _ (by rw [List.getElem?_eq_getElem (by omega)]; rfl))
  have HLN : Hid (∀ k, k ≤ 32 → (hexOf (bs.take k)).length = 2 * k) := hid (fun k hk => by rw [hexOf_length]; simp; omega)
  have HFL : Hid (hexOf (bs.take 32) = hexOf bs) := hid (by rw [List.take_of_length_le (by omega)])
  generalize (bs.map by8).toArray = A at *
  go_enter Tryd.func22, Tryd.ntmps22
  go_wp2_with fail
  generalize w.alloc _ = w0 at *
  go_loopw [4, 5] (fun u i wr => ∃ (k : Nat) (x4v : Value), k ≤ 32 ∧ u = x4v ∧ i = .int .i64 k ∧ wr.ownsRow (w.heap.size + 1) 5 1 x4v (2 * k) ((hexOf (bs.take k)).map by8) ∧ Hid (wr.heap[w.heap.size]? = some (.cells A 26 (0, 0))) ∧ Below w.heap.size w wr) (fun _ i _ => 32 - (intOf i).toNat)
  case atStart => exact ⟨0, _, Nat.zero_le _, rfl, rfl, by simpa [hexOf] using World.ownsRow_nil _ _ _ _, HN0, HB0.out⟩
  case round =>
    obtain ⟨k, x4v, hk, hx4, rfl, hown, HR, hbr⟩ := hrel
    subst hx4
    have hszr := hbr.size
    have hblk := block_lt HR.out
    by_cases hlt : k < 32
    · have hc1 : wr.cell? ⟨w.heap.size, k, none⟩ = _ := (cell_of_row wr _ k _ _ _ HR.out).trans (HC.out k hlt)
      have hbt := (bs[k]?.getD 0).toNat_lt
      have HTKk := hid (HTK.out k hlt)
      have x4 : (k : Int) < 32 := by omega
      have x5 : (0 : Int) ≤ (k : Int) := by omega
      generalize (bs[k]?.getD 0).toNat = x at *
      have hx1 := hexDig_run (x / 16) (by omega)
      have hx2 := hexDig_run (x % 16) (by omega)
      have hx0 : ((x / 16 : Nat) : Int) = (x : Int) / 16 := by omega
      have hxm : ((x % 16 : Nat) : Int) = (x : Int) % 16 := by omega
      rw [hx0] at hx1
      rw [hxm] at hx2
      clear hx0 hxm
      have hwx : IntKind.u8.wrap ((x : Int) / 16) = (x : Int) / 16 := by rw [IntKind.wrap_u8]; omega
      have hwy : (x : Int).tmod 16 = (x : Int) % 16 := Int.tmod_eq_emod_of_nonneg (by omega)
      have hb1 : (0 : Int) ≤ (x : Int) / 16 := by omega
      have hb2 : (x : Int) / 16 < 16 := by omega
      have hb3 : (0 : Int) ≤ (x : Int) % 16 := by omega
      have hb4 : (x : Int) % 16 < 16 := by omega
      have hne : u4.ownBlock ≠ some w.heap.size := fun e => by have := (hown.lt _ e).1; omega
      go_wp2_with fail
      go_region_held3 (fun w' => w'.cell? ⟨w.heap.size, k, none⟩ = some (.int .u8 (x : Int)) ∧ (Instr.index 9 (.string ⟨#[48, 49, 50, 51, 52, 53, 54, 55, 56, 57, 97, 98, 99, 100, 101, 102]⟩) (.int .u8 ((x : Int) / 16))).run Tryd.prog w' = .ok (.int .u8 ((hexDig (x / 16)).toNat : Int)) w' ∧ (Instr.index 9 (.string ⟨#[48, 49, 50, 51, 52, 53, 54, 55, 56, 57, 97, 98, 99, 100, 101, 102]⟩) (.int .u8 ((x : Int) % 16))).run Tryd.prog w' = .ok (.int .u8 ((hexDig (x % 16)).toNat : Int)) w')
        ((refine ⟨?_, hx1 _, hx2 _⟩; first
          | go_keep
          | (rw [hgrow.cell_far _ (by simp; omega) (Ne.symm hne)]; go_split_ands; assumption)))
        ((refine step_append_lies _ (by rfl) _ _ _ (by rfl) (w.heap.size + 1) 5 i0 _ 1 1 Tryd.underlying22 hi0 hz0 hz1 hz2 rfl (by omega) u4 (2 * k) ((hexOf (bs.take k)).map by8) (by rfl) ((hown.alloc _).drew)
            ⟨wr.heap.size, 0, none⟩ 2 2 [.int .u8 ((hexDig (x / 16)).toNat : Int), .int .u8 ((hexDig (x % 16)).toNat : Int)] (by rfl) (by rfl) (World.news_of_block (cs := #[.int .u8 ((hexDig (x / 16)).toNat : Int), .int .u8 ((hexDig (x % 16)).toNat : Int)]) (t := 5) (fr := (0, 0)) (heap_alloc_new wr _)) (by simp [Value.oneCell'])
            (by omega) (by unfold maxLen; omega) (by omega) (by simp; omega) (wr.heap.size + 1) (by simp) ?_; intro gg cap w1 hown1 hgrow hat hlt1))
      all_goals
        have hbw : Below w.heap.size w w1 := ((hbr.alloc hszr _).drew).grown hgrow (by show w.heap.size ≤ (wr.heap.push _).size; simp; omega) (fun q hq => by have := (hown.lt q hq).1; omega)
        have hrw : w1.heap[w.heap.size]? = _ := (hgrow.block w.heap.size (by show w.heap.size < (wr.heap.push _).size; simp; omega) (Ne.symm hne)).trans ((heap_alloc_old wr _ hblk).trans HR.out)
        have HRW := hid hrw
        clear hgrow hown hrw
        go_wp2
        go_roundw
        case rel =>
          refine ⟨k + 1, _, by omega, rfl, by go_num, ?_, HRW, hbw⟩
          rw [HTKk.out, List.map_append, show 2 * (k + 1) = 2 * k + 2 by omega]
          exact hown1
        case measure => simp [intOf]; omega
    · have hk32 : k = 32 := by omega
      have hsh : Shows wr.heap.size wr u4 (hexOf bs) := by
        rw [hk32, HFL.out] at hown
        exact (shows_of_owns hown).2
      have hcv := strs hsh
      clear hown hsh
      go_wp2
      go_ret
      exact ⟨rfl, hbr⟩

/-- The document's digit: its number, or -1. -/
def refDig (c : UInt8) : Int := if digit c < 16 then (digit c : Int) else -1

set_option maxHeartbeats 1000000 in
theorem refDigit_any (c : UInt8) (w : World) :
    Calls Tryd.prog 36 #[.int .u8 (c.toNat : Int)] w fun e w' => e = .returned (.int .i64 (refDig c)) ∧ w' = w := by
  have hc := c.toNat_lt
  by_cases h1 : 48 ≤ c.toNat ∧ c.toNat ≤ 57
  · have hd : digit c = c.toNat - 48 := by rw [digit, if_pos h1]
    have HV : Hid (refDig c = (c.toNat : Int) - 48) := hid (by rw [refDig, if_pos (by omega), hd]; omega)
    obtain ⟨h2, h3⟩ := h1
    clear hd
    generalize c.toNat = n at *
    go_enter Tryd.func36, Tryd.ntmps36
    go_wp2
    go_ret
    exact ⟨by rw [HV.out]; rfl, rfl⟩
  · by_cases h4 : 97 ≤ c.toNat ∧ c.toNat ≤ 102
    · have hd : digit c = c.toNat - 87 := by rw [digit, if_neg h1, if_pos h4]
      have HV : Hid (refDig c = (c.toNat : Int) - 97 + 10) := hid (by rw [refDig, if_pos (by omega), hd]; omega)
      obtain ⟨h2, h3⟩ := h4
      have h5 : ¬ (c.toNat : Int) ≤ 57 := by omega
      clear hd h1
      generalize c.toNat = n at *
      go_enter Tryd.func36, Tryd.ntmps36
      go_wp2
      go_ret
      exact ⟨by rw [HV.out]; rfl, rfl⟩
    · have hd : digit c = 16 := by rw [digit, if_neg h1, if_neg h4]
      have HV : Hid (refDig c = -1) := hid (by rw [refDig, if_neg (by omega)])
      clear hd
      generalize c.toNat = n at *
      by_cases h5 : n < 48
      · go_enter Tryd.func36, Tryd.ntmps36
        go_wp2
        go_ret
        exact ⟨by rw [HV.out]; rfl, rfl⟩
      · by_cases h6 : n < 97
        · have h7 : ¬ (n : Int) ≤ 57 := by omega
          go_enter Tryd.func36, Tryd.ntmps36
          go_wp2
          go_ret
          exact ⟨by rw [HV.out]; rfl, rfl⟩
        · have h7 : ¬ (n : Int) ≤ 57 := by omega
          have h8 : ¬ (n : Int) ≤ 102 := by omega
          go_enter Tryd.func36, Tryd.ntmps36
          go_wp2
          go_ret
          exact ⟨by rw [HV.out]; rfl, rfl⟩

theorem refDig_ok (c : UInt8) : (digOk c = true → refDig c = (digVal c : Int)) ∧ (digOk c = false → refDig c = -1) := by
  unfold refDig digOk digVal
  constructor
  · intro h
    have := of_decide_eq_true h
    rw [if_pos this, if_pos this]
  · intro h
    have := of_decide_eq_false h
    rw [if_neg this]

set_option maxRecDepth 100000 in
set_option maxHeartbeats 8000000 in
theorem refUnhex_len (s : ByteArray) (w : World) (hn : s.size ≠ 64) (hm : s.size ≤ maxLen) :
    Calls Tryd.prog 20 #[.string s] w fun e w' => e = .returned (.tuple #[.agg zero32, .int .i64 4]) ∧ Below w.heap.size w w' := by
  unfold maxLen at hm
  have hn2 : ((s.size : Int) != 64) = true := by rw [bne_iff_ne]; omega
  obtain ⟨b1, b0, hbel⟩ := two_new w (.cells zero32 26) (.cells zero32 26)
  have HB1 := hid b1
  have HB0 := hid b0
  have HBL := hid hbel
  clear b1 b0 hbel
  go_enter Tryd.func20, Tryd.ntmps20
  go_wp2_with (first
    | (refine wpList_load_row rfl 26 (.tmp 4) rfl (w.heap.size + 1) rfl 26 zero32 (0, 0) _ HB1.out Tryd.underlying26 rfl Tryd.infoSum ?_)
    | (refine wpList_store_row rfl 26 (.tmp 2) (.tmp 10) rfl w.heap.size zero32 rfl rfl 26 zero32 HB0.out Tryd.infoSum rfl zero32_one ?_))
  refine bodyPost_ret (v := .tuple #[.agg zero32, .int .i64 4]) (results_row_tmp (p := 2) (u := 3) (ty := 26) rfl _ _ w.heap.size 26 zero32 (0, 0) _ _ rfl (setRow_heap _ _ _ _ _ _ HB0.out) Tryd.underlying26 Tryd.infoSum) rfl ⟨rfl, below_setRow HBL.out (Nat.le_refl _) _⟩

set_option maxRecDepth 100000 in
set_option maxHeartbeats 8000000 in
theorem refUnhex_64 (s : ByteArray) (w : World) (hn : s.size = 64) :
    Calls Tryd.prog 20 #[.string s] w fun e w' => e = .returned (.tuple #[.agg ((unhexOf s.data.toList).2.map by8).toArray, .int .i64 (unhexOf s.data.toList).1]) ∧ Below w.heap.size w w' := by
  have hsz : s.data.toList.length = 64 := by rw [Array.length_toList]; exact hn
  have HBAD : Hid (∀ k, k < 64 → digOk (s.data.toList[k]?.getD 0) = false → Ending.returned (.tuple #[.agg ((unhexOf s.data.toList).2.map by8).toArray, .int .i64 (unhexOf s.data.toList).1]) = .returned (.tuple #[.agg zero32, .int .i64 4])) := hid (fun k hk hd => by
    have : unhexOf s.data.toList = (4, List.replicate 32 0) := by
      rw [unhexOf, if_neg]
      rintro ⟨_, hall⟩
      have := hall (s.data.toList[k]'(by omega)) (List.getElem_mem _)
      rw [List.getElem?_eq_getElem (by omega), Option.getD_some] at hd
      rw [hd] at this
      cases this
    rw [this, zero32_eq]
    rfl)
  have HOK : Hid ((∀ k, k < 64 → digOk (s.data.toList[k]?.getD 0) = true) → Ending.returned (.tuple #[.agg ((unhexOf s.data.toList).2.map by8).toArray, .int .i64 (unhexOf s.data.toList).1]) = .returned (.tuple #[.agg ((hpart s.data.toList 64).map by8).toArray, .int .i64 0])) := hid (fun hall => by
    have : unhexOf s.data.toList = (0, hpart s.data.toList 64) := by
      rw [unhexOf, if_pos]
      refine ⟨hsz, fun c hc => ?_⟩
      obtain ⟨j, hj, rfl⟩ := List.getElem_of_mem hc
      have := hall j (by omega)
      rwa [List.getElem?_eq_getElem hj, Option.getD_some] at this
    rw [this]
    rfl)
  have HIX : Hid (∀ (k : Nat) (W : World), k < 64 → (Instr.index 9 (.string s) (.int .i64 (k : Int))).run Tryd.prog W = .ok (.int .u8 ((s.data.toList[k]?.getD 0).toNat : Int)) W) := hid (fun k W hk => by
    have h1 : s[k]? = some (s.data.toList[k]?.getD 0) := by
      have h2 : k < s.size := by omega
      rw [getElem?_pos s k h2]
      rw [List.getElem?_eq_getElem (by omega), Option.getD_some]
      simp
      rfl
    simp [Instr.index, run_underlying Tryd.underlying9, asIntOf, h1])
  have HST : Hid (∀ k, k < 64 → ∃ x : Nat, x < 16 ∧ (hpart s.data.toList k)[k / 2]? = some (UInt8.ofNat x) ∧ hpart s.data.toList (k + 1) = (hpart s.data.toList k).set (k / 2) (UInt8.ofNat (x * 16 + digVal (s.data.toList[k]?.getD 0)))) := hid (fun k hk => hpart_step _ k hk hsz)
  have hns : ((s.size : Int) != 64) = false := by rw [hn]; rfl
  clear hsz
  generalize hl : s.data.toList = l at *
  have HL := hid hl
  clear hl
  go_enter Tryd.func20, Tryd.ntmps20
  go_wp2_with fail
  obtain ⟨b1, b0, hbel⟩ := two_new w (.cells zero32 26) (.cells zero32 26)
  simp only [zero32, List.replicate_succ, List.replicate_zero] at b1 b0 hbel
  generalize World.alloc _ _ = w0 at *
  have HB1 : Hid (w0.heap[w.heap.size + 1]? = some (.cells ((hpart l 0).map by8).toArray 26 (0, 0))) := hid (by rw [hpart_zero]; exact b1)
  have HB0 : Hid (w0.heap[w.heap.size]? = some (.cells zero32 26 (0, 0))) := hid b0
  clear b1 b0
  go_loopw [5] (fun i wr => ∃ k : Nat, k ≤ 64 ∧ i = .int .i64 k ∧ Hid (wr.heap[w.heap.size + 1]? = some (.cells ((hpart l k).map by8).toArray 26 (0, 0))) ∧ Hid (wr.heap[w.heap.size]? = some (.cells zero32 26 (0, 0))) ∧ Hid (∀ j, j < k → digOk (l[j]?.getD 0) = true) ∧ Below w.heap.size w wr) (fun i _ => 64 - (intOf i).toNat)
  case atStart => exact ⟨0, Nat.zero_le _, rfl, HB1, HB0, hid (fun j hj => by omega), hbel⟩
  case round =>
    clear HB1 HB0 hbel
    obtain ⟨k, hk, rfl, HR1, HR0, HD, hbr⟩ := hrel
    by_cases hlt : k < 64
    · obtain ⟨x, hx, hx2, hx3⟩ := HST.out k hlt
      have hix := fun W => HIX.out k W hlt
      have HX3 := hid hx3
      have hc1 : wr.cell? ⟨w.heap.size + 1, k / 2, none⟩ = some (.int .u8 (x : Int)) := by
        rw [cell_of_row wr _ _ _ _ _ HR1.out, List.getElem?_toArray, List.getElem?_map, hx2]
        simp [by8, UInt8.toNat_ofNat']
        omega
      have hf1 : wr.frozen? ⟨w.heap.size + 1, k / 2, none⟩ = false := frozen_of_row wr _ _ _ _ HR1.out
      have HDG := hid (fun W => refDigit_any (l[k]?.getD 0) W)
      have HBK := hid (HBAD.out k hlt)
      have k4 : (k : Int) < 64 := by omega
      clear hx2 hx3
      cases hd : digOk (l[k]?.getD 0) with
      | false =>
        rw [(refDig_ok _).2 hd] at HDG
        have HE := hid (HBK.out hd)
        clear hd HBK
        generalize digVal (l[k]?.getD 0) = dv at *
        generalize (l[k]?.getD 0).toNat = cv at *
        go_wp2_with (first
          | (go_at_call 36; refine (HDG.out _).mono ?_; rintro e' w' ⟨rfl, rfl⟩)
          | (refine wpList_store_row rfl 26 (.tmp 2) (.tmp 21) rfl w.heap.size zero32 rfl rfl 26 zero32 HR0.out Tryd.infoSum rfl zero32_one ?_))
        refine bodyPost_ret (v := .tuple #[.agg zero32, .int .i64 4]) (results_row_tmp (p := 2) (u := 3) (ty := 26) rfl _ _ w.heap.size 26 zero32 (0, 0) _ _ rfl (setRow_heap _ _ _ _ _ _ HR0.out) Tryd.underlying26 Tryd.infoSum) rfl ⟨?_, below_setRow hbr (Nat.le_refl _) _⟩
        exact HE.out.symm
      | true =>
        rw [(refDig_ok _).1 hd] at HDG
        have HDK := hid hd
        have HDL := hid (digVal_lt (l[k]?.getD 0))
        clear hd HBK
        generalize hdv : digVal (l[k]?.getD 0) = dv at *
        have HDV := hid hdv
        clear hdv
        generalize (l[k]?.getD 0).toNat = cv at *
        have hdl := HDL.out
        go_wp2_with (first
          | (go_at_call 36; refine (HDG.out _).mono ?_; rintro e' w' ⟨rfl, rfl⟩))
        refine ⟨⟨k + 1, by omega, by go_num, hid ?_, hid ?_, hid ?_, hbr.setCell (p := ⟨w.heap.size + 1, k / 2, none⟩) (Nat.le_succ _) _⟩, by simp [intOf]; omega⟩
        · rw [HX3.out]
          refine (heap_setCell_same _ _ _ _ _ _ HR1.out).trans ?_
          rw [List.setIfInBounds_toArray, List.map_set]
          have e : by8 (UInt8.ofNat (x * 16 + dv)) = .int .u8 ((x * 16 + dv : Nat) : Int) := by
            have := HDL.out
            rw [by8, UInt8.toNat_ofNat', Nat.mod_eq_of_lt (by omega)]
          rw [e, show ((x * 16 + dv : Nat) : Int) = (x : Int) * 16 + (dv : Int) from by omega]
        · rw [← HR0.out]
          exact heap_setCell_other _ _ _ _ (by simp)
        · intro j hj
          rcases Nat.lt_or_ge j k with h | h
          · exact HD.out j h
          · rw [show j = k by omega]; exact HDK.out
    · have hk64 : k = 64 := by omega
      obtain ⟨A, hA⟩ : ∃ A, A = ((hpart l 64).map by8).toArray := ⟨_, rfl⟩
      have HE := hid (HOK.out (fun j hj => HD.out j (by omega)))
      have HR2 : Hid (wr.heap[w.heap.size + 1]? = some (.cells A 26 (0, 0))) := hid (by have := HR1.out; rw [hk64] at this; rw [hA]; exact this)
      have hAs : A.size = 32 := by rw [hA]; simpa using hpart_length l 64
      have hA1 : A.all (·.oneCell') = true := by rw [hA]; simp [by8, Value.oneCell']
      have HI := hid (show (Tryd.prog.info? 26).map (·.size) = some A.size by rw [hAs]; exact Tryd.infoSum)
      have HZ := hid (show zero32.size = A.size from hAs.symm)
      have HA := hid hA
      clear hA hAs hk64
      go_wp2_with (first
        | (refine wpList_load_row rfl 26 (.tmp 4) rfl (w.heap.size + 1) rfl 26 A (0, 0) _ HR2.out Tryd.underlying26 rfl HI.out ?_)
        | (refine wpList_store_row rfl 26 (.tmp 2) (.tmp 33) rfl w.heap.size A rfl rfl 26 zero32 HR0.out HI.out HZ.out hA1 ?_))
      refine bodyPost_ret (v := .tuple #[.agg A, .int .i64 0]) (results_row_tmp (p := 2) (u := 3) (ty := 26) rfl _ _ w.heap.size 26 A (0, 0) _ _ rfl (setRow_heap _ _ _ _ _ _ HR0.out) Tryd.underlying26 HI.out) rfl ⟨?_, below_setRow hbr (Nat.le_refl _) _⟩
      rw [HA.out]
      exact HE.out.symm

theorem refUnhex_any (s : ByteArray) (w : World) (hm : s.size ≤ maxLen) :
    Calls Tryd.prog 20 #[.string s] w fun e w' => e = .returned (.tuple #[.agg ((unhexOf s.data.toList).2.map by8).toArray, .int .i64 (unhexOf s.data.toList).1]) ∧ Below w.heap.size w w' := by
  by_cases h : s.size = 64
  · exact refUnhex_64 s w h
  · have e : unhexOf s.data.toList = (4, List.replicate 32 0) := by
      rw [unhexOf, if_neg]
      rintro ⟨h1, _⟩
      exact h (by rw [← h1, Array.length_toList]; rfl)
    rw [e]
    refine (refUnhex_len s w h hm).mono fun e' w' ⟨he, hb⟩ => ⟨?_, hb⟩
    rw [he, zero32_eq]
    rfl
end Go.Proofs.YtomfhihhhfelfaaDoor
