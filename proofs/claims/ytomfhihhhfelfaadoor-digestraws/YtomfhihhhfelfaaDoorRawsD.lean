/- The law DigestRaws, walked. -/
import Derived.Test.YtomfhihhhfelfaaDoorPartsD
import Derived.Test.YtomfhihhhfelfaaDoorRefRaw
import Derived.Test.YtomfhihhhfelfaaDoorLent
namespace Go.Proofs.YtomfhihhhfelfaaDoor
open Go.RowKit
set_option linter.unusedVariables false

set_option maxRecDepth 100000 in
set_option maxHeartbeats 16000000 in
theorem raws_some (a : Option Addr) (c : Nat) (bs : List UInt8) (w : World) (hsh : Shows w.heap.size w (.slice a bs.length c) bs) (hl : bs.length ≤ 140737488351232) (ht : Tables w) :
    Calls Tryd.prog 3 #[.slice a bs.length c] w fun e w' => e = .returned (.bool true) ∧ Below w.heap.size w w' := by
  have hw1 := ht.lt
  go_enter Tryd.func3, Tryd.ntmps3
  go_wp2_with fail
  refine (small_any w ht).mono ?_
  rintro e w1 ⟨rfl, hb1⟩
  have hsz1 := hb1.size
  by_cases h16 : 65536 < bs.length
  · go_wp2
    go_ret
    exact ⟨rfl, hb1⟩
  · go_wp2_with fail
    refine (lent_any w.heap.size _ bs w1 hsz1 (hsh.below hb1) hl).mono ?_
    rintro e w2 ⟨v2, rfl, hL2, hb2⟩
    have hbel2 := hb1.trans (hb2.mono hsz1)
    have hsz2 := hbel2.size
    clear hb2
    go_wp2_with fail
    refine (raw_any w2.heap.size v2 bs w2 (Nat.le_refl _) (hL2.shows (by unfold maxLen; omega)) (by omega) (ht.below hbel2 (by omega))).mono ?_
    rintro e w3 ⟨rfl, hb3⟩
    have hbel3 := hbel2.trans (hb3.mono hsz2)
    have hsz3 := hbel3.size
    have hL3 := hL2.below hb3
    clear hb3 hL2
    have HSL := hid (sha_length bs)
    obtain ⟨f1, f2, f3⟩ := sum_facts (sha bs) HSL.out
    obtain ⟨r1, r2, r3⟩ := new_row w3 ((sha bs).map by8).toArray
    have hEQ := eql_sum (sha bs) HSL.out
    have hi : (Tryd.prog.info? 26).map (·.size) = some ((sha bs).map by8).length := by rw [List.length_map, HSL.out]; exact Tryd.infoSum
    have hcl : ((sha bs).map by8).length = 32 := by rw [List.length_map, HSL.out]
    have hone := by8_one (sha bs)
    have HRA := hid (fun W hB hs => refRaw_any w3.heap.size (.slice a bs.length c) bs W hB hs (by omega))
    have HF1 := hid f1
    have HF2 := hid f2
    have HF3 := hid f3
    have HN1 := hid r1
    have HN2 := hid r2
    have HN3 := hid r3
    have HI := hid hi
    have HCL := hid hcl
    have HONE := hid hone
    have HEQ := hid hEQ
    clear f1 f2 f3 r1 r2 r3 hi hcl hone hEQ
    generalize (sha bs).map by8 = cs at *
    go_wp2_with (first
      | (refine wpList_store_row rfl 26 (.tmp 5) (.tmp 15) rfl w3.heap.size cs.toArray rfl rfl 26 zero32 (heap_alloc_new w3 _) HF1.out HF3.out HF2.out ?_))
    generalize hw4 : World.setRow _ w3.heap.size cs.toArray = w4
    have r1 : w4.heap[w3.heap.size]? = some (.cells cs.toArray 26 (0, 0)) := by rw [← hw4]; exact HN1.out
    have r2 : Below w3.heap.size w3 w4 := by rw [← hw4]; exact HN2.out
    have r3 : w4.heap.size = w3.heap.size + 1 := by rw [← hw4]; exact HN3.out
    clear hw4
    refine (kept_any _ w.heap.size v2 _ bs w4 (hL3.below r2) (hsh.below (hbel3.trans (r2.mono hsz3))) hl).mono ?_
    rintro e w5 ⟨rfl, h5⟩
    rw [h5]
    clear h5 w5
    have HRW : Hid (w4.drew.rangeAt w3.heap.size 0 cs) := hid (rangeAt_row r1)
    have HR1 := hid (HRA.out w4.drew (by show w3.heap.size ≤ w4.heap.size; omega) (((hsh.below (hbel3.trans (r2.mono hsz3))).mono hsz3).below (Below.refl _ _).drew))
    have hBL : w3.heap.size < w4.drew.heap.size := by show w3.heap.size < w4.heap.size; omega
    have HBL := hid hBL
    have HWW := hid (hbel3.trans (r2.drew.mono hsz3))
    have HWS : Hid (w.heap.size ≤ w4.drew.heap.size) := hid (by show w.heap.size ≤ w4.heap.size; omega)
    have hu := Tryd.underlying26
    have hi := HI.out
    have hcl := HCL.out
    have hone := HONE.out
    have hEQ := HEQ.out
    clear hBL r1 r2 r3 hsh hbel2 hbel3 hb1 HN1 HN2 HN3 hL3 ht
    go_wp2_with fail
    go_region_held (fun wx => wx.rangeAt w3.heap.size 0 cs) (first | exact HRW.out | (exact rangeAt_below HRW.out hb5 HBL.out) | go_keep_ranges | assumption)
      ((go_at_call 13; refine HR1.out.mono ?_; rintro e' w5 ⟨rfl, hb5⟩))
    go_wp2
    go_ret
    exact ⟨rfl, HWW.out.trans (hb5.mono HWS.out)⟩

theorem raws_law (v : Value) (bs : List UInt8) (w : World) (hsh : Shows w.heap.size w v bs) (hl : bs.length ≤ 140737488351232) (ht : Tables w) :
    Calls Tryd.prog 3 #[v] w fun e w' => e = .returned (.bool true) ∧ Below w.heap.size w w' := by
  have h0 := hsh
  obtain ⟨a, c, rfl, _⟩ := hsh
  exact raws_some a c bs w h0 hl ht
end Go.Proofs.YtomfhihhhfelfaaDoor
