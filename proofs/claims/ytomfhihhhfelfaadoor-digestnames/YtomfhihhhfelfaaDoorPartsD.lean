/- The law DigestParts, walked. -/
import Derived.Test.YtomfhihhhfelfaaDoorSmallD
import Derived.Test.YtomfhihhhfelfaaDoorOfD
import Derived.Test.YtomfhihhhfelfaaDoorEqD
import Derived.Test.YtomfhihhhfelfaaDoorBackD
import Derived.Deep.RegionHeld
namespace Go.Proofs.YtomfhihhhfelfaaDoor
open Go.RowKit
set_option linter.unusedVariables false

theorem rangeAt_below {w w' : World} {B g : Nat} {cs : List Value} (h : w.rangeAt g 0 cs) (hb : Below B w w') (hg : g < B) : w'.rangeAt g 0 cs := fun j v hv => by
  rw [hb.cell (p := ⟨g, 0 + j, none⟩) hg]
  exact h j v hv

theorem rangeAt_row {w : World} {g : Nat} {cs : List Value} {t : TypeId} (h : w.heap[g]? = some (.cells cs.toArray t (0, 0))) : w.rangeAt g 0 cs := fun j v hv => by
  rw [cell_of_row w _ _ _ _ _ h, Nat.zero_add]
  simpa using hv

set_option maxRecDepth 100000 in
set_option maxHeartbeats 16000000 in
theorem parts_some (s : ByteArray) (a : Option Addr) (c : Nat) (rows : List (List UInt8)) (w : World) (hs : s.size ≤ 140737488351232) (hL : Lists w.heap.size w (.slice a rows.length c) rows) (hnl : ∀ l c', Value.slice a rows.length c = .slice none l c' → c' = 0) (hr : rows.length * 24 ≤ 140737488351232) (ht : Tables w) :
    Calls Tryd.prog 8 #[.string s, .slice a rows.length c] w fun e w' => e = .returned (.bool true) ∧ Below w.heap.size w w' := by
  have hw1 := ht.lt
  go_enter Tryd.func8, Tryd.ntmps8
  go_wp2_with fail
  refine (small_any w ht).mono ?_
  rintro e w1 ⟨rfl, hb1⟩
  have hsz1 := hb1.size
  by_cases h20 : 20 < rows.length
  · go_wp2
    go_ret
    exact ⟨rfl, hb1⟩
  · have hL1 := hL.below hb1
    have ht1 := ht.below hb1 (by omega)
    go_wp2_with fail
    go_loop [6] (fun i => ∃ k : Nat, k ≤ rows.length ∧ i = .int .i64 k ∧ Hid (∀ j, j < k → (rows[j]?.getD []).length ≤ 4096)) (fun i => rows.length - (intOf i).toNat)
    case atStart => exact ⟨0, Nat.zero_le _, rfl, hid (fun j hj => by omega)⟩
    case round =>
      obtain ⟨k, hk, rfl, HK⟩ := hrel
      by_cases hlt : k < rows.length
      · obtain ⟨b, off, ak, ck, rfl, hcell, hsh⟩ := hL1.at k hlt
        have hmax : (rows[k]?.getD []).length ≤ 9223372036854775807 := by obtain ⟨_, _, e, h1, h2, _⟩ := hsh; unfold maxLen at h2; omega
        by_cases hbg : 4096 < (rows[k]?.getD []).length
        · generalize rows[k]?.getD [] = r at *
          go_wp2
          go_ret
          exact ⟨rfl, hb1⟩
        · generalize hrr : rows[k]?.getD [] = r at *
          have HR := hid hrr
          clear hrr
          go_wp2
          go_round
          case rel =>
            refine ⟨k + 1, by omega, by go_num, hid (fun j hj => ?_)⟩
            rcases Nat.lt_or_ge j k with h' | h'
            · exact HK.out j h'
            · rw [show j = k by omega, HR.out]; omega
          case measure => simp [intOf]; omega
      · have hfit : fits rows := fun r hrm => by
          obtain ⟨j, hj, rfl⟩ := List.getElem_of_mem hrm
          have := HK.out j (by omega)
          rw [List.getElem?_eq_getElem hj, Option.getD_some] at this
          omega
        have HER : Hid ((textOf s.data.toList rows).1 ≠ 0 → textOf s.data.toList rows = (2, []) ∧ 16 < s.size) := hid (fun hne => by
          have hsz : s.data.toList.length = s.size := by rw [Array.length_toList]; rfl
          by_cases h16 : 16 < s.size
          · exact ⟨by rw [textOf, if_pos (by omega)], h16⟩
          · exfalso
            apply hne
            rw [textOf, if_neg (by omega)]
            have : rowOf (s.data.toList :: rows) = (0, rowBytes (s.data.toList :: rows)) := by
              unfold rowOf
              rw [if_neg]
              rintro (h | ⟨m, hm, h⟩)
              · simp at h; omega
              · match m, hm with
                | 0, _ => simp at h; omega
                | m + 1, hm =>
                  simp at h hm
                  have := hfit (rows[m]'(by omega)) (List.getElem_mem _)
                  rw [List.getElem?_eq_getElem (by omega)] at h
                  simp at h
                  omega
            rw [this])
        have HTX := hid (text_any w.heap.size s _ rows w1 (by unfold maxLen; omega) hsz1 hL1 hnl hr)
        have HTL := hid (textOf_length s.data.toList rows)
        have HOO : Hid (ofOf s.data.toList rows = if (textOf s.data.toList rows).1 = 0 then (0, sha (textOf s.data.toList rows).2) else ((textOf s.data.toList rows).1, List.replicate 32 0)) := hid rfl
        have HOF := hid (fun W hB hL ht => of_any w.heap.size s (.slice a rows.length c) rows W (by unfold maxLen; omega) hB hL hnl hr ht)
        generalize textOf s.data.toList rows = T at *
        generalize ofOf s.data.toList rows = O at *
        clear hfit
        go_wp2_with fail
        refine HTX.out.mono ?_
        rintro e w2 ⟨v2, rfl, hown2, hb2⟩
        have hbel2 := hb1.trans (hb2.mono hsz1)
        have hsh2 := (shows_of_owns hown2).2
        have hsz2 := hbel2.size
        clear hb2 hown2
        go_wp2_with fail
        refine (HOF.out w2 hsz2 (hL.below hbel2) (ht.below hbel2 (by omega))).mono ?_
        rintro e w3 ⟨rfl, hb3⟩
        have hbel3 := hbel2.trans (hb3.mono hsz2)
        have hsz3 := hbel3.size
        have hsh3 := hsh2.below hb3
        have hs23 := hb3.size
        have ht3 := ht.below hbel3 (by omega)
        clear hb3 hsh2
        by_cases hz : T.1 = 0
        · have HO : Hid (O = (0, sha T.2)) := hid (by rw [HOO.out, if_pos hz])
          rw [HO.out, hz]
          simp only
          have HSL := hid (sha_length T.2)
          obtain ⟨f1, f2, f3⟩ := sum_facts (sha T.2) HSL.out
          obtain ⟨r1, r2, r3⟩ := new_row w3 ((sha T.2).map by8).toArray
          have hEQ := eql_sum (sha T.2) HSL.out
          have hi : (Tryd.prog.info? 26).map (·.size) = some ((sha T.2).map by8).length := by rw [List.length_map, HSL.out]; exact Tryd.infoSum
          have hcl : ((sha T.2).map by8).length = 32 := by rw [List.length_map, HSL.out]
          have hone := by8_one (sha T.2)
          have HRA := hid (fun W hB hs ht => raw_any w3.heap.size v2 T.2 W hB hs HTL.out ht)
          have HF1 := hid f1
          have HF2 := hid f2
          have HF3 := hid f3
          have HN1 := hid r1
          have HN2 := hid r2
          have HN3 := hid r3
          have HI := hid hi
          have HCL := hid hcl
          have HONE := hid hone
          have HEQ := hid hEQ
          clear f1 f2 f3 r1 r2 r3 hi hcl hone hEQ
          generalize (sha T.2).map by8 = cs at *
          go_wp2_with (first
            | (refine wpList_store_row rfl 26 (.tmp 9) (.tmp 39) rfl w3.heap.size cs.toArray rfl rfl 26 zero32 (heap_alloc_new w3 _) HF1.out HF3.out HF2.out ?_))
          generalize hw4 : World.setRow _ w3.heap.size cs.toArray = w4
          have r1 : w4.heap[w3.heap.size]? = some (.cells cs.toArray 26 (0, 0)) := by rw [← hw4]; exact HN1.out
          have r2 : Below w3.heap.size w3 w4 := by rw [← hw4]; exact HN2.out
          have r3 : w4.heap.size = w3.heap.size + 1 := by rw [← hw4]; exact HN3.out
          clear hw4
          have HRW : Hid (w4.drew.rangeAt w3.heap.size 0 cs) := hid (rangeAt_row r1)
          have HR1 := hid (HRA.out w4.drew (by show w3.heap.size ≤ w4.heap.size; omega) ((hsh3.mono hs23).below r2.drew) (ht3.below r2.drew (by omega)))
          have hBL : w3.heap.size < w4.drew.heap.size := by show w3.heap.size < w4.heap.size; omega
          have HBL := hid hBL
          have HWW := hid (hbel3.trans (r2.drew.mono hsz3))
          have HWS : Hid (w.heap.size ≤ w4.drew.heap.size) := hid (by show w.heap.size ≤ w4.heap.size; omega)
          have hu := Tryd.underlying26
          have hi := HI.out
          have hcl := HCL.out
          have hone := HONE.out
          have hEQ := HEQ.out
          clear hBL r1 r2 r3 hsh3 ht3 hL hL1 hnl hbel2 hbel3 hb1 HN1 HN2 HN3
          go_region_held (fun wx => wx.rangeAt w3.heap.size 0 cs) (first | exact HRW.out | (exact rangeAt_below HRW.out hb5 HBL.out) | go_keep_ranges | assumption)
            ((go_at_call 11; refine HR1.out.mono ?_; rintro e' w5 ⟨rfl, hb5⟩))
          go_wp2
          go_ret
          exact ⟨rfl, HWW.out.trans (hb5.mono HWS.out)⟩
        · obtain ⟨hT, h16⟩ := HER.out hz
          have HO : Hid (O = (2, List.replicate 32 0)) := hid (by rw [HOO.out, if_neg hz, hT])
          rw [HO.out, hT, ← zero32_eq]
          simp only
          have h16' : (16 : Int) < (s.size : Int) := by omega
          obtain ⟨r1, r2, r3⟩ := new_row w3 zero32
          have hbel4 := hbel3.trans (r2.mono hsz3)
          clear r1 r2 r3 hT
          go_wp2_with (first
            | (refine wpList_store_row rfl 26 (.tmp 9) (.tmp 39) rfl w3.heap.size zero32 rfl rfl 26 zero32 (heap_alloc_new w3 _) Tryd.infoSum rfl zero32_one ?_))
          go_ret
          exact ⟨rfl, hbel4⟩

theorem parts_law (s : ByteArray) (v : Value) (rows : List (List UInt8)) (w : World) (hs : s.size ≤ 140737488351232) (hL : Lists w.heap.size w v rows) (hnl : ∀ l c', v = .slice none l c' → c' = 0) (hr : rows.length * 24 ≤ 140737488351232) (ht : Tables w) :
    Calls Tryd.prog 8 #[.string s, v] w fun e w' => e = .returned (.bool true) ∧ Below w.heap.size w w' := by
  have hL0 := hL
  obtain ⟨a, c, _, rfl, _⟩ := hL
  exact parts_some s a c rows w hs hL0 hnl hr ht
end Go.Proofs.YtomfhihhhfelfaaDoor
