/- Contract of the document's own Row. -/
import Derived.Test.YtomfhihhhfelfaaDoorKitD
import Derived.Test.YtomfhihhhfelfaaDoorRefB
namespace Go.Proofs.YtomfhihhhfelfaaDoor
open Go.RowKit
set_option linter.unusedVariables false

set_option maxHeartbeats 2000000 in
theorem refRow_short (B : Nat) (a : Option Addr) (c : Nat) (rows : List (List UInt8)) (w : World) (hB : B ≤ w.heap.size) (hL : Lists B w (.slice a rows.length c) rows) (h : rows.length ≤ 4096) :
    Calls Tryd.prog 34 #[.slice a rows.length c] w fun e w' => ∃ v', e = .returned (.tuple #[v', .int .i64 (rowOf rows).1]) ∧ w'.ownsRow w.heap.size 5 1 v' (rowOf rows).2.length ((rowOf rows).2.map by8) ∧ Below w.heap.size w w' := by
  obtain ⟨i0, hi, hz0, hz1, hz2⟩ := info_parts Tryd.infoU8
  have HL := hid hL
  clear hL
  go_enter Tryd.func34, Tryd.ntmps34
  go_wp2_with fail
  refine (four_any rows.length w (by omega)).mono ?_
  rintro e w1 ⟨v1, rfl, hown1, hb1⟩
  have hsz1 := hb1.size
  go_wp2_with fail
  go_loopw [4, 5] (fun u i wr => ∃ k : Nat, k ≤ rows.length ∧ i = .int .i64 k ∧ (blobs (rows.take k)).length ≤ k * 65540 ∧ wr.ownsRow w.heap.size 5 1 u (4 + (blobs (rows.take k)).length) ((be rows.length 4 ++ blobs (rows.take k)).map by8) ∧ Below w.heap.size w wr ∧ Hid (∀ m, m < k → (rows[m]?.getD []).length ≤ 65536)) (fun _ i _ => rows.length - (intOf i).toNat)
  case atStart => exact ⟨0, Nat.zero_le _, rfl, by simp [blobs], by simpa [blobs] using hown1, hb1, fun m hm => by omega⟩
  case round =>
    obtain ⟨k, hk, rfl, hbl, hown, hbel, HF⟩ := hrel
    have hszr := hbel.size
    by_cases hlt : k < rows.length
    · obtain ⟨b, off, ak, ck, rfl, hcell, hsh⟩ := (HL.out.below (hbel.mono hB)).at k hlt
      by_cases hbig : 65536 < (rows[k]?.getD []).length
      · have hro : rowOf rows = (2, []) := by rw [rowOf, if_pos (.inr ⟨k, hlt, hbig⟩)]
        have HR := hid hro
        have hb2 : blobOf (rows[k]?.getD []) = (2, []) := by rw [blobOf, if_pos hbig]
        have HB2 := hid hb2
        have HC := hid (refBlob_any B _ (rows[k]?.getD []) wr (by omega) hsh)
        rw [hb2] at HC
        clear hro hb2 hsh hbig
        generalize rows[k]?.getD [] = r at *
        go_wp2_with fail
        refine HC.out.mono ?_
        rintro e w2 ⟨v2, rfl, _, hbel2⟩
        go_wp2
        go_ret2
        exact ⟨_, by rw [HR.out]; rfl, by rw [HR.out]; exact World.ownsRow_nil _ _ _ _, hbel.trans (hbel2.mono hszr)⟩
      · have hb2 : blobOf (rows[k]?.getD []) = (0, blob (rows[k]?.getD [])) := by rw [blobOf, if_neg hbig]
        have HC := hid (refBlob_any B _ (rows[k]?.getD []) wr (by omega) hsh)
        rw [hb2] at HC
        have HBT := hid (blobs_take rows k hlt)
        have HBL := hid (blob_length (rows[k]?.getD []))
        have hle : (rows[k]?.getD []).length ≤ 65536 := by omega
        have HFN : Hid (∀ m, m < k + 1 → (rows[m]?.getD []).length ≤ 65536) := fun m hm => by
          rcases Nat.lt_or_ge m k with h' | h'
          · exact HF.out m h'
          · rw [show m = k by omega]; exact hle
        clear hb2 hsh hbig
        generalize rows[k]?.getD [] = r at *
        go_wp2_with fail
        refine HC.out.mono ?_
        rintro e w2 ⟨v2, rfl, hown2, hbel2⟩
        have hsz2 := hbel2.size
        have hown' := ownsRow_below hown hbel2
        have hsh2 := (shows_of_owns hown2).2
        go_wp2_with (first | (at_builtin; refine wpList_append_shows _ rfl (.tmp 31) (.tmp 32) 22 rfl w.heap.size 5 i0 Tryd.underlying22 hi hz0 hz1 hz2 _ _ _ rfl hown' w2.heap.size _ (blob r) rfl hsh2 ?_ ?_ ?_) | fail)
        · have := HBL.out; omega
        · omega
        · intro v3 w3 hown3 hg3 _
          have hb3 : Below w.heap.size w w3 := (hbel.trans (hbel2.mono hszr)).grown hg3 (by omega) (fun q hq => (hown'.lt q hq).1)
          clear hown hown' hown2 hsh2 hg3 hbel hbel2 HC
          go_wp2
          go_roundw
          case rel =>
            refine ⟨k + 1, by omega, by go_num, ?_, ?_, hb3, HFN⟩
            · rw [HBT.out, List.length_append]
              have := HBL.out
              omega
            · rw [HBT.out, List.length_append, ← Nat.add_assoc, ← List.append_assoc, List.map_append (l₂ := blob r)]
              exact hown3
          case measure => simp [intOf]; omega
    · have hkl : k = rows.length := by omega
      have htk : rows.take k = rows := List.take_of_length_le (by omega)
      rw [htk] at hown
      have hro : rowOf rows = (0, rowBytes rows) := by
        rw [rowOf, if_neg]
        rintro (h1 | ⟨m, h1, h2⟩)
        · omega
        · have := HF.out m (by omega)
          omega
      have HR := hid hro
      clear htk hro
      go_wp2
      go_ret2
      refine ⟨_, by rw [HR.out]; rfl, ?_, hbel⟩
      rw [HR.out]
      show wr.ownsRow w.heap.size 5 1 _ (rowBytes rows).length ((rowBytes rows).map by8)
      have e : (rowBytes rows).length = 4 + (blobs rows).length := by simp [rowBytes, be_length]
      rw [e]
      exact hown

set_option maxHeartbeats 1000000 in
theorem refRow_long (a : Option Addr) (l c : Nat) (w : World) (h : 4096 < l) (hl : l ≤ 9223372036854775807) :
    Calls Tryd.prog 34 #[.slice a l c] w fun e w' => e = .returned (.tuple #[.slice none 0 0, .int .i64 2]) ∧ w' = w := by
  go_enter Tryd.func34, Tryd.ntmps34
  go_wp2
  go_ret2
  exact ⟨rfl, rfl⟩

theorem refRow_any (B : Nat) (v : Value) (rows : List (List UInt8)) (w : World) (hB : B ≤ w.heap.size) (hL : Lists B w v rows) :
    Calls Tryd.prog 34 #[v] w fun e w' => ∃ v', e = .returned (.tuple #[v', .int .i64 (rowOf rows).1]) ∧ w'.ownsRow w.heap.size 5 1 v' (rowOf rows).2.length ((rowOf rows).2.map by8) ∧ Below w.heap.size w w' := by
  have hL0 := hL
  obtain ⟨a, c, vs, rfl, h1, h2, _⟩ := hL
  by_cases hl : rows.length ≤ 4096
  · exact refRow_short B a c rows w hB hL0 hl
  · have hr3 : rowOf rows = (2, []) := by rw [rowOf, if_pos (.inl (by omega))]
    rw [hr3]
    refine (refRow_long a rows.length c w (by omega) (by unfold maxLen at h2; omega)).mono fun e w' ⟨he, hw⟩ => ?_
    subst he hw
    exact ⟨_, rfl, World.ownsRow_nil _ _ _ _, Below.refl _ _⟩
end Go.Proofs.YtomfhihhhfelfaaDoor
