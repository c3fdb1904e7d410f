/- Contract of digest.Of. -/
import Derived.Test.YthkeofinamedfaaDoorTextD
import Derived.Test.YthkeofinamedfaaDoorHexU
namespace Go.Proofs.YthkeofinamedfaaDoor
open Go.RowKit
set_option linter.unusedVariables false
set_option maxRecDepth 20000

theorem textOf_length (name : List UInt8) (rows : List (List UInt8)) : (textOf name rows).2.length ≤ 1099511627776 := by
  unfold textOf
  split
  · simp
  · by_cases h : (rowOf (name :: rows)).1 = 0
    · obtain ⟨h1, h2, h3⟩ := rowOf_ok _ h
      rw [h3]
      have := wide_le _ h2
      simp only [rowBytes, List.length_append, be_length, blobs_length]
      omega
    · have : rowOf (name :: rows) = (2, []) := by
        unfold rowOf at h ⊢
        split at h
        · rename_i h'; rw [if_pos h']
        · simp at h
      rw [this]
      simp

theorem textOf_err (name : List UInt8) (rows : List (List UInt8)) : (textOf name rows).1 = 0 ∨ ((textOf name rows).1 = 2 ∧ (textOf name rows).2 = []) := by
  unfold textOf
  split
  · simp
  · unfold rowOf
    split
    · simp
    · simp

set_option maxRecDepth 100000 in
set_option maxHeartbeats 8000000 in
theorem of_any (B : Nat) (s : ByteArray) (v : Value) (rows : List (List UInt8)) (w : World) (hm : s.size ≤ maxLen) (hB : B ≤ w.heap.size) (hL : Lists B w v rows) (hnl : ∀ l c, v = .slice none l c → c = 0) (hr : rows.length * 24 ≤ 140737488351232) (ht : Tables w) :
    Calls Tryd.prog 27 #[.string s, v] w fun e w' => e = .returned (.tuple #[.agg ((ofOf s.data.toList rows).2.map by8).toArray, .int .i64 (ofOf s.data.toList rows).1]) ∧ Below w.heap.size w w' := by
  have hw1 := ht.lt
  have hnew := heap_alloc_new w (.cells zero32 37)
  have hbn : Below w.heap.size w (w.alloc (.cells zero32 37)) := (Below.refl _ _).alloc (Nat.le_refl _) _
  have hsn : (w.alloc (.cells zero32 37)).heap.size = w.heap.size + 1 := by simp
  have HTX := hid (text_any B s v rows (w.alloc (.cells zero32 37)) hm (by omega) (hL.below (hbn.mono hB)) hnl hr)
  have htl := textOf_length s.data.toList rows
  have HOF : Hid (ofOf s.data.toList rows = if (textOf s.data.toList rows).1 = 0 then (0, sha (textOf s.data.toList rows).2) else ((textOf s.data.toList rows).1, List.replicate 32 0)) := hid rfl
  have HER := hid (textOf_err s.data.toList rows)
  have HHL := hid htl
  clear htl
  generalize textOf s.data.toList rows = T at *
  generalize ofOf s.data.toList rows = O at *
  have HHN := hid hnew
  have HBN := hid hbn
  have HSN := hid hsn
  clear hnew hbn hsn
  go_enter Tryd.func27, Tryd.ntmps27
  go_wp2_with fail
  refine HTX.out.mono ?_
  rintro e w1 ⟨v1, rfl, hown, hb1⟩
  have hb1' : Below w.heap.size w w1 := HBN.out.trans (hb1.mono (by rw [HSN.out]; omega))
  have HZ : Hid (w1.heap[w.heap.size]? = some (.cells zero32 37 (0, 0))) := hid ((hb1.block _ (by rw [HSN.out]; omega)).trans HHN.out)
  have hsh := (shows_of_owns hown).2
  have ht1 := ht.below hb1' (by omega)
  have hsz1 := hb1'.size
  clear hb1 hown
  rcases HER.out with hz | ⟨hz, _⟩
  · have HO : Hid (O = (0, sha T.2)) := hid (by rw [HOF.out, if_pos hz])
    rw [hz]
    have HSL := hid (sha_length T.2)
    go_wp2_with fail
    refine (raw_any w1.heap.size v1 T.2 w1 (Nat.le_refl _) hsh HHL.out ht1).mono ?_
    rintro e' w2 ⟨rfl, hb2⟩
    have HZ2 := hid ((hb2.block _ (block_lt HZ.out)).trans HZ.out)
    have hbr := hb1'.trans (hb2.mono hsz1)
    obtain ⟨A, hA⟩ : ∃ A, A = ((sha T.2).map by8).toArray := ⟨_, rfl⟩
    rw [← hA]
    have hAs : A.size = 32 := by rw [hA]; simpa using HSL.out
    have hA1 : A.all (·.oneCell') = true := by rw [hA]; simp [by8, Value.oneCell']
    have HI := hid (show (Tryd.prog.info? 37).map (·.size) = some A.size by rw [hAs]; exact Tryd.infoSum)
    have HZS := hid (show zero32.size = A.size from hAs.symm)
    have HA := hid hA
    clear hA hAs hb2 HSL
    go_wp2_with (first
      | (refine wpList_store_row rfl 37 (.tmp 4) (.tmp 19) rfl w.heap.size A rfl rfl 37 zero32 HZ2.out HI.out HZS.out hA1 ?_))
    refine bodyPost_ret (v := .tuple #[.agg A, .int .i64 0]) (results_row_tmp (p := 4) (u := 5) (ty := 37) rfl _ _ w.heap.size 37 A (0, 0) _ _ rfl (setRow_heap _ _ _ _ _ _ HZ2.out) Tryd.underlying37 HI.out) rfl ⟨?_, below_setRow hbr (Nat.le_refl _) _⟩
    rw [HA.out, HO.out]
    rfl
  · have HO : Hid (O = (2, List.replicate 32 0)) := hid (by rw [HOF.out, if_neg (by omega), hz])
    rw [hz]
    go_wp2_with (first
      | (refine wpList_store_row rfl 37 (.tmp 4) (.tmp 16) rfl w.heap.size zero32 rfl rfl 37 zero32 HZ.out Tryd.infoSum rfl zero32_one ?_))
    refine bodyPost_ret (v := .tuple #[.agg zero32, .int .i64 2]) (results_row_tmp (p := 4) (u := 5) (ty := 37) rfl _ _ w.heap.size 37 zero32 (0, 0) _ _ rfl (setRow_heap _ _ _ _ _ _ HZ.out) Tryd.underlying37 Tryd.infoSum) rfl ⟨?_, below_setRow hb1' (Nat.le_refl _) _⟩
    rw [HO.out, zero32_eq]
    rfl
end Go.Proofs.YthkeofinamedfaaDoor
