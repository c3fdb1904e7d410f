/- Contract of digest's ending. -/
import Derived.Test.YthkeofinamedfaaDoorHexF
namespace Go.Proofs.YthkeofinamedfaaDoor
open Go.RowKit
set_option linter.unusedVariables false
set_option maxRecDepth 20000

/-- Zero bytes, as cells. -/
def zeroCells (n : Nat) : List Value := List.replicate n (.int .u8 0)

theorem made_zero (n : Nat) : madeCells #[Value.int .u8 0] n = (zeroCells n).toArray := by
  apply Array.ext'
  rw [toList_madeCells_one]
  rfl

/-- The ending, k bytes of the number written. -/
def endPart (bs : List UInt8) (n size k : Nat) : List UInt8 := bs ++ [128] ++ List.replicate (size - 1 - bs.length - k) 0 ++ (be (8 * n) 8).drop (8 - k)

theorem endPart_length (bs : List UInt8) (n size k : Nat) (h : bs.length + 9 ≤ size) (hk : k ≤ 8) : (endPart bs n size k).length = size := by
  simp [endPart, be_length]
  omega

theorem end_start (bs : List UInt8) (n size : Nat) (g : Nat) (t : TypeId) (w : World) (h : bs.length + 9 ≤ size) (hg : w.heap[g]? = some (.cells ((bs ++ List.replicate (size - bs.length) 0).map by8).toArray t (0, 0))) :
    (w.setCell ⟨g, bs.length, none⟩ (.int .u8 128)).heap[g]? = some (.cells ((endPart bs n size 0).map by8).toArray t (0, 0)) := by
  rw [heap_setCell_same w _ _ _ _ _ hg]
  congr 2
  rw [List.setIfInBounds_toArray]
  congr 1
  rw [show (Value.int .u8 128) = by8 128 from rfl, ← List.map_set, List.set_append_right _ _ (Nat.le_refl _), Nat.sub_self, show size - bs.length = (size - 1 - bs.length) + 1 by omega, List.replicate_succ, List.set_cons_zero]
  simp [endPart, be_length]

theorem end_cell (bs : List UInt8) (n size k : Nat) (h : bs.length + 9 ≤ size) (hk : k < 8) : ((endPart bs n size k).map by8).toArray[size - 1 - k]? = some (.int .u8 0) := by
  have e : size - 1 - bs.length - k = (size - 1 - bs.length - (k + 1)) + 1 := by omega
  have e2 : endPart bs n size k = (bs ++ [128] ++ List.replicate (size - 1 - bs.length - (k + 1)) 0) ++ (0 :: (be (8 * n) 8).drop (8 - k)) := by
    rw [endPart, e, List.replicate_succ', List.append_assoc, List.append_assoc, List.append_assoc, List.append_assoc, List.append_assoc]
    rfl
  rw [List.getElem?_toArray, List.getElem?_map, e2, List.getElem?_append_right (by simp; omega)]
  have e3 : size - 1 - k - (bs ++ [128] ++ List.replicate (size - 1 - bs.length - (k + 1)) 0).length = 0 := by simp; omega
  rw [e3]
  rfl

theorem end_step (bs : List UInt8) (n size k : Nat) (h : bs.length + 9 ≤ size) (hk : k < 8) :
    ((endPart bs n size k).map by8).toArray.setIfInBounds (size - 1 - k) (by8 (UInt8.ofNat (8 * n / 256 ^ k))) = ((endPart bs n size (k + 1)).map by8).toArray := by
  have e : size - 1 - bs.length - k = (size - 1 - bs.length - (k + 1)) + 1 := by omega
  have e2 : endPart bs n size k = (bs ++ [128] ++ List.replicate (size - 1 - bs.length - (k + 1)) 0) ++ (0 :: (be (8 * n) 8).drop (8 - k)) := by
    rw [endPart, e, List.replicate_succ', List.append_assoc, List.append_assoc, List.append_assoc, List.append_assoc, List.append_assoc]
    rfl
  have e3 : size - 1 - k - (bs ++ [128] ++ List.replicate (size - 1 - bs.length - (k + 1)) 0).length = 0 := by simp; omega
  have e4 : (be (8 * n) 8).drop (8 - (k + 1)) = UInt8.ofNat (8 * n / 256 ^ k) :: (be (8 * n) 8).drop (8 - k) := by
    match k, hk with
    | 0, _ => simp [be]
    | 1, _ => simp [be]
    | 2, _ => simp [be]
    | 3, _ => simp [be]
    | 4, _ => simp [be]
    | 5, _ => simp [be]
    | 6, _ => simp [be]
    | 7, _ => simp [be]
  rw [List.setIfInBounds_toArray, ← List.map_set, e2, List.set_append_right _ _ (by simp; omega), e3, List.set_cons_zero, endPart, e4]

theorem end_done (bs : List UInt8) (n size : Nat) (h : (bs.length ≤ 55 ∧ size = 64) ∨ (56 ≤ bs.length ∧ size = 128)) (hl : bs.length < 64) : endPart bs n size 8 = ending bs n := by
  rw [endPart, ending]
  congr 2
  · congr 2
    omega

/-- A block that is known whole is owned. -/
theorem owns_full {w : World} {B g n : Nat} {xs : List Value} {e : TypeId} (hg : w.heap[g]? = some (.cells xs.toArray e (0, 0))) (hB : B ≤ g) (hn : xs.length = n) (hm : n ≤ maxLen) :
    w.ownsRow B e 1 (.slice (some ⟨g, 0, none⟩) n n) n xs := by
  refine ⟨by simpa using hn, .inr ⟨g, n, _, rfl, hB, hg, Nat.le_refl _, hm, by simp [hn], ?_⟩⟩
  rw [List.toList_toArray]
  exact List.take_of_length_le (by omega)

theorem num_byte (n k : Nat) : Value.int .u8 ((n : Int) * 8 / 2 ^ (8 * k) % 256) = by8 (UInt8.ofNat (8 * n / 256 ^ k)) := by
  rw [← by8_shr, show ((8 * n : Nat) : Int) = (n : Int) * 8 from by omega]

set_option maxHeartbeats 4000000 in
theorem ending_some (size : Nat) (a : Option Addr) (c : Nat) (bs : List UInt8) (n : Nat) (B : Nat) (w : World) (hB : B ≤ w.heap.size) (hsh : Shows B w (.slice a bs.length c) bs) (hl : bs.length < 64) (hn : n ≤ 1099511627776)
    (hs : (bs.length ≤ 55 ∧ size = 64) ∨ (56 ≤ bs.length ∧ size = 128)) :
    Calls Tryd.prog 74 #[.slice a bs.length c, .int .i64 n] w fun e w' => ∃ v', e = .returned v' ∧ w'.ownsRow w.heap.size 5 1 v' size ((ending bs n).map by8) ∧ Below w.heap.size w w' := by
  obtain ⟨i0, hi, hz0, hz1, hz2⟩ := info_parts Tryd.infoU8
  have hsh0 := hsh
  obtain ⟨a', c', hv, h1, h2, hnn, h3⟩ := hsh
  simp only [Value.slice.injEq] at hv
  obtain ⟨rfl, _, rfl⟩ := hv
  have hmk : ∀ u : World, (Instr.makeSlice 28 (.int .i64 (size : Int)) (.int .i64 (size : Int))).run Tryd.prog u =
      .ok (.slice (some ⟨u.heap.size, 0, none⟩) size size) (u.alloc (.cells (zeroCells size).toArray 5)) := fun u => by
    have h := run_make (P := Tryd.prog) u 28 5 i0 (.int .u8 0) Tryd.underlying28 hi hz0 .i64 .i64 (size : Int) (size : Int) (by omega) (by omega) (by rw [hz2]; omega) (by omega)
    rw [hz1, Nat.mul_one, Int.toNat_natCast] at h
    rw [h]
    congr 3
    exact made_zero _
  have hinfo : (Tryd.prog.info? 5).map (·.size) = some 1 := by rw [hi]; simp [hz1]
  have hsh1 := hsh0.alloc hB (.cells (zeroCells size).toArray 5)
  have hnew : (w.alloc (.cells (zeroCells size).toArray 5)).heap[w.heap.size]? = some (.cells (zeroCells size).toArray 5 (0, 0)) := heap_alloc_new w _
  have hbn : Below w.heap.size w (w.alloc (.cells (zeroCells size).toArray 5)) := (Below.refl _ _).alloc (Nat.le_refl _) _
  obtain ⟨w2, hcp, hg2, hb2⟩ : ∃ w2, (Builtin.copy_ #[28, 28] 3 #[.slice (some ⟨w.heap.size, 0, none⟩) size size, .slice a bs.length c]).run Tryd.prog (w.alloc (.cells (zeroCells size).toArray 5)) = .ok (goInt bs.length) w2 ∧
      w2.heap[w.heap.size]? = some (.cells ((bs ++ List.replicate (size - bs.length) 0).map by8).toArray 5 (0, 0)) ∧ Below w.heap.size w w2 := by
    by_cases hb : bs = []
    · subst hb
      refine ⟨_, run_copy_none (P := Tryd.prog) _ 28 28 3 5 _ a size size 0 c Tryd.underlying28 hinfo (by simp), ?_, hbn⟩
      rw [hnew]
      simp [zeroCells, by8]
    · obtain ⟨b, off, rfl, hlt, hc⟩ := h3 hb
      have hr := run_copy_row (P := Tryd.prog) (w.alloc (.cells (zeroCells size).toArray 5)) 28 28 3 5 w.heap.size 0 size size ⟨b, off, none⟩ bs.length c (zeroCells size).toArray 5 (bs.map by8) Tryd.underlying28 hinfo hnew (by rw [List.length_map]; show _ = min _ _; omega) (by8_cells hsh1).2 (by simp [zeroCells]; omega) (by8_one bs)
      rw [List.length_map] at hr
      refine ⟨_, hr, ?_, below_setRow hbn (Nat.le_refl _) _⟩
      rw [setRow_heap _ _ _ _ _ _ hnew]
      simp [zeroCells, by8]
  clear hsh1 hnew hbn
  have hrest : List.map by8 (bs ++ List.replicate (size - bs.length) 0) = List.map by8 (bs ++ 0 :: List.replicate (size - bs.length - 1) 0) := by
    rw [show size - bs.length = (size - bs.length - 1) + 1 by omega, List.replicate_succ]
    simp
  have hcell : w2.cell? ⟨w.heap.size, bs.length, none⟩ = some (.int .u8 0) := by
    rw [cell_of_row w2 _ _ _ _ _ hg2, hrest]
    simp [by8]
  have hfz : w2.frozen? ⟨w.heap.size, bs.length, none⟩ = false := frozen_of_row w2 _ _ _ _ hg2
  have HG := hid hg2
  clear hg2 hrest h3
  generalize hzc : (zeroCells size).toArray = Z at *
  have HZ := hid hzc
  clear hzc
  go_enter Tryd.func74, Tryd.ntmps74
  rcases hs with ⟨hs1, rfl⟩ | ⟨hs1, rfl⟩
  · replace hmk : ∀ u : World, (Instr.makeSlice 28 (.int .i64 64) (.int .i64 64)).run Tryd.prog u = .ok (.slice (some ⟨u.heap.size, 0, none⟩) 64 64) (u.alloc (.cells Z 5)) := hmk
    go_wp2
    go_loopw [28] (fun i wr => ∃ k : Nat, k ≤ 8 ∧ i = .int .i64 k ∧ wr.heap[w.heap.size]? = some (.cells ((endPart bs n 64 k).map by8).toArray 5 (0, 0)) ∧ Below w.heap.size w wr) (fun i _ => 8 - (intOf i).toNat)
    case atStart => exact ⟨0, Nat.zero_le _, rfl, end_start bs n 64 _ _ w2 (by omega) HG.out, hb2.setCell (Nat.le_refl _) _⟩
    case round =>
      obtain ⟨k, hk, rfl, hrow, hbr⟩ := hrel
      by_cases hlt : k < 8
      · have hc2 := (cell_of_row wr _ _ _ _ _ hrow).trans (end_cell bs n 64 k (by omega) hlt)
        have hfz2 : wr.frozen? ⟨w.heap.size, 64 - 1 - k, none⟩ = false := frozen_of_row wr _ _ _ _ hrow
        have HR := hid hrow
        have HS := hid (end_step bs n 64 k (by omega) hlt)
        clear hrow hcell hfz hcp
        go_wp2
        go_roundw
        case rel =>
          refine ⟨k + 1, by omega, by go_num, ?_, hbr.setCell (Nat.le_refl _) _⟩
          rw [num_byte]
          refine (heap_setCell_same wr _ _ _ _ _ HR.out).trans ?_
          rw [← HS.out]
        case measure => simp [intOf]; omega
      · have hk8 : k = 8 := by omega
        rw [hk8, end_done bs n 64 (by omega) hl] at hrow
        have HL : Hid (((ending bs n).map by8).length = 64) := hid (by rw [List.length_map, ← end_done bs n 64 (by omega) hl]; exact endPart_length bs n 64 8 (by omega) (by omega))
        have HR := hid hrow
        clear hrow hk8
        go_wp2
        go_ret
        exact ⟨_, rfl, owns_full HR.out (Nat.le_refl _) HL.out (by unfold maxLen; omega), hbr⟩
  · replace hmk : ∀ u : World, (Instr.makeSlice 28 (.int .i64 128) (.int .i64 128)).run Tryd.prog u = .ok (.slice (some ⟨u.heap.size, 0, none⟩) 128 128) (u.alloc (.cells Z 5)) := hmk
    go_wp2
    go_loopw [28] (fun i wr => ∃ k : Nat, k ≤ 8 ∧ i = .int .i64 k ∧ wr.heap[w.heap.size]? = some (.cells ((endPart bs n 128 k).map by8).toArray 5 (0, 0)) ∧ Below w.heap.size w wr) (fun i _ => 8 - (intOf i).toNat)
    case atStart => exact ⟨0, Nat.zero_le _, rfl, end_start bs n 128 _ _ w2 (by omega) HG.out, hb2.setCell (Nat.le_refl _) _⟩
    case round =>
      obtain ⟨k, hk, rfl, hrow, hbr⟩ := hrel
      by_cases hlt : k < 8
      · have hc2 := (cell_of_row wr _ _ _ _ _ hrow).trans (end_cell bs n 128 k (by omega) hlt)
        have hfz2 : wr.frozen? ⟨w.heap.size, 128 - 1 - k, none⟩ = false := frozen_of_row wr _ _ _ _ hrow
        have HR := hid hrow
        have HS := hid (end_step bs n 128 k (by omega) hlt)
        clear hrow hcell hfz hcp
        go_wp2
        go_roundw
        case rel =>
          refine ⟨k + 1, by omega, by go_num, ?_, hbr.setCell (Nat.le_refl _) _⟩
          rw [num_byte]
          refine (heap_setCell_same wr _ _ _ _ _ HR.out).trans ?_
          rw [← HS.out]
        case measure => simp [intOf]; omega
      · have hk8 : k = 8 := by omega
        rw [hk8, end_done bs n 128 (by omega) hl] at hrow
        have HL : Hid (((ending bs n).map by8).length = 128) := hid (by rw [List.length_map, ← end_done bs n 128 (by omega) hl]; exact endPart_length bs n 128 8 (by omega) (by omega))
        have HR := hid hrow
        clear hrow hk8
        go_wp2
        go_ret
        exact ⟨_, rfl, owns_full HR.out (Nat.le_refl _) HL.out (by unfold maxLen; omega), hbr⟩

theorem ending_any (B : Nat) (v : Value) (bs : List UInt8) (n : Nat) (w : World) (hB : B ≤ w.heap.size) (hsh : Shows B w v bs) (hl : bs.length < 64) (hn : n ≤ 1099511627776) :
    Calls Tryd.prog 74 #[v, .int .i64 n] w fun e w' => ∃ v', e = .returned v' ∧ w'.ownsRow w.heap.size 5 1 v' (ending bs n).length ((ending bs n).map by8) ∧ Below w.heap.size w w' := by
  have hsh0 := hsh
  obtain ⟨a, c, rfl, h1, h2, hnn, h3⟩ := hsh
  by_cases h : bs.length ≤ 55
  · have e : (ending bs n).length = 64 := by rw [← end_done bs n 64 (by omega) hl]; exact endPart_length bs n 64 8 (by omega) (by omega)
    rw [e]
    exact ending_some 64 a c bs n B w hB hsh0 hl hn (by omega)
  · have e : (ending bs n).length = 128 := by rw [← end_done bs n 128 (by omega) hl]; exact endPart_length bs n 128 8 (by omega) (by omega)
    rw [e]
    exact ending_some 128 a c bs n B w hB hsh0 hl hn (by omega)

theorem ending_length (bs : List UInt8) (n : Nat) (hl : bs.length < 64) : (ending bs n).length = if bs.length ≤ 55 then 64 else 128 := by
  by_cases h : bs.length ≤ 55
  · rw [if_pos h, ← end_done bs n 64 (by omega) hl]; exact endPart_length bs n 64 8 (by omega) (by omega)
  · rw [if_neg h, ← end_done bs n 128 (by omega) hl]; exact endPart_length bs n 128 8 (by omega) (by omega)
end Go.Proofs.YthkeofinamedfaaDoor
