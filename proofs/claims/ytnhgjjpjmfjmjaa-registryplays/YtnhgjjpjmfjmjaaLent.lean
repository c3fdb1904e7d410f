/- Contracts of the law's helpers Lent and Kept. -/
import Derived.Test.YtnhgjjpjmfjmjaaFns
import Derived.Laws.CopyOwn
namespace Go.Proofs.Ytnhgjjpjmfjmjaa
open Go.RowKit
set_option linter.unusedVariables false

/-- Zero bytes, as cells. -/
def zeros (n : Nat) : List Value := List.replicate n (.int .u8 0)

theorem zeros_length (n : Nat) : (zeros n).length = n := by simp [zeros]

theorem toArray_made (n : Nat) : madeCells #[Value.int .u8 0] n = (zeros n).toArray := by
  apply Array.ext'
  rw [toList_madeCells_one]
  rfl

/-- WHAT IS LENT: bytes with one place behind them, in which 77 stands. -/
def Lends (B : Nat) (w : World) (v : Value) (bs : List UInt8) : Prop :=
  ∃ g, v = .slice (some ⟨g, 0, none⟩) bs.length (bs.length + 1) ∧ w.ownsRow B 5 1 (.slice (some ⟨g, 0, none⟩) (bs.length + 1) (bs.length + 1)) (bs.length + 1) (bs.map by8 ++ [.int .u8 77])

theorem Lends.shows {B : Nat} {w : World} {v : Value} {bs : List UInt8} (h : Lends B w v bs) (hm : bs.length + 1 ≤ maxLen) : Shows w.heap.size w v bs := by
  obtain ⟨g, rfl, ho⟩ := h
  refine ⟨_, _, rfl, by omega, hm, (fun e => by cases e), fun _ => ⟨g, 0, rfl, (ho.lt g rfl).2, fun j hj => ?_⟩⟩
  rw [Nat.zero_add, ho.cellAt j (by omega), List.getElem?_append_left (by simpa using hj), List.getElem?_map, List.getElem?_eq_getElem hj]
  rfl

theorem Lends.below {B : Nat} {w w' : World} {v : Value} {bs : List UInt8} (h : Lends B w v bs) (hb : Below w.heap.size w w') : Lends B w' v bs := by
  obtain ⟨g, rfl, h1, h2⟩ := h
  refine ⟨g, rfl, h1, ?_⟩
  rcases h2 with hn | ⟨g', cap, cur, hv, hB, hg, r⟩
  · exact .inl hn
  · exact .inr ⟨g', cap, cur, hv, hB, by rw [hb.block g' (Array.getElem?_eq_some_iff.1 hg).1]; exact hg, r⟩

set_option maxHeartbeats 1000000 in
theorem lent_any (B0 : Nat) (v : Value) (bs : List UInt8) (w : World) (hB : B0 ≤ w.heap.size) (hsh : Shows B0 w v bs) (hl : bs.length ≤ 140737488351232) :
    Calls Try.prog 10 #[v] w fun e w' => ∃ v', e = .returned v' ∧ Lends w.heap.size w' v' bs ∧ Below w.heap.size w w' := by
  obtain ⟨i0, hi, hz0, hz1, hz2⟩ := info_parts Try.infoU8
  have hsh0 := hsh
  obtain ⟨a, c, rfl, h1, h2, hn, h3⟩ := hsh
  have hmk : ∀ u : World, (Instr.makeSlice 28 (.int .i64 (bs.length : Int)) (.int .i64 ((bs.length : Int) + 1))).run Try.prog u =
      .ok (.slice (some ⟨u.heap.size, 0, none⟩) bs.length (bs.length + 1)) (u.alloc (.cells (zeros (bs.length + 1)).toArray 5)) := fun u => by
    have h := run_make (P := Try.prog) u 28 5 i0 (.int .u8 0) Try.underlying28 hi hz0 .i64 .i64 (bs.length : Int) ((bs.length : Int) + 1) (by omega) (by omega) (by rw [hz2]; omega) (by omega)
    have e : ((bs.length : Int) + 1).toNat = bs.length + 1 := by omega
    rw [e, hz1, Nat.mul_one, Int.toNat_natCast] at h
    rw [h]
    congr 3
    exact toArray_made _
  have hinfo : (Try.prog.info? 5).map (·.size) = some 1 := by rw [hi]; simp [hz1]
  have hzl := zeros_length (bs.length + 1)
  generalize hzz : zeros (bs.length + 1) = Z at *
  have HZ := hid hzz
  clear hzz
  have hsh1 := hsh0.alloc hB (.cells Z.toArray 5)
  have hnew : (w.alloc (.cells Z.toArray 5)).heap[w.heap.size]? = some (.cells Z.toArray 5 (0, 0)) := heap_alloc_new w _
  have hbn : Below w.heap.size w (w.alloc (.cells Z.toArray 5)) := (Below.refl _ _).alloc (Nat.le_refl _) _
  obtain ⟨w2, hcp, hg2, hb2⟩ : ∃ w2, (Builtin.copy_ #[28, 28] 3 #[.slice (some ⟨w.heap.size, 0, none⟩) bs.length (bs.length + 1), .slice a bs.length c]).run Try.prog (w.alloc (.cells Z.toArray 5)) = .ok (goInt bs.length) w2 ∧
      w2.heap[w.heap.size]? = some (.cells (bs.map by8 ++ [Value.int .u8 0]).toArray 5 (0, 0)) ∧ Below w.heap.size w w2 := by
    by_cases hb : bs = []
    · subst hb
      refine ⟨_, run_copy_none (P := Try.prog) _ 28 28 3 5 _ a 0 1 0 c Try.underlying28 hinfo rfl, ?_, hbn⟩
      rw [hnew, ← HZ.out]
      rfl
    · obtain ⟨b, off, rfl, hlt, hc⟩ := h3 hb
      have hr := run_copy_row (P := Try.prog) (w.alloc (.cells Z.toArray 5)) 28 28 3 5 w.heap.size 0 bs.length (bs.length + 1) ⟨b, off, none⟩ bs.length c Z.toArray 5 (bs.map by8) Try.underlying28 hinfo hnew (by simp) (by8_cells hsh1).2 (by simp; omega) (by8_one bs)
      rw [List.length_map] at hr
      refine ⟨_, hr, ?_, below_setRow hbn (Nat.le_refl _) _⟩
      rw [setRow_heap _ _ _ _ _ _ hnew]
      rw [← HZ.out]
      simp [zeros]
  clear hsh1 hnew hbn
  go_enter Try.func10, Try.ntmps10
  have hcell : w2.cell? ⟨w.heap.size, bs.length, none⟩ = some (.int .u8 0) := by
    rw [cell_of_row w2 _ _ _ _ _ hg2]
    simp
  have hfz : w2.frozen? ⟨w.heap.size, bs.length, none⟩ = false := frozen_of_row w2 _ _ _ _ hg2
  have HG := hid hg2
  clear hg2
  go_wp2
  go_ret
  refine ⟨_, rfl, ⟨w.heap.size, rfl, by simp, .inr ⟨w.heap.size, bs.length + 1, _, rfl, Nat.le_refl _, heap_setCell_same w2 _ _ _ _ _ HG.out, Nat.le_refl _, by unfold maxLen; omega, by simp, ?_⟩⟩, hb2.setCell (Nat.le_refl _) _⟩
  rw [Array.toList_setIfInBounds, List.toList_toArray]
  have : (bs.map by8 ++ [Value.int .u8 0]).set bs.length (.int .u8 77) = bs.map by8 ++ [.int .u8 77] := by
    rw [List.set_append_right _ _ (by simp)]
    simp
  rw [this]
  exact List.take_of_length_le (by simp)

set_option maxHeartbeats 1000000 in
theorem kept_any (B B0 : Nat) (v u : Value) (bs : List UInt8) (w : World) (hL : Lends B w v bs) (hsh : Shows B0 w u bs) (hl : bs.length ≤ 140737488351232) :
    Calls Try.prog 23 #[v, u] w fun e w' => e = .returned (.bool true) ∧ w' = w := by
  have hs1 := run_string_shows (P := Try.prog) 28 5 9 Try.underlying28 Try.underlying5 Try.underlying9 (hL.shows (by unfold maxLen; omega))
  have hs2 := run_string_shows (P := Try.prog) 28 5 9 Try.underlying28 Try.underlying5 Try.underlying9 hsh
  obtain ⟨g, rfl, ho⟩ := hL
  obtain ⟨a, c, rfl, h1, h2, hn, h3⟩ := hsh
  have hc : w.cell? ⟨g, bs.length, none⟩ = some (.int .u8 77) := by
    rw [ho.cellAt bs.length (by omega), List.getElem?_append_right (by simp)]
    simp
  clear ho h3 hn
  generalize str8 bs = sv at *
  go_enter Try.func23, Try.ntmps23
  go_wp2
  go_ret
  exact ⟨rfl, rfl⟩
end Go.Proofs.Ytnhgjjpjmfjmjaa
