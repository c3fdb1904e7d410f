/- Contract of the law's small case. -/
import Derived.Test.YthkeofinamedfaaDoorWhole
import Derived.Lib.SlBytesConst
namespace Go.Proofs.YthkeofinamedfaaDoor
open Go.RowKit
set_option linter.unusedVariables false
set_option maxRecDepth 20000

theorem says_two (w : World) (u v : UInt8) (t : TypeId) (fr fr' : Nat × Nat) : Says ((w.alloc (.cells #[.int .u8 (u.toNat : Int)] t fr)).alloc (.cells #[.int .u8 (v.toNat : Int)] t fr')) (.slice (some ⟨w.heap.size, 0, none⟩) 1 1) [u] ∧ Says ((w.alloc (.cells #[.int .u8 (u.toNat : Int)] t fr)).alloc (.cells #[.int .u8 (v.toNat : Int)] t fr')) (.slice (some ⟨w.heap.size + 1, 0, none⟩) 1 1) [v] := by
  refine ⟨(says_one w u t fr).new (new_alloc _ _), ?_⟩
  have := says_one (w.alloc (.cells #[.int .u8 (u.toNat : Int)] t fr)) v t fr'
  rwa [World.size_alloc] at this

set_option maxHeartbeats 4000000 in
theorem small_any (w : World) (ht : Tables w) : Calls Tryd.prog 8 #[] w fun e w' => e = .returned (.bool true) ∧ Below w.heap.size w w' := by
  have kc := fun (w : World) (C : Array Value) (n c : Nat) => Lib.run_convert_bytes_const (P := Tryd.prog) w 28 5 C n c Tryd.underlying28 Tryd.underlying5
  have kc2 := fun (w : World) (o : Obj) (C : Array Value) (n c : Nat) => kc (w.alloc o) C n c
  simp only [World.size_alloc] at kc2
  have hlt := ht.lt
  have HT := hid ht
  clear ht
  go_enter Tryd.func8, Tryd.ntmps8
  go_wp2_with fail
  refine (new_B w).mono ?_
  rintro e w1 ⟨rfl, R1, hb1⟩
  go_wp2_with fail
  have hs := says_two w1 97 49 5 (1, 2) (1, 2)
  refine (put_B w.heap.size _ none _ _ [97] [49] _ (alloc_ge (alloc_ge hb1.size _) _) ((R1.new (new_alloc _ _)).new (new_alloc _ _)) hs.1 hs.2 ⟨by decide, by decide⟩ (by decide)).mono ?_
  rintro e w2 ⟨rfl, R2, hb2, _⟩
  rw [put_a] at R2
  have b2 := ((hb1.alloc hb1.size _).alloc (alloc_ge hb1.size _) _).trans hb2
  clear hb2 hb1 R1 hs
  go_wp2_with fail
  have hs := says_two w2 98 50 5 (1, 2) (1, 2)
  refine (put_B w.heap.size _ (some tA) _ _ [98] [50] _ (alloc_ge (alloc_ge b2.size _) _) ((R2.new (new_alloc _ _)).new (new_alloc _ _)) hs.1 hs.2 ⟨by decide, by decide⟩ (by decide)).mono ?_
  rintro e w3 ⟨rfl, R3, hb3, _⟩
  rw [put_b] at R3
  have b3 := ((b2.alloc b2.size _).alloc (alloc_ge b2.size _) _).trans hb3
  clear hb3 b2 R2 hs
  go_wp2_with fail
  refine (get_B w.heap.size _ (some tAB) _ [97] _ (R3.new (new_alloc _ _)) (says_one w3 97 5 (1, 2))).mono ?_
  rintro e w4 ⟨v', rfl, hc4, hb4⟩
  rw [show look (some tAB) [97] = some [49] from by decide] at *
  have R4 := (R3.new (new_alloc _ _)).new hb4
  have b4 := (b3.alloc b3.size _).trans (hb4.mono (alloc_ge b3.size _))
  clear hb4 b3 R3
  obtain ⟨a4, c4, rfl⟩ := hc4.form
  go_wp2_with fail
  refine (path_B w.heap.size _ (some tAB) _ [97] _ (R4.new (new_alloc _ _)) (says_one w4 97 5 (1, 2)) (HT.out.below (b4.alloc b4.size _) (by omega)) (by decide)).mono ?_
  rintro e w5 ⟨ek, ev, sv, rfl, hk5, hv5, hs5, _, hb5⟩
  have hv4 : Says w5 (.slice a4 1 c4) [49] := (Copy.says hc4).new (((Below.refl _ w4).alloc (Nat.le_refl _) _).trans (hb5.mono (by simp)))
  have R5 := (R4.new (new_alloc _ _)).new hb5
  have b5 := (b4.alloc b4.size _).trans (hb5.mono (alloc_ge b4.size _))
  have hk5' : Says w5 ek [97] := Copy.says hk5
  obtain ⟨a5, c5, rfl⟩ : ∃ a c, ek = .slice a 1 c := hk5.form
  obtain ⟨a6, c6, rfl⟩ : ∃ a c, ev = .slice a 1 c := hv5.form
  rw [steps_a] at hs5
  obtain ⟨g, cap, rfl, hg1, hg2⟩ := hs5.form (by decide)
  have s0 : w5.cell? ⟨g, 0, none⟩ = some (.int .i64 7) := hs5.cellAt 0 (by decide)
  have s1 : w5.cell? ⟨g, 1, none⟩ = some (.bool false) := hs5.cellAt 1 (by decide)
  obtain ⟨w6, hw6⟩ : ∃ w6, w5.alloc (.cells #[.bool false, .slice a5 1 c5, .slice a6 1 c6, .slice (some ⟨g, 0, none⟩) 1 cap] 59) = w6 := ⟨_, rfl⟩
  have hb6 : Below w5.heap.size w5 w6 := by rw [← hw6]; exact new_alloc _ _
  have hn6 := World.alloc_heap_new w5 (.cells #[.bool false, .slice a5 1 c5, .slice a6 1 c6, .slice (some ⟨g, 0, none⟩) 1 cap] 59)
  rw [hw6] at hn6
  have p1 : w6.cell? ⟨w5.heap.size, 1, none⟩ = some (.slice a5 1 c5) := by rw [cell_of_row _ _ _ _ _ _ hn6]; rfl
  have p3 : w6.cell? ⟨w5.heap.size, 3, none⟩ = some (.slice (some ⟨g, 0, none⟩) 1 cap) := by rw [cell_of_row _ _ _ _ _ _ hn6]; rfl
  have s06 : w6.cell? ⟨g, 0, none⟩ = some (.int .i64 7) := by rw [hb6.cell (p := ⟨g, 0, none⟩) hg2]; exact s0
  have s16 : w6.cell? ⟨g, 1, none⟩ = some (.bool false) := by rw [hb6.cell (p := ⟨g, 1, none⟩) hg2]; exact s1
  have k1 := run_string_shows (P := Tryd.prog) 28 5 9 Tryd.underlying28 Tryd.underlying5 Tryd.underlying9 (hv4.new hb6)
  have k2 := run_string_shows (P := Tryd.prog) 28 5 9 Tryd.underlying28 Tryd.underlying5 Tryd.underlying9 (hk5'.new hb6)
  rw [show str8 [49] = ⟨#[49]⟩ from rfl] at k1
  rw [show str8 [97] = ⟨#[97]⟩ from rfl] at k2
  have R6 := R5.new hb6
  have HCN := count_B w.heap.size _ _ w6 R6
  rw [show (Tri.entsO (some tAB)).length = 2 from rfl] at HCN
  have b6 := b5.trans (hb6.mono b5.size)
  have hz6 := b6.size
  clear hk5 hv5 hs5 hb5 hv4 hk5' s0 s1 b5 b4 R4 R5 hc4 hn6 hb6 R6 hg1 hg2
  go_wp2_with fail
  clear hw6
  refine HCN.mono ?_
  clear HCN
  rintro e w' ⟨rfl, rfl⟩
  go_wp2_with fail
  refine (bit_any _ _ [97] 0 _ (says_one w' 97 5 (1, 2)) (by decide) (by decide)).mono ?_
  rintro e w7 ⟨rfl, hw7⟩
  have b7 : Below w.heap.size w w7 := by rw [hw7]; exact b6.alloc b6.size _
  clear hw7 b6 hz6 k1 k2 p1 p3 s06 s16
  rw [show bitI [97] 0 = true from by decide]
  go_wp2_with fail
  refine (bit_any _ _ [97] 9 _ (says_one w7 97 5 (1, 2)) (by decide) (by decide)).mono ?_
  rintro e w8 ⟨rfl, hw8⟩
  have b8 : Below w.heap.size w w8 := by rw [hw8]; exact b7.alloc b7.size _
  clear hw8
  rw [show bitI [97] 9 = false from by decide]
  go_wp2
  go_ret
  exact ⟨rfl, b8⟩
end Go.Proofs.YthkeofinamedfaaDoor
