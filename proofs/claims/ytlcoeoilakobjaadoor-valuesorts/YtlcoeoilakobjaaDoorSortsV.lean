/- ValueSorts: whatever the three values. -/
import Derived.Test.YtlcoeoilakobjaaDoorOrdV
import Derived.Test.YtlcoeoilakobjaaDoorBoxV
import Derived.Test.YtlcoeoilakobjaaDoorOpenV
namespace Go.Proofs.YtlcoeoilakobjaaDoor
open Go.RowKit
set_option linter.unusedVariables false
set_option linter.unusedSimpArgs false
set_option maxRecDepth 20000

set_option maxHeartbeats 1000000 in
theorem sorts_law (x y z : Vl) (w : World) (ox : OkV x) (oy : OkV y) (oz : OkV z) (hT : TabV w) :
    Calls Tryd.prog 8 #[.agg #[.int .i64 x.k, .int .i64 x.n, .string (str8 x.s)], .agg #[.int .i64 y.k, .int .i64 y.n, .string (str8 y.s)], .agg #[.int .i64 z.k, .int .i64 z.n, .string (str8 z.s)]] w fun e w' => e = .returned (.bool true) ∧ Below w.heap.size w w' := by
  clear ox oy oz
  have HT := hid hT
  have hlt := hT.lt
  have heq : ∀ w, _ := fun w => run_eqv x y w
  have hg := Tryd.eqGuardVal
  have hxy := cmpV_range x y
  have hyz := cmpV_range y z
  have hxz := cmpV_range x z
  have hs := cmpV_sorts x y z
  have hz0 := cmpV_zero x y
  have HXY := hid (fun w => compare_any x.k x.n y.k y.n x.s y.s w)
  have HYZ := hid (fun w => compare_any y.k y.n z.k z.n y.s z.s w)
  have HXZ := hid (fun w => compare_any x.k x.n z.k z.n x.s z.s w)
  have HYX := hid (fun w => compare_any y.k y.n x.k x.n y.s x.s w)
  have hb := cmpV_back x y
  change Hid (∀ w, Calls Tryd.prog 12 #[.agg #[.int .i64 x.k, .int .i64 x.n, .string (str8 x.s)], .agg #[.int .i64 y.k, .int .i64 y.n, .string (str8 y.s)]] w fun e w' => e = .returned (.int .i64 (cmpV x y)) ∧ Below w.heap.size w w') at HXY
  change Hid (∀ w, Calls Tryd.prog 12 #[.agg #[.int .i64 y.k, .int .i64 y.n, .string (str8 y.s)], .agg #[.int .i64 z.k, .int .i64 z.n, .string (str8 z.s)]] w fun e w' => e = .returned (.int .i64 (cmpV y z)) ∧ Below w.heap.size w w') at HYZ
  change Hid (∀ w, Calls Tryd.prog 12 #[.agg #[.int .i64 x.k, .int .i64 x.n, .string (str8 x.s)], .agg #[.int .i64 z.k, .int .i64 z.n, .string (str8 z.s)]] w fun e w' => e = .returned (.int .i64 (cmpV x z)) ∧ Below w.heap.size w w') at HXZ
  change Hid (∀ w, Calls Tryd.prog 12 #[.agg #[.int .i64 y.k, .int .i64 y.n, .string (str8 y.s)], .agg #[.int .i64 x.k, .int .i64 x.n, .string (str8 x.s)]] w fun e w' => e = .returned (.int .i64 (cmpV y x)) ∧ Below w.heap.size w w') at HYX
  rw [hb] at HYX
  generalize cmpV x y = X at *
  generalize cmpV y z = Y at *
  generalize cmpV x z = Z at *
  rw [← hz0] at heq
  clear hz0 hb
  obtain ⟨xk, xn, xs⟩ := x
  obtain ⟨yk, yn, ys⟩ := y
  obtain ⟨zk, zn, zs⟩ := z
  dsimp only at heq HXY HYZ HXZ HYX ⊢
  obtain ⟨W, hW, hbW, hzW, hcW⟩ := boxes3 w (.int .i64 xk) (.int .i64 xn) (.string (str8 xs)) (.int .i64 yk) (.int .i64 yn) (.string (str8 ys)) (.int .i64 zk) (.int .i64 zn) (.string (str8 zs)) 23
  have HSM := hid (small7_any W (hT.below hbW hT.lt))
  have HC := hid hcW
  have HB := hid hbW
  clear hT hcW hbW
  have key : (X = 1) ∨ (X = -1 ∧ Y = 1) ∨ (X = 0 ∧ Y = 1) ∨ (X = 0 ∧ Y = 0 ∧ Z = 0) ∨ (X = 0 ∧ Y = 0 ∧ Z = -1) ∨ (X = -1 ∧ Y = -1 ∧ Z = -1) ∨ (X = -1 ∧ Y = 0 ∧ Z = -1) ∨ (X = 0 ∧ Y = -1 ∧ Z = -1) := by omega
  have HK := hid key
  clear key hxy hyz hxz hs
  go_enter Tryd.func8, Tryd.ntmps8
  go_wp2_with fail
  try rw [hW]
  clear hW
  refine HSM.out.mono ?_
  rintro e w1 ⟨rfl, d1⟩
  have D1 := hid d1
  have f0 := cells3 (HC.out w1 d1).1
  have f1 := cells3 (HC.out w1 d1).2.1
  have f2 := cells3 (HC.out w1 d1).2.2
  clear d1
  go_wp2_with fail
  refine (HXY.out _).mono ?_
  rintro e w2 ⟨rfl, g2⟩
  have D2 : Hid (Below W.heap.size W w2) := hid (D1.out.trans (g2.mono D1.out.size))
  clear f0 f1 f2 g2
  have f0 := cells3 (HC.out w2 D2.out).1
  have f1 := cells3 (HC.out w2 D2.out).2.1
  have f2 := cells3 (HC.out w2 D2.out).2.2
  go_wp2_with fail
  refine (HYZ.out _).mono ?_
  rintro e w3 ⟨rfl, g3⟩
  have D3 : Hid (Below W.heap.size W w3) := hid (D2.out.trans (g3.mono D2.out.size))
  clear f0 f1 f2 g3
  have f0 := cells3 (HC.out w3 D3.out).1
  have f1 := cells3 (HC.out w3 D3.out).2.1
  have f2 := cells3 (HC.out w3 D3.out).2.2
  go_wp2_with fail
  refine (HXZ.out _).mono ?_
  rintro e w4 ⟨rfl, g4⟩
  have D4 : Hid (Below W.heap.size W w4) := hid (D3.out.trans (g4.mono D3.out.size))
  clear f0 f1 f2 g4
  have f0 := cells3 (HC.out w4 D4.out).1
  have f1 := cells3 (HC.out w4 D4.out).2.1
  have f2 := cells3 (HC.out w4 D4.out).2.2
  rcases HK.out with rfl | ⟨rfl, rfl⟩ | ⟨rfl, rfl⟩ | ⟨rfl, rfl, rfl⟩ | ⟨rfl, rfl, rfl⟩ | ⟨rfl, rfl, rfl⟩ | ⟨rfl, rfl, rfl⟩ | ⟨rfl, rfl, rfl⟩
  all_goals (
    clear HK HXY HYZ HXZ
    simp only [show ((1 : Int) == 0) = false from rfl, show ((-1 : Int) == 0) = false from rfl, show ((0 : Int) == 0) = true from rfl] at heq
    go_wp2_with fail
    refine (HYX.out _).mono ?_
    rintro e w5 ⟨rfl, g5⟩
    have D5 : Hid (Below W.heap.size W w5) := hid (D4.out.trans (g5.mono D4.out.size))
    clear f0 f1 f2 g5
    have f0 := cells3 (HC.out w5 D5.out).1
    have f1 := cells3 (HC.out w5 D5.out).2.1
    have f2 := cells3 (HC.out w5 D5.out).2.2
    go_wp2
    go_ret
    exact ⟨rfl, HB.out.trans (D5.out.mono HB.out.size)⟩)
end Go.Proofs.YtlcoeoilakobjaaDoor
