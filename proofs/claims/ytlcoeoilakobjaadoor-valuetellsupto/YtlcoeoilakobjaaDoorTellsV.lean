/- ValueTells: whatever the two values, of texts of at most 1048576 bytes. -/
import Derived.Test.YtlcoeoilakobjaaDoorRefV5
import Derived.Test.YtlcoeoilakobjaaDoorSmall7
import Derived.Test.YtlcoeoilakobjaaDoorOpenV
namespace Go.Proofs.YtlcoeoilakobjaaDoor
open Go.RowKit
set_option linter.unusedVariables false
set_option linter.unusedSimpArgs false
set_option maxRecDepth 20000

set_option maxHeartbeats 2000000 in
theorem tellsV_law (x y : Vl) (w : World) (ox : OkV x) (oy : OkV y) (hxs : x.s.length ≤ 1048576) (hT : TabV w) :
    Calls Tryd.prog 3 #[.agg #[.int .i64 x.k, .int .i64 x.n, .string (str8 x.s)], .agg #[.int .i64 y.k, .int .i64 y.n, .string (str8 y.s)]] w fun e w' => e = .returned (.bool true) ∧ Below w.heap.size w w' := by
  obtain ⟨xk, xn, xs⟩ := x
  obtain ⟨yk, yn, ys⟩ := y
  unfold OkV at ox oy
  dsimp only at ox oy hxs ⊢
  have H1 := hid (fun w => right_any xk xn xs w (by omega))
  have H2 := hid (fun w => dright_any xk xn xs w (by omega))
  have H3 := hid (fun w => compare_any xk xn yk yn xs ys w)
  have H4 := hid (fun w => dcompare_any xk xn yk yn xs ys w)
  have H5 := hid (fun w (h : TabV w) => literal_any xk xn xs w h ox.2.1.1 ox.2.1.2 (by omega))
  have H6 := hid (fun w => dliteral_any xk xn xs w ox.2.1.1 ox.2.1.2 hxs)
  generalize ((rightV ⟨xk, xn, xs⟩ : Nat) : Int) = R at *
  generalize cmpV ⟨xk, xn, xs⟩ ⟨yk, yn, ys⟩ = C at *
  generalize str8 (litV ⟨xk, xn, xs⟩) = L at *
  obtain ⟨W, hW, hbW, hzW, hcW⟩ := boxes w (.int .i64 xk) (.int .i64 xn) (.string (str8 xs)) (.int .i64 yk) (.int .i64 yn) (.string (str8 ys)) 23
  have hTW := hT.below hbW hT.lt
  have HTW := hid hTW
  have HSM := hid (small7_any W hTW)
  have HC := hid hcW
  have HB := hid hbW
  clear hT hTW hcW hbW ox oy
  go_enter Tryd.func3, Tryd.ntmps3
  go_wp2_with fail
  try rw [hW]
  clear hW
  refine HSM.out.mono ?_
  rintro e w1 ⟨rfl, d1⟩
  have D1 := hid d1
  have FS : ∀ V, Below W.heap.size W V → V.cell? ⟨w.heap.size, 0, none⟩ = some (.int .i64 xk) ∧ V.cell? ⟨w.heap.size, 1, none⟩ = some (.int .i64 xn) ∧ V.cell? ⟨w.heap.size, 2, none⟩ = some (.string (str8 xs)) ∧ V.cell? ⟨w.heap.size + 1, 0, none⟩ = some (.int .i64 yk) ∧ V.cell? ⟨w.heap.size + 1, 1, none⟩ = some (.int .i64 yn) ∧ V.cell? ⟨w.heap.size + 1, 2, none⟩ = some (.string (str8 ys)) := fun V hV => by
    obtain ⟨a, b⟩ := HC.out V hV
    obtain ⟨a0, a1, a2, _⟩ := cells3 a
    obtain ⟨b0, b1, b2, _⟩ := cells3 b
    exact ⟨a0, a1, a2, b0, b1, b2⟩
  have HFS := hid FS
  have D2 : Hid (Below W.heap.size W w1.drew) := hid (d1.trans (below_drewN (Below.refl _ _) 1))
  have hS1 := FS w1.drew D2.out
  clear FS HSM d1
  go_wp2_with fail
  go_region_held3 (fun V => V.cell? ⟨w.heap.size, 0, none⟩ = some (.int .i64 xk) ∧ V.cell? ⟨w.heap.size, 1, none⟩ = some (.int .i64 xn) ∧ V.cell? ⟨w.heap.size, 2, none⟩ = some (.string (str8 xs)) ∧ V.cell? ⟨w.heap.size + 1, 0, none⟩ = some (.int .i64 yk) ∧ V.cell? ⟨w.heap.size + 1, 1, none⟩ = some (.int .i64 yn) ∧ V.cell? ⟨w.heap.size + 1, 2, none⟩ = some (.string (str8 ys)))
    (first | assumption)
    (first
      | (go_at_call 10; refine (H1.out _).mono ?_; rintro e w3 ⟨rfl, g3⟩
         have D3 : Hid (Below W.heap.size W w3) := hid (D2.out.trans (g3.mono D2.out.size))
         have hS3 := HFS.out _ D3.out
         clear g3)
      | (go_at_call 11; refine (H2.out _).mono ?_; rintro e w4 ⟨rfl, g4⟩
         have D4 : Hid (Below W.heap.size W w4) := hid (D3.out.trans (g4.mono D3.out.size))
         have hS4 := HFS.out _ D4.out
         clear g4)
      | (go_at_call 12; refine (H3.out _).mono ?_; rintro e w5 ⟨rfl, g5⟩
         have D5 : Hid (Below W.heap.size W w5) := hid (D4.out.trans (g5.mono D4.out.size))
         have hS5 := HFS.out _ D5.out
         clear g5)
      | (go_at_call 13; refine (H4.out _).mono ?_; rintro e w6 ⟨rfl, g6⟩
         have D6 : Hid (Below W.heap.size W w6) := hid (D5.out.trans (g6.mono D5.out.size))
         have hS6 := HFS.out _ D6.out
         clear g6)
      | (go_at_call 14; refine (H5.out _ (HTW.out.below D6.out HTW.out.lt)).mono ?_; rintro e w7 ⟨rfl, g7⟩
         have D7 : Hid (Below W.heap.size W w7) := hid (D6.out.trans (g7.mono D6.out.size))
         have hS7 := HFS.out _ D7.out
         clear g7)
      | (go_at_call 15; refine (H6.out _).mono ?_; rintro e w8 ⟨rfl, g8⟩
         have D8 : Hid (Below W.heap.size W w8) := hid (D7.out.trans (g8.mono D7.out.size))
         have hS8 := HFS.out _ D8.out
         clear g8))
  go_wp2
  go_ret
  exact ⟨by simp, HB.out.trans (D8.out.mono HB.out.size)⟩
end Go.Proofs.YtlcoeoilakobjaaDoor
