/- ValueKinds: whatever the number and the text. -/
import Derived.Test.YtlcoeoilakobjabDoorBoxV
namespace Go.Proofs.YtlcoeoilakobjabDoor
open Go.RowKit
set_option linter.unusedVariables false
set_option linter.unusedSimpArgs false
set_option maxRecDepth 20000

theorem cmpV_k {x y : Vl} (h : x.k < y.k) : cmpV x y = -1 := by
  have hne : ¬ eqv x y = true := by rw [eqv_iff]; intro e; rw [e] at h; omega
  rw [cmpV, if_neg hne, if_pos (by omega), cmpI, if_pos h]

theorem cmpV_k' {x y : Vl} (h : y.k < x.k) : cmpV x y = 1 := by
  have hne : ¬ eqv x y = true := by rw [eqv_iff]; intro e; rw [e] at h; omega
  rw [cmpV, if_neg hne, if_pos (by omega), cmpI, if_neg (by omega), if_pos h]

set_option maxHeartbeats 1000000 in
theorem kinds_law (n : Int) (sb : ByteArray) (w : World) (h0 : -9223372036854775808 ≤ n) (h1 : n ≤ 9223372036854775807) (hsb : sb.size ≤ 140737488351232) (hT : TabV w) :
    Calls Tryd.prog 3 #[.int .i64 n, .string sb] w fun e w' => e = .returned (.bool true) ∧ Below w.heap.size w w' := by
  obtain ⟨s, rfl⟩ : ∃ s, sb = str8 s := ⟨_, (str8_of sb).symm⟩
  rw [str8_size] at hsb
  have HT := hid hT
  have hlt := hT.lt
  have e0 : str8 [] = ⟨#[]⟩ := rfl
  have HRT := hid (right_text s)
  have HSM := hid (small7_any w hT)
  clear hT
  go_enter Tryd.func3, Tryd.ntmps3
  go_wp2_with fail
  refine HSM.out.mono ?_
  rintro e w1 ⟨rfl, hb1⟩
  have hT1 := HT.out.below hb1 hlt
  clear HSM
  go_wp2_with fail
  obtain ⟨W, hW, hbW, hzW, hcW⟩ := boxes3 w1 (.int .i64 0) (.int .i64 0) (.string ⟨#[]⟩) (.int .i64 1) (.int .i64 n) (.string ⟨#[]⟩) (.int .i64 2) (.int .i64 0) (.string (str8 s)) 24
  try rw [hW]
  clear hW
  have hTW := hid (hT1.below hbW hT1.lt)
  have HB := hid (hb1.trans (hbW.mono hb1.size))
  have HC := hid hcW
  have D0 : Hid (Below W.heap.size W W) := hid (Below.refl _ _)
  have f0 := cells3 (hcW W (Below.refl _ _)).1
  have f1 := cells3 (hcW W (Below.refl _ _)).2.1
  have f2 := cells3 (hcW W (Below.refl _ _)).2.2
  clear hcW hbW hb1 hT1
  refine (right_any 0 0 [] _ (by simp)).mono ?_
  rw [show rightV ⟨0, 0, []⟩ = 0 from rfl]
  rintro e x1 ⟨rfl, g1⟩
  have D1 : Hid (Below W.heap.size W x1) := hid (D0.out.trans (g1.mono D0.out.size))
  clear f0 f1 f2 g1
  have f0 := cells3 (HC.out x1 D1.out).1
  have f1 := cells3 (HC.out x1 D1.out).2.1
  have f2 := cells3 (HC.out x1 D1.out).2.2
  go_wp2_with fail
  refine (right_any 1 n [] _ (by simp)).mono ?_
  rw [right_num]
  rintro e x2 ⟨rfl, g2⟩
  have D2 : Hid (Below W.heap.size W x2) := hid (D1.out.trans (g2.mono D1.out.size))
  clear f0 f1 f2 g2
  have f0 := cells3 (HC.out x2 D2.out).1
  have f1 := cells3 (HC.out x2 D2.out).2.1
  have f2 := cells3 (HC.out x2 D2.out).2.2
  by_cases hl : 40 < s.length
  · rw [if_pos hl] at HRT
    have hlz : decide (((str8 s).size : Int) ≤ 40) = false := decide_eq_false (by rw [str8_size]; omega)
    go_wp2_with fail
    refine (right_any 2 0 s _ (by omega)).mono ?_
    rw [HRT.out]
    rintro e x3 ⟨rfl, g3⟩
    have D3 : Hid (Below W.heap.size W x3) := hid (D2.out.trans (g3.mono D2.out.size))
    clear f0 f1 f2 g3
    have f0 := cells3 (HC.out x3 D3.out).1
    have f1 := cells3 (HC.out x3 D3.out).2.1
    have f2 := cells3 (HC.out x3 D3.out).2.2
    go_wp2_with fail
    refine (compare_any 0 0 1 n [] [] _).mono ?_
    rw [cmpV_k (x := ⟨0, 0, []⟩) (y := ⟨1, n, []⟩) (by show (0 : Int) < 1; decide)]
    rintro e x4 ⟨rfl, g4⟩
    have D4 : Hid (Below W.heap.size W x4) := hid (D3.out.trans (g4.mono D3.out.size))
    clear f0 f1 f2 g4
    have f0 := cells3 (HC.out x4 D4.out).1
    have f1 := cells3 (HC.out x4 D4.out).2.1
    have f2 := cells3 (HC.out x4 D4.out).2.2
    go_wp2_with fail
    refine (compare_any 1 n 2 0 [] s _).mono ?_
    rw [cmpV_k (x := ⟨1, n, []⟩) (y := ⟨2, 0, s⟩) (by show (1 : Int) < 2; decide)]
    rintro e x5 ⟨rfl, g5⟩
    have D5 : Hid (Below W.heap.size W x5) := hid (D4.out.trans (g5.mono D4.out.size))
    clear f0 f1 f2 g5
    have f0 := cells3 (HC.out x5 D5.out).1
    have f1 := cells3 (HC.out x5 D5.out).2.1
    have f2 := cells3 (HC.out x5 D5.out).2.2
    go_wp2_with fail
    refine (compare_any 2 0 0 0 s [] _).mono ?_
    rw [cmpV_k' (x := ⟨2, 0, s⟩) (y := ⟨0, 0, []⟩) (by show (0 : Int) < 2; decide)]
    rintro e x6 ⟨rfl, g6⟩
    have D6 : Hid (Below W.heap.size W x6) := hid (D5.out.trans (g6.mono D5.out.size))
    clear f0 f1 f2 g6
    have f0 := cells3 (HC.out x6 D6.out).1
    have f1 := cells3 (HC.out x6 D6.out).2.1
    have f2 := cells3 (HC.out x6 D6.out).2.2
    go_wp2_with fail
    refine (literal_any 0 0 [] _ (hTW.out.below D6.out hTW.out.lt) (by decide) (by decide) (by simp)).mono ?_
    rw [show str8 (litV ⟨0, 0, []⟩) = ⟨#[78, 85, 76, 76]⟩ from rfl]
    rintro e x7 ⟨rfl, g7⟩
    have D7 : Hid (Below W.heap.size W x7) := hid (D6.out.trans (g7.mono D6.out.size))
    clear f0 f1 f2 g7
    have f0 := cells3 (HC.out x7 D7.out).1
    have f1 := cells3 (HC.out x7 D7.out).2.1
    have f2 := cells3 (HC.out x7 D7.out).2.2
    go_wp2
    go_ret
    exact ⟨rfl, HB.out.trans (D7.out.mono HB.out.size)⟩
  · rw [if_neg hl] at HRT
    have hlz : decide (((str8 s).size : Int) ≤ 40) = true := decide_eq_true (by rw [str8_size]; omega)
    go_wp2_with fail
    refine (right_any 2 0 s _ (by omega)).mono ?_
    rw [HRT.out]
    rintro e x3 ⟨rfl, g3⟩
    have D3 : Hid (Below W.heap.size W x3) := hid (D2.out.trans (g3.mono D2.out.size))
    clear f0 f1 f2 g3
    have f0 := cells3 (HC.out x3 D3.out).1
    have f1 := cells3 (HC.out x3 D3.out).2.1
    have f2 := cells3 (HC.out x3 D3.out).2.2
    go_wp2_with fail
    refine (compare_any 0 0 1 n [] [] _).mono ?_
    rw [cmpV_k (x := ⟨0, 0, []⟩) (y := ⟨1, n, []⟩) (by show (0 : Int) < 1; decide)]
    rintro e x4 ⟨rfl, g4⟩
    have D4 : Hid (Below W.heap.size W x4) := hid (D3.out.trans (g4.mono D3.out.size))
    clear f0 f1 f2 g4
    have f0 := cells3 (HC.out x4 D4.out).1
    have f1 := cells3 (HC.out x4 D4.out).2.1
    have f2 := cells3 (HC.out x4 D4.out).2.2
    go_wp2_with fail
    refine (compare_any 1 n 2 0 [] s _).mono ?_
    rw [cmpV_k (x := ⟨1, n, []⟩) (y := ⟨2, 0, s⟩) (by show (1 : Int) < 2; decide)]
    rintro e x5 ⟨rfl, g5⟩
    have D5 : Hid (Below W.heap.size W x5) := hid (D4.out.trans (g5.mono D4.out.size))
    clear f0 f1 f2 g5
    have f0 := cells3 (HC.out x5 D5.out).1
    have f1 := cells3 (HC.out x5 D5.out).2.1
    have f2 := cells3 (HC.out x5 D5.out).2.2
    go_wp2_with fail
    refine (compare_any 2 0 0 0 s [] _).mono ?_
    rw [cmpV_k' (x := ⟨2, 0, s⟩) (y := ⟨0, 0, []⟩) (by show (0 : Int) < 2; decide)]
    rintro e x6 ⟨rfl, g6⟩
    have D6 : Hid (Below W.heap.size W x6) := hid (D5.out.trans (g6.mono D5.out.size))
    clear f0 f1 f2 g6
    have f0 := cells3 (HC.out x6 D6.out).1
    have f1 := cells3 (HC.out x6 D6.out).2.1
    have f2 := cells3 (HC.out x6 D6.out).2.2
    go_wp2_with fail
    refine (literal_any 0 0 [] _ (hTW.out.below D6.out hTW.out.lt) (by decide) (by decide) (by simp)).mono ?_
    rw [show str8 (litV ⟨0, 0, []⟩) = ⟨#[78, 85, 76, 76]⟩ from rfl]
    rintro e x7 ⟨rfl, g7⟩
    have D7 : Hid (Below W.heap.size W x7) := hid (D6.out.trans (g7.mono D6.out.size))
    clear f0 f1 f2 g7
    have f0 := cells3 (HC.out x7 D7.out).1
    have f1 := cells3 (HC.out x7 D7.out).2.1
    have f2 := cells3 (HC.out x7 D7.out).2.2
    go_wp2
    go_ret
    exact ⟨rfl, HB.out.trans (D7.out.mono HB.out.size)⟩
end Go.Proofs.YtlcoeoilakobjabDoor
