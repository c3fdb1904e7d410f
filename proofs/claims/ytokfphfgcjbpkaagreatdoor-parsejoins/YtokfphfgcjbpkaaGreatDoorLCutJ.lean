/- Contract of lex.cut (written by tools/lcutj.py). -/
import Derived.Test.YtokfphfgcjbpkaaGreatDoorLCutI
namespace Go.Proofs.YtokfphfgcjbpkaaGreatDoor
open Go.RowKit Go.Shelf
set_option linter.unusedVariables false
set_option linter.unusedSimpArgs false
set_option maxRecDepth 20000

set_option maxHeartbeats 1000000 in
theorem cut_any (c : UInt8) (r : List UInt8) (w : World) (hT : TabL w) (hs : (c :: r).length ≤ 2147483648) : Calls Tryz.prog 30 #[.string (str8 (c :: r))] w fun e w' => e = .returned (cutA (cutT (c :: r))) ∧ Below w.heap.size w w' := by
  have hd : cutT (c :: r) = if inS lowsB c = true then cutNameT (c :: r) else if inS upsB c = true then cutWordT (c :: r) else if inS digsB c = true then cutNumT (c :: r) else if inS [39] c = true then cutTextT (c :: r) else cutSignT (c :: r) := rfl
  rw [hd]
  clear hd
  obtain ⟨W0, hW0⟩ : ∃ W0, w.alloc (.cells #[.string (str8 (c :: r))] 9) = W0 := ⟨_, rfl⟩
  have hbW0 : Below w.heap.size w W0 := by rw [← hW0]; exact (Below.refl _ _).alloc (Nat.le_refl _) _
  have hzW0 : W0.heap.size = w.heap.size + 1 := by rw [← hW0]; simp
  have hcW0 : W0.cell? ⟨w.heap.size, 0, none⟩ = some (.string (str8 (c :: r))) := by rw [← hW0]; simp
  obtain ⟨W, hW, hbW, hzW, hcW⟩ := box4 W0 (.int .i64 0) (.string ⟨#[]⟩) (.int .i64 0) (.int .i64 0) 71
  have HFS : Hid (∀ V, Below W.heap.size W V → V.cell? ⟨w.heap.size, 0, none⟩ = some (.string (str8 (c :: r)))) := hid (fun V hV => (hV.cell (p := ⟨w.heap.size, 0, none⟩) (by show w.heap.size < _; omega)).trans ((hbW.cell (p := ⟨w.heap.size, 0, none⟩) (by show w.heap.size < _; omega)).trans hcW0))
  have hS0 := HFS.out W (Below.refl _ _)
  have HCW := hid hcW
  have HB0 : Hid (Below w.heap.size w W) := hid (hbW0.trans (hbW.mono (by omega)))
  have HTW := hid (hT.on HB0.out)
  have HBG : Hid (∀ (l : List UInt8) V, Below W.heap.size W V → Calls Tryz.prog 66 #[.string (str8 l), .pointer (some ⟨w.heap.size, 0, none⟩)] V fun e w' => e = .returned (.bool (inS l c)) ∧ Below V.heap.size V w') := hid (fun l V hV => cut1_any l c r w.heap.size V (by have := hV.size; omega) (HFS.out V hV))
  have HL1 : Hid (∀ V, Below W.heap.size W V → Calls Tryz.prog 66 #[.string ⟨#[97, 98, 99, 100, 101, 102, 103, 104, 105, 106, 107, 108, 109, 110, 111, 112, 113, 114, 115, 116, 117, 118, 119, 120, 121, 122, 95]⟩, .pointer (some ⟨w.heap.size, 0, none⟩)] V fun e w' => e = .returned (.bool (inS lowsB c)) ∧ Below V.heap.size V w') := hid (fun V hV => HBG.out lowsB V hV)
  have HL2 : Hid (∀ V, Below W.heap.size W V → Calls Tryz.prog 66 #[.string ⟨#[65, 66, 67, 68, 69, 70, 71, 72, 73, 74, 75, 76, 77, 78, 79, 80, 81, 82, 83, 84, 85, 86, 87, 88, 89, 90]⟩, .pointer (some ⟨w.heap.size, 0, none⟩)] V fun e w' => e = .returned (.bool (inS upsB c)) ∧ Below V.heap.size V w') := hid (fun V hV => HBG.out upsB V hV)
  have HL3 : Hid (∀ V, Below W.heap.size W V → Calls Tryz.prog 66 #[.string ⟨#[48, 49, 50, 51, 52, 53, 54, 55, 56, 57]⟩, .pointer (some ⟨w.heap.size, 0, none⟩)] V fun e w' => e = .returned (.bool (inS digsB c)) ∧ Below V.heap.size V w') := hid (fun V hV => HBG.out digsB V hV)
  have HL4 : Hid (∀ V, Below W.heap.size W V → Calls Tryz.prog 66 #[.string ⟨#[39]⟩, .pointer (some ⟨w.heap.size, 0, none⟩)] V fun e w' => e = .returned (.bool (inS [39] c)) ∧ Below V.heap.size V w') := hid (fun V hV => HBG.out [39] V hV)
  have hsz : W0.heap.size = w.heap.size + 1 := hzW0
  have HK1 := hid (fun V => cutName_any (c :: r) V (by omega))
  have HK2 := hid (fun V => cutWord_any (c :: r) V (by omega))
  have HK3 : Hid (inS digsB c = true → ∀ V, TabL V → _) := hid (fun (h : inS digsB c = true) V hV => cutNumber_any (c :: r) V hV (by omega) (row_first h))
  have HK4 := hid (fun V hV => cutText_any (c :: r) V hV hs (by simp))
  have HK5 := hid (fun V hV => cutSign_any (c :: r) V hV (by omega))
  clear hcW hbW hbW0 hzW0 hT hcW0 HBG
  by_cases hc1 : inS lowsB c = true
  · rw [if_pos hc1]
    rw [hc1] at HL1
    obtain ⟨⟨xe, ⟨xk, xs, xn, xp⟩, xm⟩, hX⟩ : ∃ X, cutNameT (c :: r) = X := ⟨_, rfl⟩
    have HK := HK1
    rw [hX] at HK ⊢
    clear hX HK1 HK2 HK3 HK4 HK5
    unfold cutA at HK ⊢
    dsimp only at HK ⊢
    generalize str8 (c :: r) = S at *
    go_enter Tryz.func30, Tryz.ntmps30
    go_wp2_with fail
    try rw [hW0]
    try rw [hsz]
    try rw [hW]
    clear hW0 hW
    have D0 : Hid (Below W.heap.size W W) := hid (Below.refl _ _)
    refine (HL1.out W D0.out).mono ?_
    rintro e v1 ⟨rfl, g1⟩
    have D1 : Hid (Below W.heap.size W v1) := hid (D0.out.trans (g1.mono D0.out.size))
    have hS1 := HFS.out v1 D1.out
    clear g1
    go_wp2_with fail
    refine (HK.out v1).mono ?_
    rintro e u ⟨rfl, gu⟩
    have DU : Hid (Below W.heap.size W u) := hid (D1.out.trans (gu.mono D1.out.size))
    have HE : Hid (Below w.heap.size w u) := hid (HB0.out.trans (DU.out.mono HB0.out.size))
    have g0 := cells4 (HCW.out u DU.out)
    rw [hsz] at g0
    clear gu
    go_wp2
    exact bodyPost_ret (v := .tuple #[.agg #[.int .i64 xk, .string (str8 xs), .int .i64 xn, .int .i64 xp], .int .i64 (xm : Int), .int .i64 (xe : Int)]) (by simp [results, Tryz.results30, go_sem, g0]) rfl ⟨rfl, (((HE.out.setCell (Nat.le_succ _) _).setCell (Nat.le_succ _) _).setCell (Nat.le_succ _) _).setCell (Nat.le_succ _) _⟩
  · rw [if_neg hc1]
    have hf1 : inS lowsB c = false := by simpa using hc1
    rw [hf1] at HL1
    by_cases hc2 : inS upsB c = true
    · rw [if_pos hc2]
      rw [hc2] at HL2
      obtain ⟨⟨xe, ⟨xk, xs, xn, xp⟩, xm⟩, hX⟩ : ∃ X, cutWordT (c :: r) = X := ⟨_, rfl⟩
      have HK := HK2
      rw [hX] at HK ⊢
      clear hX HK1 HK2 HK3 HK4 HK5
      unfold cutA at HK ⊢
      dsimp only at HK ⊢
      generalize str8 (c :: r) = S at *
      go_enter Tryz.func30, Tryz.ntmps30
      go_wp2_with fail
      try rw [hW0]
      try rw [hsz]
      try rw [hW]
      clear hW0 hW
      have D0 : Hid (Below W.heap.size W W) := hid (Below.refl _ _)
      refine (HL1.out W D0.out).mono ?_
      rintro e v1 ⟨rfl, g1⟩
      have D1 : Hid (Below W.heap.size W v1) := hid (D0.out.trans (g1.mono D0.out.size))
      have hS1 := HFS.out v1 D1.out
      clear g1
      go_wp2_with fail
      refine (HL2.out v1 D1.out).mono ?_
      rintro e v2 ⟨rfl, g2⟩
      have D2 : Hid (Below W.heap.size W v2) := hid (D1.out.trans (g2.mono D1.out.size))
      have hS2 := HFS.out v2 D2.out
      clear g2
      go_wp2_with fail
      refine (HK.out v2).mono ?_
      rintro e u ⟨rfl, gu⟩
      have DU : Hid (Below W.heap.size W u) := hid (D2.out.trans (gu.mono D2.out.size))
      have HE : Hid (Below w.heap.size w u) := hid (HB0.out.trans (DU.out.mono HB0.out.size))
      have g0 := cells4 (HCW.out u DU.out)
      rw [hsz] at g0
      clear gu
      go_wp2
      exact bodyPost_ret (v := .tuple #[.agg #[.int .i64 xk, .string (str8 xs), .int .i64 xn, .int .i64 xp], .int .i64 (xm : Int), .int .i64 (xe : Int)]) (by simp [results, Tryz.results30, go_sem, g0]) rfl ⟨rfl, (((HE.out.setCell (Nat.le_succ _) _).setCell (Nat.le_succ _) _).setCell (Nat.le_succ _) _).setCell (Nat.le_succ _) _⟩
    · rw [if_neg hc2]
      have hf2 : inS upsB c = false := by simpa using hc2
      rw [hf2] at HL2
      by_cases hc3 : inS digsB c = true
      · rw [if_pos hc3]
        rw [hc3] at HL3
        obtain ⟨⟨xe, ⟨xk, xs, xn, xp⟩, xm⟩, hX⟩ : ∃ X, cutNumT (c :: r) = X := ⟨_, rfl⟩
        have HK := hid (HK3.out hc3)
        rw [hX] at HK ⊢
        clear hX HK1 HK2 HK3 HK4 HK5
        unfold cutA at HK ⊢
        dsimp only at HK ⊢
        generalize str8 (c :: r) = S at *
        go_enter Tryz.func30, Tryz.ntmps30
        go_wp2_with fail
        try rw [hW0]
        try rw [hsz]
        try rw [hW]
        clear hW0 hW
        have D0 : Hid (Below W.heap.size W W) := hid (Below.refl _ _)
        refine (HL1.out W D0.out).mono ?_
        rintro e v1 ⟨rfl, g1⟩
        have D1 : Hid (Below W.heap.size W v1) := hid (D0.out.trans (g1.mono D0.out.size))
        have hS1 := HFS.out v1 D1.out
        clear g1
        go_wp2_with fail
        refine (HL2.out v1 D1.out).mono ?_
        rintro e v2 ⟨rfl, g2⟩
        have D2 : Hid (Below W.heap.size W v2) := hid (D1.out.trans (g2.mono D1.out.size))
        have hS2 := HFS.out v2 D2.out
        clear g2
        go_wp2_with fail
        refine (HL3.out v2 D2.out).mono ?_
        rintro e v3 ⟨rfl, g3⟩
        have D3 : Hid (Below W.heap.size W v3) := hid (D2.out.trans (g3.mono D2.out.size))
        have hS3 := HFS.out v3 D3.out
        clear g3
        go_wp2_with fail
        refine (HK.out v3 (HTW.out.on D3.out)).mono ?_
        rintro e u ⟨rfl, gu⟩
        have DU : Hid (Below W.heap.size W u) := hid (D3.out.trans (gu.mono D3.out.size))
        have HE : Hid (Below w.heap.size w u) := hid (HB0.out.trans (DU.out.mono HB0.out.size))
        have g0 := cells4 (HCW.out u DU.out)
        rw [hsz] at g0
        clear gu
        go_wp2
        exact bodyPost_ret (v := .tuple #[.agg #[.int .i64 xk, .string (str8 xs), .int .i64 xn, .int .i64 xp], .int .i64 (xm : Int), .int .i64 (xe : Int)]) (by simp [results, Tryz.results30, go_sem, g0]) rfl ⟨rfl, (((HE.out.setCell (Nat.le_succ _) _).setCell (Nat.le_succ _) _).setCell (Nat.le_succ _) _).setCell (Nat.le_succ _) _⟩
      · rw [if_neg hc3]
        have hf3 : inS digsB c = false := by simpa using hc3
        rw [hf3] at HL3
        by_cases hc4 : inS [39] c = true
        · rw [if_pos hc4]
          rw [hc4] at HL4
          obtain ⟨⟨xe, ⟨xk, xs, xn, xp⟩, xm⟩, hX⟩ : ∃ X, cutTextT (c :: r) = X := ⟨_, rfl⟩
          have HK := HK4
          rw [hX] at HK ⊢
          clear hX HK1 HK2 HK3 HK4 HK5
          unfold cutA at HK ⊢
          dsimp only at HK ⊢
          generalize str8 (c :: r) = S at *
          go_enter Tryz.func30, Tryz.ntmps30
          go_wp2_with fail
          try rw [hW0]
          try rw [hsz]
          try rw [hW]
          clear hW0 hW
          have D0 : Hid (Below W.heap.size W W) := hid (Below.refl _ _)
          refine (HL1.out W D0.out).mono ?_
          rintro e v1 ⟨rfl, g1⟩
          have D1 : Hid (Below W.heap.size W v1) := hid (D0.out.trans (g1.mono D0.out.size))
          have hS1 := HFS.out v1 D1.out
          clear g1
          go_wp2_with fail
          refine (HL2.out v1 D1.out).mono ?_
          rintro e v2 ⟨rfl, g2⟩
          have D2 : Hid (Below W.heap.size W v2) := hid (D1.out.trans (g2.mono D1.out.size))
          have hS2 := HFS.out v2 D2.out
          clear g2
          go_wp2_with fail
          refine (HL3.out v2 D2.out).mono ?_
          rintro e v3 ⟨rfl, g3⟩
          have D3 : Hid (Below W.heap.size W v3) := hid (D2.out.trans (g3.mono D2.out.size))
          have hS3 := HFS.out v3 D3.out
          clear g3
          go_wp2_with fail
          refine (HL4.out v3 D3.out).mono ?_
          rintro e v4 ⟨rfl, g4⟩
          have D4 : Hid (Below W.heap.size W v4) := hid (D3.out.trans (g4.mono D3.out.size))
          have hS4 := HFS.out v4 D4.out
          clear g4
          go_wp2_with fail
          refine (HK.out v4 (HTW.out.on D4.out)).mono ?_
          rintro e u ⟨rfl, gu⟩
          have DU : Hid (Below W.heap.size W u) := hid (D4.out.trans (gu.mono D4.out.size))
          have HE : Hid (Below w.heap.size w u) := hid (HB0.out.trans (DU.out.mono HB0.out.size))
          have g0 := cells4 (HCW.out u DU.out)
          rw [hsz] at g0
          clear gu
          go_wp2
          exact bodyPost_ret (v := .tuple #[.agg #[.int .i64 xk, .string (str8 xs), .int .i64 xn, .int .i64 xp], .int .i64 (xm : Int), .int .i64 (xe : Int)]) (by simp [results, Tryz.results30, go_sem, g0]) rfl ⟨rfl, (((HE.out.setCell (Nat.le_succ _) _).setCell (Nat.le_succ _) _).setCell (Nat.le_succ _) _).setCell (Nat.le_succ _) _⟩
        · rw [if_neg hc4]
          have hf4 : inS [39] c = false := by simpa using hc4
          rw [hf4] at HL4
          obtain ⟨⟨xe, ⟨xk, xs, xn, xp⟩, xm⟩, hX⟩ : ∃ X, cutSignT (c :: r) = X := ⟨_, rfl⟩
          have HK := HK5
          rw [hX] at HK ⊢
          clear hX HK1 HK2 HK3 HK4 HK5
          unfold cutA at HK ⊢
          dsimp only at HK ⊢
          generalize str8 (c :: r) = S at *
          go_enter Tryz.func30, Tryz.ntmps30
          go_wp2_with fail
          try rw [hW0]
          try rw [hsz]
          try rw [hW]
          clear hW0 hW
          have D0 : Hid (Below W.heap.size W W) := hid (Below.refl _ _)
          refine (HL1.out W D0.out).mono ?_
          rintro e v1 ⟨rfl, g1⟩
          have D1 : Hid (Below W.heap.size W v1) := hid (D0.out.trans (g1.mono D0.out.size))
          have hS1 := HFS.out v1 D1.out
          clear g1
          go_wp2_with fail
          refine (HL2.out v1 D1.out).mono ?_
          rintro e v2 ⟨rfl, g2⟩
          have D2 : Hid (Below W.heap.size W v2) := hid (D1.out.trans (g2.mono D1.out.size))
          have hS2 := HFS.out v2 D2.out
          clear g2
          go_wp2_with fail
          refine (HL3.out v2 D2.out).mono ?_
          rintro e v3 ⟨rfl, g3⟩
          have D3 : Hid (Below W.heap.size W v3) := hid (D2.out.trans (g3.mono D2.out.size))
          have hS3 := HFS.out v3 D3.out
          clear g3
          go_wp2_with fail
          refine (HL4.out v3 D3.out).mono ?_
          rintro e v4 ⟨rfl, g4⟩
          have D4 : Hid (Below W.heap.size W v4) := hid (D3.out.trans (g4.mono D3.out.size))
          have hS4 := HFS.out v4 D4.out
          clear g4
          go_wp2_with fail
          refine (HK.out v4 (HTW.out.on D4.out)).mono ?_
          rintro e u ⟨rfl, gu⟩
          have DU : Hid (Below W.heap.size W u) := hid (D4.out.trans (gu.mono D4.out.size))
          have HE : Hid (Below w.heap.size w u) := hid (HB0.out.trans (DU.out.mono HB0.out.size))
          have g0 := cells4 (HCW.out u DU.out)
          rw [hsz] at g0
          clear gu
          go_wp2
          exact bodyPost_ret (v := .tuple #[.agg #[.int .i64 xk, .string (str8 xs), .int .i64 xn, .int .i64 xp], .int .i64 (xm : Int), .int .i64 (xe : Int)]) (by simp [results, Tryz.results30, go_sem, g0]) rfl ⟨rfl, (((HE.out.setCell (Nat.le_succ _) _).setCell (Nat.le_succ _) _).setCell (Nat.le_succ _) _).setCell (Nat.le_succ _) _⟩

end Go.Proofs.YtokfphfgcjbpkaaGreatDoor
