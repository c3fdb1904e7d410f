/- ParseBlanks: blanks change nothing but places. -/
import Derived.Test.YtokfphfgcjbpkaaGreatDoorPBrackL
namespace Go.Proofs.YtokfphfgcjbpkaaGreatDoor
open Go.RowKit Go.Shelf
set_option linter.unusedVariables false
set_option linter.unusedSimpArgs false
set_option maxRecDepth 20000

set_option maxHeartbeats 4000000 in
theorem parseBlanks_law (s : List UInt8) (w : World) (hs : s.length ≤ 140737488351232) (hT : TabL w) :
    Calls Tryz.prog 4 #[.string (str8 s)] w fun e w' => e = .returned (.bool true) ∧ Below w.heap.size w w' := by
  have HSM := hid (small9_any w hT)
  have HTK := hid (fun V (h : TabL V) => tokens_any s V h hs)
  have hbp : (tokens s).1 = 0 → _ := back_plain (s := s)
  have HT := hid hT
  have hXe : (tokens s).1 = 0 ∨ (tokens s).1 ≠ 0 := by omega
  clear hT
  rcases hXe with he | he
  · obtain ⟨hok, hll, hback⟩ := hbp he
    obtain ⟨l, hle⟩ : ∃ l, (tokens s).2.2 = l := ⟨_, rfl⟩
    rw [hle] at hok hll hback
    have HWR := hid (fun V (h : TabL V) v (hv : Toks V.heap.size V v l) => write_any V.heap.size v l V h (Nat.le_refl _) hv hok hll)
    obtain ⟨J, hJ⟩ : ∃ J, Lib.join (wrs l) [32] = J := ⟨_, rfl⟩
    rw [hJ] at HWR hback
    rw [he, hle] at HTK
    obtain ⟨xp, hxp⟩ : ∃ x, (tokens s).2.1 = x := ⟨_, rfl⟩
    rw [hxp] at HTK
    have hsz : (str8 J).size = J.length := rfl
    by_cases hlong : 2000 < J.length
    · have hlong' : (2000 : Int) < ((str8 J).size : Int) := by rw [hsz]; omega
      clear hback hbp hok hxp hJ hle he
      go_enter Tryz.func4, Tryz.ntmps4
      go_wp2_with fail
      refine HSM.out.mono ?_
      rintro e w1 ⟨rfl, hb1⟩
      have HB1 := hid hb1
      clear hb1 HSM
      go_wp2_with fail
      refine (HTK.out w1 (HT.out.on HB1.out)).mono ?_
      rintro e w2 ⟨v, rfl, htk, hb2⟩
      have HTK2 := hid htk
      obtain ⟨va, vc, rfl, _⟩ := id htk
      have hB2 := HB1.out.trans (hb2.mono HB1.out.size)
      go_wp2_with fail
      obtain ⟨W2, hW2, hbW2, hzW2, hcW2⟩ := box2 w2 (.int .i64 0) (.int .i64 xp) 26
      have HB2 : Hid (Below w.heap.size w W2) := hid (hB2.trans (hbW2.mono hB2.size))
      have HW2 := hid (HWR.out W2 (HT.out.on HB2.out) _ (HTK2.out.on hbW2))
      first
        | rw [hW2]
        | (have e0 : w2.alloc (.cells #[.int .i64 ((0 : Nat) : Int), .int .i64 xp] 26) = W2 := hW2; rw [e0])
      clear hW2 hbW2 hcW2 hb2 hB2 htk
      refine HW2.out.mono ?_
      rintro e w3 ⟨rfl, hb3⟩
      have HB3 : Hid (Below w.heap.size w w3) := hid (HB2.out.trans (hb3.mono HB2.out.size))
      clear hb3 HW2
      go_wp2
      go_ret
      exact ⟨rfl, HB3.out⟩
    · have hlong' : ¬ (2000 : Int) < ((str8 J).size : Int) := by rw [hsz]; omega
      obtain ⟨l', hY, hz, _⟩ := hback (by omega)
      have hsim : SimA (startR s) (startR J) := simA_start he (by rw [hY]) (by rw [hle, hY]; exact hz)
      obtain ⟨b1, b2, b3, b4⟩ := blanks_plain hsim
      have HA := hid (fun V (h : TabL V) => script_any s V h hs)
      have HBk := hid (fun V (h : TabL V) => script_any J V h (by omega))
      have HCk := hid (fun V (h : TabL V) => one_any s V h hs)
      have HDk := hid (fun V (h : TabL V) => one_any J V h (by omega))
      obtain ⟨⟨A1, Ap, Aq⟩, hA⟩ : ∃ x, scriptA s = x := ⟨_, rfl⟩
      obtain ⟨⟨B1, Bp, Bq⟩, hB⟩ : ∃ x, scriptA J = x := ⟨_, rfl⟩
      obtain ⟨⟨C1, Cp, Cq⟩, hC⟩ : ∃ x, oneA s = x := ⟨_, rfl⟩
      obtain ⟨⟨D1, Dp, Dq⟩, hD⟩ : ∃ x, oneA J = x := ⟨_, rfl⟩
      rw [hA, hB] at b1 b2
      rw [hC, hD] at b3 b4
      rw [hA] at HA
      rw [hB] at HBk
      rw [hC] at HCk
      rw [hD] at HDk
      dsimp only at b1 b2 b3 b4 HA HBk HCk HDk
      subst b1 b2 b3 b4
      have ep : (Ap == Ap) = true := by simp
      have ec : (Cp == Cp) = true := by simp
      clear hback hbp hok hxp hJ hle he hlong hsim hA hB hC hD hY hz
      go_enter Tryz.func4, Tryz.ntmps4
      go_wp2_with fail
      refine HSM.out.mono ?_
      rintro e w1 ⟨rfl, hb1⟩
      have HB1 := hid hb1
      clear hb1 HSM
      go_wp2_with fail
      refine (HTK.out w1 (HT.out.on HB1.out)).mono ?_
      rintro e w2 ⟨v, rfl, htk, hb2⟩
      have HTK2 := hid htk
      obtain ⟨va, vc, rfl, _⟩ := id htk
      have hB2 := HB1.out.trans (hb2.mono HB1.out.size)
      go_wp2_with fail
      obtain ⟨W2, hW2, hbW2, hzW2, hcW2⟩ := box2 w2 (.int .i64 0) (.int .i64 xp) 26
      have HB2 : Hid (Below w.heap.size w W2) := hid (hB2.trans (hbW2.mono hB2.size))
      have HW2 := hid (HWR.out W2 (HT.out.on HB2.out) _ (HTK2.out.on hbW2))
      first
        | rw [hW2]
        | (have e0 : w2.alloc (.cells #[.int .i64 ((0 : Nat) : Int), .int .i64 xp] 26) = W2 := hW2; rw [e0])
      clear hW2 hbW2 hcW2 hb2 hB2 htk
      refine HW2.out.mono ?_
      rintro e w3 ⟨rfl, hb3⟩
      have HB3 : Hid (Below w.heap.size w w3) := hid (HB2.out.trans (hb3.mono HB2.out.size))
      clear hb3 HW2 HTK2
      go_wp2_with fail
      refine (HA.out w3 (HT.out.on HB3.out)).mono ?_
      rintro e w4 ⟨a4, n4, c4, rfl, hl4, hb4⟩
      go_wp2_with fail
      obtain ⟨W4, hW4, hbW4, hzW4, hcW4⟩ := box2 w4 (.int .i64 Ap) (.int .i64 Aq) 26
      have hB34 := hb4.trans (hbW4.mono hb4.size)
      have HB4 : Hid (Below w.heap.size w W4) := hid (HB3.out.trans (hB34.mono HB3.out.size))
      have HL4 := hid (hl4.to (by decide) (R := fun _ => False) (T := fun _ => True) (Spares.of_new hbW4) (fun b hb _ => ⟨id, trivial⟩) (fun _ _ e => e.to (R := fun _ => False) (Spares.of_new hbW4) (fun b hb _ => ⟨id, trivial⟩)))
      have HF4 := hid hcW4
      rw [hW4]
      clear hW4 hbW4 hcW4 hb4 hl4 hB34 HA
      refine (HBk.out W4 (HT.out.on HB4.out)).mono ?_
      rintro e w5 ⟨a5, n5, c5, rfl, hl5, hb5⟩
      go_wp2_with fail
      obtain ⟨W5, hW5, hbW5, hzW5, hcW5⟩ := box2 w5 (.int .i64 Ap) (.int .i64 Bq) 26
      have hB45 := hb5.trans (hbW5.mono hb5.size)
      have HB5 : Hid (Below w.heap.size w W5) := hid (HB4.out.trans (hB45.mono HB4.out.size))
      have HB45 := hid hB45
      have HL5 := hid (hl5.to (by decide) (R := fun _ => False) (T := fun _ => True) (Spares.of_new hbW5) (fun b hb _ => ⟨id, trivial⟩) (fun _ _ e => e.to (R := fun _ => False) (Spares.of_new hbW5) (fun b hb _ => ⟨id, trivial⟩)))
      have HF5 := hid hcW5
      rw [hW5]
      clear hW5 hbW5 hcW5 hb5 hl5 hB45 HBk
      refine (HCk.out W5 (HT.out.on HB5.out)).mono ?_
      rintro e w6 ⟨u6, rfl, hu6, hb6⟩
      have HU6 := hid hu6
      obtain ⟨k3, op3, tb3, nm3, vk3, vn3, vs3, ys3, aa3, nn3, cc3, _, rfl, _⟩ := hu6
      go_wp2_with fail
      obtain ⟨W6, hW6, hbW6, hzW6, hcA6, hcB6⟩ := two w6 (.cells #[.int .i64 k3, .int .i64 op3, .string (str8 tb3), .string (str8 nm3), .int .i64 vk3, .int .i64 vn3, .string (str8 vs3), .slice aa3 nn3 cc3] 40) (.cells #[.int .i64 Cp, .int .i64 Cq] 26)
      have hB56 := hb6.trans (hbW6.mono hb6.size)
      have HB6 : Hid (Below w.heap.size w W6) := hid (HB5.out.trans (hB56.mono HB5.out.size))
      have HB56 := hid hB56
      have HX6 := hid (HU6.out.to (R := fun _ => False) (T := fun _ => True) (Spares.of_new hbW6) (fun b hb _ => ⟨id, trivial⟩))
      have HA6 := hid hcA6
      have HC6 := hid hcB6
      rw [hW6]
      clear hW6 hbW6 hcA6 hcB6 hb6 hB56 HCk HU6
      refine (HDk.out W6 (HT.out.on HB6.out)).mono ?_
      rintro e w7 ⟨u7, rfl, hu7, hb7⟩
      have HU7 := hid hu7
      obtain ⟨k4, op4, tb4, nm4, vk4, vn4, vs4, ys4, aa4, nn4, cc4, _, rfl, _⟩ := hu7
      go_wp2_with fail
      obtain ⟨W7, hW7, hbW7, hzW7, hcA7, hcB7⟩ := two w7 (.cells #[.int .i64 k4, .int .i64 op4, .string (str8 tb4), .string (str8 nm4), .int .i64 vk4, .int .i64 vn4, .string (str8 vs4), .slice aa4 nn4 cc4] 40) (.cells #[.int .i64 Cp, .int .i64 Dq] 26)
      have hB67 := hb7.trans (hbW7.mono hb7.size)
      have HB7 : Hid (Below w.heap.size w W7) := hid (HB6.out.trans (hB67.mono HB6.out.size))
      have h57 := HB56.out.trans (hB67.mono HB56.out.size)
      have h47 := HB45.out.trans (h57.mono HB45.out.size)
      have HS4 := HL4.out.to (by decide) (R := fun _ => False) (T := fun _ => True) (Spares.of_new h47) (fun b hb _ => ⟨id, trivial⟩) (fun _ _ e => e.to (R := fun _ => False) (Spares.of_new h47) (fun b hb _ => ⟨id, trivial⟩))
      have HS5 := HL5.out.to (by decide) (R := fun _ => False) (T := fun _ => True) (Spares.of_new h57) (fun b hb _ => ⟨id, trivial⟩) (fun _ _ e => e.to (R := fun _ => False) (Spares.of_new h57) (fun b hb _ => ⟨id, trivial⟩))
      have HSA := hid (sameAll_any _ _ _ _ _ W7 HS4 HS5)
      have HX7 := HX6.out.to (R := fun _ => False) (T := fun _ => True) (Spares.of_new hB67) (fun b hb _ => ⟨id, trivial⟩)
      have HY7 := HU7.out.to (R := fun _ => False) (T := fun _ => True) (Spares.of_new hbW7) (fun b hb _ => ⟨id, trivial⟩)
      have HSX := hid (sameX_any HX7 HY7)
      have H47 := hid h47
      have H57 := hid h57
      have H67 := hid hB67
      have HA7 := hid hcA7
      have HC7 := hid hcB7
      rw [hW7]
      clear hW7 hbW7 hcA7 hcB7 hb7 hB67 h57 h47 HDk HU7 HS4 HS5 HX7 HY7
      refine HSA.out.mono ?_
      rintro e w8 ⟨rfl, hb8⟩
      have f4 := cells2 (HF4.out w8 (H47.out.trans (hb8.mono H47.out.size)))
      have f5 := cells2 (HF5.out w8 (H57.out.trans (hb8.mono H57.out.size)))
      have z7 := H67.out.size
      have g6 := cells8 ((hb8.block w6.heap.size (by omega)).trans ((H67.out.block w6.heap.size (by omega)).trans HA6.out))
      have g7 := cells8 ((hb8.block w7.heap.size (by omega)).trans HA7.out)
      have HB8 : Hid (Below w.heap.size w w8) := hid (HB7.out.trans (hb8.mono HB7.out.size))
      have HSX8 := hid (HSX.out w8 hb8)
      have H8 := hid hb8
      clear hb8 HSA
      go_wp2_with fail
      refine HSX8.out.mono ?_
      rintro e w9 ⟨rfl, hb9⟩
      have h79 := H8.out.trans (hb9.mono H8.out.size)
      have d6 := cells2 ((h79.block (w6.heap.size + 1) (by omega)).trans ((H67.out.block (w6.heap.size + 1) (by omega)).trans HC6.out))
      have d7 := cells2 ((h79.block (w7.heap.size + 1) (by omega)).trans HC7.out)
      have HB9 : Hid (Below w.heap.size w w9) := hid (HB8.out.trans (hb9.mono HB8.out.size))
      clear hb9 h79 HSX8 f4 f5 g6 g7
      go_wp2
      go_ret
      exact ⟨by simp, HB9.out⟩
  · obtain ⟨X, xp, l⟩ : ∃ X, tokens s = X := ⟨_, rfl⟩
    have hne : (((tokens s).1 : Int) != 0) = true := by rw [bne_iff_ne]; omega
    generalize ((tokens s).1 : Int) = E at HTK hne
    generalize (tokens s).2.1 = p at HTK
    generalize (tokens s).2.2 = ts at HTK
    clear hbp he
    go_enter Tryz.func4, Tryz.ntmps4
    go_wp2_with fail
    refine HSM.out.mono ?_
    rintro e w1 ⟨rfl, hb1⟩
    have HB1 := hid hb1
    clear hb1 HSM
    go_wp2_with fail
    refine (HTK.out w1 (HT.out.on HB1.out)).mono ?_
    rintro e w2 ⟨v, rfl, htk, hb2⟩
    obtain ⟨va, vc, rfl, _⟩ := id htk
    have hB2 := HB1.out.trans (hb2.mono HB1.out.size)
    have HB2 : Hid (∀ o, Below w.heap.size w (w2.alloc o)) := hid (fun o => hB2.alloc hB2.size o)
    clear hb2 hB2 htk
    go_wp2
    go_ret
    exact ⟨rfl, HB2.out _⟩

end Go.Proofs.YtokfphfgcjbpkaaGreatDoor
