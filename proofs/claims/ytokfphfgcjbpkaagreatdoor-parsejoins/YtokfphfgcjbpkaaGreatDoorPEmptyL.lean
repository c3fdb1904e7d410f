/- ParseEmpty: what stands behind a whole script is at fault. -/
import Derived.Test.YtokfphfgcjbpkaaGreatDoorPSmall
namespace Go.Proofs.YtokfphfgcjbpkaaGreatDoor
open Go.RowKit Go.Shelf
set_option linter.unusedVariables false
set_option linter.unusedSimpArgs false
set_option maxRecDepth 20000

theorem SlAt.len {α : Type} {z : Nat} {El : (Nat → Prop) → World → α → List Value → Prop} {S : Nat → Prop} {w : World} {xs : List α} {aa : Option Addr} {nn cc : Nat} (h : SlAt z El S w xs (.slice aa nn cc)) : nn = xs.length := by
  obtain ⟨a, c, e⟩ := h.form
  simp only [Value.slice.injEq] at e
  exact e.2.1

set_option maxHeartbeats 4000000 in
theorem parseEmpty_law (s t : List UInt8) (w : World) (hs : s.length ≤ 140737488351232) (hw : t.length ≤ 140737488351232) (hT : TabL w) :
    Calls Tryz.prog 7 #[.string (str8 s), .string (str8 t)] w fun e w' => e = .returned (.bool true) ∧ Below w.heap.size w w' := by
  have zs : (str8 s).size = s.length := rfl
  have HSM := hid (small9_any w hT)
  have HK1 := hid (fun V (h : TabL V) => script_any s V h hs)
  have hbad := script_bad (s := s)
  have hplain := empty_plain (s := s)
  have HT := hid hT
  clear hT
  obtain ⟨⟨X, p, q⟩, hX⟩ : ∃ x, scriptA s = x := ⟨_, rfl⟩
  rw [hX] at HK1 hbad hplain
  dsimp only at HK1 hbad hplain
  clear hX
  by_cases hp : p = 0
  · subst hp
    by_cases hl : 1980 < s.length
    · have hl' : (1980 : Int) < ((str8 s).size : Int) := by rw [zs]; omega
      clear hbad hplain
      go_enter Tryz.func7, Tryz.ntmps7
      go_wp2_with fail
      refine HSM.out.mono ?_
      rintro e w1 ⟨rfl, hb1⟩
      have HB1 := hid hb1
      clear hb1 HSM
      go_wp2_with fail
      refine (HK1.out w1 (HT.out.on HB1.out)).mono ?_
      rintro e w2 ⟨aa, nn, cc, rfl, hl2, hb2⟩
      have HB2 : Hid (∀ o, Below w.heap.size w (w2.alloc o)) := hid (fun o => (HB1.out.trans (hb2.mono HB1.out.size)).alloc (HB1.out.trans (hb2.mono HB1.out.size)).size o)
      clear hl2 hb2 HK1
      go_wp2
      go_ret
      exact ⟨rfl, HB2.out _⟩
    · have hl' : ¬ (1980 : Int) < ((str8 s).size : Int) := by rw [zs]; omega
      obtain ⟨h1, h2, h3, c, h4, h5⟩ := hplain rfl (by omega)
      have HK2 : Hid (∀ V, TabL V → Calls Tryz.prog 10 #[.string (str8 (s ++ [10, 41, 32]))] V fun e w' => ∃ (aa : Option Addr) (nn cc : Nat), e = .returned (.tuple #[.slice aa nn cc, .agg #[.int .i64 4, .int .i64 ((s.length : Int) + 1)]]) ∧ nn = 0 ∧ Below V.heap.size V w') := hid (fun V h => by
        have := script_any (s ++ [10, 41, 32]) V h (by simp; omega)
        rw [h3] at this
        refine this.mono ?_
        rintro e w' ⟨aa, nn, cc, rfl, hsl, hb⟩
        exact ⟨aa, nn, cc, rfl, hsl.len, hb⟩)
      have HK3 : Hid (∀ V, TabL V → Calls Tryz.prog 10 #[.string (str8 (s ++ [10, 59]))] V fun e w' => ∃ (aa : Option Addr) (nn cc : Nat), e = .returned (.tuple #[.slice aa nn cc, .agg #[.int .i64 c, .int .i64 ((s.length : Int) + 2)]]) ∧ nn = 0 ∧ Below V.heap.size V w') := hid (fun V h => by
        have := script_any (s ++ [10, 59]) V h (by simp; omega)
        rw [h4] at this
        refine this.mono ?_
        rintro e w' ⟨aa, nn, cc, rfl, hsl, hb⟩
        exact ⟨aa, nn, cc, rfl, hsl.len, hb⟩)
      have a1 : ∀ w, (Op.stringOp .add (str8 s) ⟨#[10, 41, 32]⟩).run Tryz.prog w = .ok (.string (str8 (s ++ [10, 41, 32]))) w := fun w => by
        rw [run_string_add_sum w _ _ (by rw [str8_size]; show s.length + 3 ≤ _; omega)]
        exact congrArg (fun x => Result.ok (Value.string x) w) (str8_add s [10, 41, 32])
      have a2 : ∀ w, (Op.stringOp .add (str8 s) ⟨#[10, 59]⟩).run Tryz.prog w = .ok (.string (str8 (s ++ [10, 59]))) w := fun w => by
        rw [run_string_add_sum w _ _ (by rw [str8_size]; show s.length + 2 ≤ _; omega)]
        exact congrArg (fun x => Result.ok (Value.string x) w) (str8_add s [10, 59])
      have hgf := Tryz.eqGuardFault
      have qf := run_eqfault 4 ((s.length : Int) + 1)
      have HC := hid h5
      have HL1 := hid h1
      have HL2 := hid h2
      clear hbad hplain h3 h4 h5 h1 h2 hl
      go_enter Tryz.func7, Tryz.ntmps7
      go_wp2_with fail
      refine HSM.out.mono ?_
      rintro e w1 ⟨rfl, hb1⟩
      have HB1 := hid hb1
      clear hb1 HSM
      go_wp2_with fail
      refine (HK1.out w1 (HT.out.on HB1.out)).mono ?_
      rintro e w2 ⟨aa, nn, cc, rfl, hl2, hb2⟩
      have hnn := hl2.len
      have hn1 : 1 ≤ nn := by rw [hnn]; exact HL1.out
      have hn8 : nn ≤ 8 := by rw [hnn]; exact HL2.out
      have HC2 : Hid (c = 4 ∨ (c = 2 ∧ nn = 8)) := hid (by rw [hnn]; exact HC.out)
      clear hnn hl2
      go_wp2_with fail
      obtain ⟨W2, hW2, hbW2, hzW2, hcW2⟩ := box2 w2 (.int .i64 0) (.int .i64 q) 26
      have hB2 := HB1.out.trans (hb2.mono HB1.out.size)
      have HB2 : Hid (Below w.heap.size w W2) := hid (hB2.trans (hbW2.mono hB2.size))
      have HF2 := hid hcW2
      rw [hW2]
      clear hW2 hbW2 hcW2 hb2 hB2 HK1
      refine (HK2.out W2 (HT.out.on HB2.out)).mono ?_
      rintro e w3 ⟨a3, n3, c3, rfl, rfl, hb3⟩
      go_wp2_with fail
      obtain ⟨W3, hW3, hbW3, hzW3, hcW3⟩ := box2 w3 (.int .i64 4) (.int .i64 ((s.length : Int) + 1)) 26
      have hB23 := hb3.trans (hbW3.mono hb3.size)
      have HB3 : Hid (Below w.heap.size w W3) := hid (HB2.out.trans (hB23.mono HB2.out.size))
      have HF3 := hid hcW3
      rw [hW3]
      clear hW3 hbW3 hcW3 hb3 HK2
      refine (HK3.out W3 (HT.out.on HB3.out)).mono ?_
      rintro e w4 ⟨a4, n4, c4, rfl, rfl, hb4⟩
      have k3 := fun o => cells2 (HF3.out (w4.alloc o) (hb4.alloc hb4.size o))
      have HB4 : Hid (∀ o, Below w.heap.size w (w4.alloc o)) := hid (fun o => HB3.out.trans ((hb4.alloc hb4.size o).mono HB3.out.size))
      clear hb4 HK3 hB23
      rcases HC2.out with hc | ⟨hc, hn⟩
      · subst hc
        clear HC2 HC
        go_wp2
        go_ret
        exact ⟨by simp, HB4.out _⟩
      · subst hc hn
        clear HC2 HC
        go_wp2
        go_ret
        exact ⟨by simp, HB4.out _⟩
  · have hX := hbad hp
    subst hX
    have hp' : (p != 0) = true := by simpa using hp
    have hp2 : (p == 0) = false := by simpa using hp
    clear hplain hbad hp
    go_enter Tryz.func7, Tryz.ntmps7
    go_wp2_with fail
    refine HSM.out.mono ?_
    rintro e w1 ⟨rfl, hb1⟩
    have HB1 := hid hb1
    clear hb1 HSM
    go_wp2_with fail
    refine (HK1.out w1 (HT.out.on HB1.out)).mono ?_
    rintro e w2 ⟨aa, nn, cc, rfl, hl2, hb2⟩
    obtain rfl : nn = 0 := hl2.len
    have HB2 : Hid (∀ o, Below w.heap.size w (w2.alloc o)) := hid (fun o => (HB1.out.trans (hb2.mono HB1.out.size)).alloc (HB1.out.trans (hb2.mono HB1.out.size)).size o)
    clear hl2 hb2 HK1
    go_wp2
    go_ret
    exact ⟨by simp, HB2.out _⟩

end Go.Proofs.YtokfphfgcjbpkaaGreatDoor
