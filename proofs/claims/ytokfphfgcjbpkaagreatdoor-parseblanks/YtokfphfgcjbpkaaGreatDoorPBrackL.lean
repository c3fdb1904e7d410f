/- ParseBrackets: an expression in brackets is read as it is without. -/
import Derived.Test.YtokfphfgcjbpkaaGreatDoorPSmall
import Derived.Test.YtokfphfgcjbpkaaGreatDoorPLawB
namespace Go.Proofs.YtokfphfgcjbpkaaGreatDoor
open Go.RowKit Go.Shelf
set_option linter.unusedVariables false
set_option linter.unusedSimpArgs false
set_option maxRecDepth 20000

theorem newer2 (w : World) (o1 o2 : Obj) : Below w.heap.size w ((w.alloc o1).alloc o2) := ((Below.refl _ w).alloc (Nat.le_refl _) o1).alloc (by simp) o2

/-- SameExpr of two copies of one expression, in every later world. -/
theorem sameX_any {S T : Nat → Prop} {W : World} {x : Ex} {u u' : Value} (h : ExV S W x u) (h' : ExV T W x u') : ∀ V, Below W.heap.size W V → Calls Tryz.prog 16 #[u, u'] V fun e w' => e = .returned (.bool true) ∧ Below V.heap.size V w' := by
  obtain ⟨k, op, tb, nm, vk, vn, vs, ys, aa, nn, cc, rfl, rfl, ha⟩ := h
  obtain ⟨k', op', tb', nm', vk', vn', vs', ys', aa', nn', cc', hx, rfl, ha'⟩ := h'
  simp only [Ex.mk.injEq, Vl.mk.injEq] at hx
  obtain ⟨rfl, rfl, rfl, rfl, ⟨rfl, rfl, rfl⟩, rfl⟩ := hx
  intro V hV
  exact sameExpr_of k op vk vn tb nm vs aa aa' nn nn' cc cc' V (fun Z hZ => sameExprs_any S T W ys _ ha Z _ (hV.trans (hZ.mono hV.size)) (ha'.to (R := fun _ => False) (Spares.of_new (hV.trans (hZ.mono hV.size))) (fun b hb _ => ⟨id, hb⟩)))

set_option maxHeartbeats 4000000 in
theorem parseBrackets_law (s : List UInt8) (w : World) (hs : s.length ≤ 140737488351232) (hT : TabL w) :
    Calls Tryz.prog 6 #[.string (str8 s)] w fun e w' => e = .returned (.bool true) ∧ Below w.heap.size w w' := by
  have zs : (str8 s).size = s.length := rfl
  have HSM := hid (small9_any w hT)
  have HK1 := hid (fun V (h : TabL V) => one_any s V h hs)
  have hplain := brackets_plain (s := s)
  have HT := hid hT
  clear hT
  obtain ⟨⟨X, p, q⟩, hX⟩ : ∃ x, oneA s = x := ⟨_, rfl⟩
  rw [hX] at HK1 hplain
  dsimp only at HK1 hplain
  clear hX
  by_cases hp : p = 0
  · subst hp
    by_cases hl : 1996 < s.length
    · have hl' : (1996 : Int) < ((str8 s).size : Int) := by rw [zs]; omega
      clear hplain
      go_enter Tryz.func6, Tryz.ntmps6
      go_wp2_with fail
      refine HSM.out.mono ?_
      rintro e w1 ⟨rfl, hb1⟩
      have HB1 := hid hb1
      clear hb1 HSM
      go_wp2_with fail
      refine (HK1.out w1 (HT.out.on HB1.out)).mono ?_
      rintro e w2 ⟨u, rfl, hu, hb2⟩
      obtain ⟨k3, op3, tb3, nm3, vk3, vn3, vs3, ys3, aa3, nn3, cc3, _, rfl, _⟩ := hu
      have hB2 := HB1.out.trans (hb2.mono HB1.out.size)
      have HB2 : Hid (∀ o1 o2, Below w.heap.size w ((w2.alloc o1).alloc o2)) := hid (fun o1 o2 => hB2.trans ((newer2 w2 o1 o2).mono hB2.size))
      clear hb2 hB2 HK1
      go_wp2
      go_ret
      exact ⟨rfl, HB2.out _ _⟩
    · have hl' : ¬ (1996 : Int) < ((str8 s).size : Int) := by rw [zs]; omega
      have hpl := hplain rfl (by omega)
      have HK2 := hid (fun V (h : TabL V) => one_any (40 :: (s ++ [10, 41])) V h (by simp; omega))
      obtain ⟨⟨X2, c, q2⟩, hX2⟩ : ∃ x, oneA (40 :: (s ++ [10, 41])) = x := ⟨_, rfl⟩
      rw [hX2] at HK2 hpl
      dsimp only at HK2 hpl
      have a1 : ∀ w, (Op.stringOp .add ⟨#[40]⟩ (str8 s)).run Tryz.prog w = .ok (.string (str8 (40 :: s))) w := fun w => by
        rw [run_string_add_sum w _ _ (by rw [str8_size]; show 1 + s.length ≤ _; omega)]
        exact congrArg (fun x => Result.ok (Value.string x) w) (str8_add [40] s)
      have a2 : ∀ w, (Op.stringOp .add (str8 (40 :: s)) ⟨#[10, 41]⟩).run Tryz.prog w = .ok (.string (str8 (40 :: (s ++ [10, 41])))) w := fun w => by
        rw [run_string_add_sum w _ _ (by rw [str8_size]; show s.length + 1 + 2 ≤ _; omega)]
        exact congrArg (fun x => Result.ok (Value.string x) w) (str8_add (40 :: s) [10, 41])
      have HPL := hid hpl
      clear hplain hX2 hl hpl
      go_enter Tryz.func6, Tryz.ntmps6
      go_wp2_with fail
      refine HSM.out.mono ?_
      rintro e w1 ⟨rfl, hb1⟩
      have HB1 := hid hb1
      clear hb1 HSM
      go_wp2_with fail
      refine (HK1.out w1 (HT.out.on HB1.out)).mono ?_
      rintro e w2 ⟨u, rfl, hu, hb2⟩
      have HU := hid hu
      obtain ⟨k3, op3, tb3, nm3, vk3, vn3, vs3, ys3, aa3, nn3, cc3, _, rfl, _⟩ := hu
      have hB2 := HB1.out.trans (hb2.mono HB1.out.size)
      go_wp2_with fail
      obtain ⟨W2, hW2, hbW2, hzW2, hcA, hcB⟩ := two w2 (.cells #[.int .i64 k3, .int .i64 op3, .string (str8 tb3), .string (str8 nm3), .int .i64 vk3, .int .i64 vn3, .string (str8 vs3), .slice aa3 nn3 cc3] 40) (.cells #[.int .i64 0, .int .i64 q] 26)
      have HB2 : Hid (Below w.heap.size w W2) := hid (hB2.trans (hbW2.mono hB2.size))
      have HU2 := hid (HU.out.to (R := fun _ => False) (T := fun _ => True) (Spares.of_new hbW2) (fun b hb _ => ⟨id, trivial⟩))
      have HCA := hid hcA
      rw [hW2]
      clear hW2 hbW2 hcA hcB hb2 hB2 HK1 HU
      refine (HK2.out W2 (HT.out.on HB2.out)).mono ?_
      rintro e w3 ⟨u', rfl, hu', hb3⟩
      have HU' := hid hu'
      have HU3 := hid (HU2.out.to (R := fun _ => False) (T := fun _ => True) (Spares.of_new hb3) (fun b hb _ => ⟨id, trivial⟩))
      obtain ⟨k4, op4, tb4, nm4, vk4, vn4, vs4, ys4, aa4, nn4, cc4, _, rfl, _⟩ := hu'
      have kA := fun o1 o2 => cells8 (((newer2 w3 o1 o2).block w2.heap.size (by have := hb3.size; omega)).trans ((hb3.block w2.heap.size (by omega)).trans HCA.out))
      have HB3 : Hid (Below w.heap.size w w3) := hid (HB2.out.trans (hb3.mono HB2.out.size))
      have HB4 : Hid (∀ o1 o2, Below w.heap.size w ((w3.alloc o1).alloc o2)) := hid (fun o1 o2 => HB3.out.trans ((newer2 w3 o1 o2).mono HB3.out.size))
      clear hb3 HK2 HU2
      rcases HPL.out with hc | ⟨hc, hx⟩
      · subst hc
        clear HPL HU' HU3
        go_wp2
        go_ret
        exact ⟨rfl, HB4.out _ _⟩
      · subst hc
        subst hx
        have HSX := hid (sameX_any HU3.out HU'.out)
        clear HPL HU' HU3
        go_wp2_with fail
        refine (HSX.out _ (newer2 w3 _ _)).mono ?_
        rintro e w5 ⟨rfl, hb5⟩
        have HB5 : Hid (Below w.heap.size w w5) := hid ((HB4.out _ _).trans (hb5.mono (HB4.out _ _).size))
        clear hb5 HSX
        go_wp2
        go_ret
        exact ⟨by simp, HB5.out⟩
  · have hp' : (p != 0) = true := by simpa using hp
    clear hplain hp
    go_enter Tryz.func6, Tryz.ntmps6
    go_wp2_with fail
    refine HSM.out.mono ?_
    rintro e w1 ⟨rfl, hb1⟩
    have HB1 := hid hb1
    clear hb1 HSM
    go_wp2_with fail
    refine (HK1.out w1 (HT.out.on HB1.out)).mono ?_
    rintro e w2 ⟨u, rfl, hu, hb2⟩
    obtain ⟨k3, op3, tb3, nm3, vk3, vn3, vs3, ys3, aa3, nn3, cc3, _, rfl, _⟩ := hu
    have hB2 := HB1.out.trans (hb2.mono HB1.out.size)
    have HB2 : Hid (∀ o1 o2, Below w.heap.size w ((w2.alloc o1).alloc o2)) := hid (fun o1 o2 => hB2.trans ((newer2 w2 o1 o2).mono hB2.size))
    clear hb2 hB2 HK1
    go_wp2
    go_ret
    exact ⟨rfl, HB2.out _ _⟩

end Go.Proofs.YtokfphfgcjbpkaaGreatDoor
