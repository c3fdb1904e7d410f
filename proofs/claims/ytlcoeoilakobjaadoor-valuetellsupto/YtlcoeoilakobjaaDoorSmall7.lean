/- Contract of the law's small case. -/
import Derived.Test.YtlcoeoilakobjaaDoorVRow
import Derived.Test.YtlcoeoilakobjaaDoorVLit
namespace Go.Proofs.YtlcoeoilakobjaaDoor
open Go.RowKit
set_option linter.unusedVariables false
set_option linter.unusedSimpArgs false
set_option maxRecDepth 20000

theorem lawTextB (s : ByteArray) (w : World) : Calls Tryd.prog 28 #[.string s] w fun e w' => e = .returned (.agg #[.int .i64 2, .int .i64 0, .string s]) ∧ Below w.heap.size w w' := by
  have := lawText_any s.data.toList w
  rwa [str8_of] at this

theorem vals_six (w : World) (x y : Vl) (W : World) (hW : w.alloc (.cells #[.int .i64 x.k, .int .i64 x.n, .string (str8 x.s), .int .i64 y.k, .int .i64 y.n, .string (str8 y.s)] 23) = W) : Vals W.heap.size W (.slice (some ⟨w.heap.size, 0, none⟩) 2 2) [x, y] := by
  have hn := heap_alloc_new w (.cells #[.int .i64 x.k, .int .i64 x.n, .string (str8 x.s), .int .i64 y.k, .int .i64 y.n, .string (str8 y.s)] 23)
  rw [hW] at hn
  refine ⟨_, 2, rfl, Nat.le_refl _, by decide, (fun e => by cases e), fun _ => ⟨w.heap.size, 0, rfl, by rw [← hW]; simp, fun j z hz => ?_⟩⟩
  match j, hz with
  | 0, hz => simp at hz; subst hz; exact ⟨by rw [cell_row _ _ _ _ _ _ hn]; rfl, by rw [cell_row _ _ _ _ _ _ hn]; rfl, by rw [cell_row _ _ _ _ _ _ hn]; rfl⟩
  | 1, hz => simp at hz; subst hz; exact ⟨by rw [cell_row _ _ _ _ _ _ hn]; rfl, by rw [cell_row _ _ _ _ _ _ hn]; rfl, by rw [cell_row _ _ _ _ _ _ hn]; rfl⟩

theorem small_row : rowV [zV, ⟨2, 0, [97]⟩] = (0, [0, 2, 97, 0, 0]) := rfl
theorem small_take : trV 8 [0, 2, 97, 0, 0] = (0, [zV, ⟨2, 0, [97]⟩]) := rfl

theorem cmp_small (W : World) : Calls Tryd.prog 12 #[.agg #[.int .i64 1, .int .i64 (-5), .string (str8 [])], .agg #[.int .i64 2, .int .i64 0, .string ⟨#[]⟩]] W fun e w' => e = .returned (.int .i64 (-1)) ∧ Below W.heap.size W w' :=
  compare_any 1 (-5) 2 0 [] [] W

theorem lit_small (W : World) (hT : TabV W) : Calls Tryd.prog 14 #[.agg #[.int .i64 2, .int .i64 0, .string ⟨#[105, 116, 39, 115]⟩]] W fun e w' => e = .returned (.string ⟨#[39, 105, 116, 39, 39, 115, 39]⟩) ∧ Below W.heap.size W w' :=
  literal_any 2 0 [105, 116, 39, 115] W hT (by decide) (by decide) (by decide)

set_option maxHeartbeats 1000000 in
theorem small7_any (w : World) (hT : TabV w) : Calls Tryd.prog 9 #[] w fun e w' => e = .returned (.bool true) ∧ Below w.heap.size w w' := by
  have HT := hid hT
  have hlt := hT.lt
  clear hT
  have hg := Tryd.eqGuardVal
  have heq : ∀ w, (binOp .eql 23 (.agg #[.int .i64 2, .int .i64 0, .string ⟨#[97]⟩]) (.agg #[.int .i64 2, .int .i64 0, .string ⟨#[97]⟩])).run Tryd.prog w = .ok (.bool true) w := fun w => run_eqv ⟨2, 0, [97]⟩ ⟨2, 0, [97]⟩ w
  go_enter Tryd.func9, Tryd.ntmps9
  go_wp2_with fail
  refine (lawTextB _ _).mono ?_
  rintro e w1 ⟨rfl, hb1⟩
  go_wp2_with fail
  obtain ⟨W, hW⟩ : ∃ W, w1.alloc (.cells #[.int .i64 0, .int .i64 0, .string ⟨#[]⟩, .int .i64 2, .int .i64 0, .string ⟨#[97]⟩] 23) = W := ⟨_, rfl⟩
  have hbW : Below w.heap.size w W := by rw [← hW]; exact hb1.alloc hb1.size _
  have hvals := vals_six w1 zV ⟨2, 0, [97]⟩ W hW
  rw [hW]
  clear hW
  refine (vrow_any W.heap.size _ [zV, ⟨2, 0, [97]⟩] W (Nat.le_refl _) hvals (by intro x hx; simp at hx; rcases hx with rfl | rfl <;> decide)).mono ?_
  rw [small_row]
  rintro e w2 ⟨v2, rfl, hown2, hb2⟩
  have hbel2 := hbW.trans (hb2.mono hbW.size)
  clear hb2 hbW hvals hb1
  go_wp2_with fail
  have hs2 := (shows_of_owns hown2).2
  refine (vtakeRow_any w2.heap.size v2 _ w2 (Nat.le_refl _) hs2 (by decide)).mono ?_
  rw [small_take]
  rintro e w3 ⟨v3, rfl, hown3, hb3⟩
  have hbel3 := hbel2.trans (hb3.mono hbel2.size)
  have hs3 := hs2.below hb3
  have hv3 := (vals_of_owns hown3).2
  obtain ⟨a3, c3, rfl, hc1, hc2, _, h3⟩ := id hv3
  obtain ⟨b3, off3, rfl, hb3B, hcell3⟩ := h3 (by simp)
  have FS : ∀ W, Below w3.heap.size w3 W → W.cell? ⟨b3, off3 + 3, none⟩ = some (.int .i64 2) ∧ W.cell? ⟨b3, off3 + 4, none⟩ = some (.int .i64 0) ∧ W.cell? ⟨b3, off3 + 5, none⟩ = some (.string ⟨#[97]⟩) ∧ (convert 30 9 v2).run Tryd.prog W = .ok (.string ⟨#[0, 2, 97, 0, 0]⟩) W := fun W hW => by
    obtain ⟨k0, k1, k2⟩ := hcell3 1 ⟨2, 0, [97]⟩ rfl
    exact ⟨(hW.cell (p := ⟨b3, off3 + 3, none⟩) hb3B).trans k0, (hW.cell (p := ⟨b3, off3 + 4, none⟩) hb3B).trans k1, (hW.cell (p := ⟨b3, off3 + 5, none⟩) hb3B).trans k2,
      run_string_shows (P := Tryd.prog) 30 5 9 Tryd.underlying30 Tryd.underlying5 Tryd.underlying9 ((hs3.mono hb3.size).below hW)⟩
  have hS3 := FS w3.drew (below_drewN (Below.refl _ _) 1)
  have HFS := hid FS
  have HB := hid hbel3
  have HD3 : Hid (Below w3.heap.size w3 w3.drew) := hid (below_drewN (Below.refl _ _) 1)
  clear FS hown2 hown3 hs2 hs3 hb3 hbel3 hbel2 hv3 h3 hcell3
  go_wp2_with fail
  go_region_held3 (fun w' => w'.cell? ⟨b3, off3 + 3, none⟩ = some (.int .i64 2) ∧ w'.cell? ⟨b3, off3 + 4, none⟩ = some (.int .i64 0) ∧ w'.cell? ⟨b3, off3 + 5, none⟩ = some (.string ⟨#[97]⟩) ∧ (convert 30 9 v2).run Tryd.prog w' = .ok (.string ⟨#[0, 2, 97, 0, 0]⟩) w')
    (first | assumption)
    (first
      | (go_at_call 28; first
          | (refine (lawTextB ⟨#[97]⟩ _).mono ?_; rintro e w4 ⟨rfl, hb4⟩
             have HD4 : Hid (Below w3.heap.size w3 w4) := hid (HD3.out.trans (hb4.mono HD3.out.size))
             have hS4 := HFS.out _ HD4.out
             clear hb4)
          | (refine (lawTextB ⟨#[]⟩ _).mono ?_; rintro e w6 ⟨rfl, hb6⟩
             have HD6 : Hid (Below w3.heap.size w3 w6) := hid (HD5.out.trans (hb6.mono HD5.out.size))
             have hS6 := HFS.out _ HD6.out
             clear hb6)
          | (refine (lawTextB ⟨#[105, 116, 39, 115]⟩ _).mono ?_; rintro e w8 ⟨rfl, hb8⟩
             have HD8 : Hid (Below w3.heap.size w3 w8) := hid (HD7.out.trans (hb8.mono HD7.out.size))
             have hS8 := HFS.out _ HD8.out
             clear hb8))
      | (go_at_call 29; refine (lawNum_any _ _).mono ?_; rintro e w5 ⟨rfl, hb5⟩
         have HD5 : Hid (Below w3.heap.size w3 w5) := hid (HD4.out.trans (hb5.mono HD4.out.size))
         have hS5 := HFS.out _ HD5.out
         clear hb5)
      | (go_at_call 12; refine (cmp_small _).mono ?_; rintro e w7 ⟨rfl, hb7⟩
         have HD7 : Hid (Below w3.heap.size w3 w7) := hid (HD6.out.trans (hb7.mono HD6.out.size))
         have hS7 := HFS.out _ HD7.out
         clear hb7)
      | (go_at_call 14; refine (lit_small _ ((HT.out.below HB.out hlt).below HD8.out (by have := HB.out.size; omega))).mono ?_; rintro e w9 ⟨rfl, hb9⟩
         have HD9 : Hid (Below w3.heap.size w3 w9) := hid (HD8.out.trans (hb9.mono HD8.out.size))
         have hS9 := HFS.out _ HD9.out
         clear hb9))
  go_wp2
  go_ret
  exact ⟨rfl, HB.out.trans (HD9.out.mono HB.out.size)⟩
end Go.Proofs.YtlcoeoilakobjaaDoor
