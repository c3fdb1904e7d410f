/- Contract of literal. -/
import Derived.Test.YtokfphfgcjbpkaaGreatDoorPCol
namespace Go.Proofs.YtokfphfgcjbpkaaGreatDoor
open Go.RowKit Go.Shelf
set_option linter.unusedVariables false
set_option linter.unusedSimpArgs false
set_option maxRecDepth 20000

theorem set3 {w : World} {b : Nat} {a0 a1 a2 : Value} {t : TypeId} (h : w.heap[b]? = some (.cells #[a0, a1, a2] t)) (v0 v1 v2 : Value) :
    ((w.setCell ⟨b, 0, none⟩ v0).setCell ⟨b, 1, none⟩ v1).setCell ⟨b, 2, none⟩ v2 = w.setRow b #[v0, v1, v2] := by
  have q : ∀ cs, (w.setRow b cs).heap[b]? = some (.cells cs t) := fun cs => setRow_heap w b _ cs t _ h
  rw [setCell_eq_setRow w b 0 _ t _ v0 h, setCell_eq_setRow _ b 1 _ t _ v1 (q _), setRow_setRow, setCell_eq_setRow _ b 2 _ t _ v2 (q _), setRow_setRow]
  simp only [List.setIfInBounds_toArray, List.set_cons_zero, List.set_cons_succ]

theorem cells3f {w : World} {g : Nat} {a b c : Value} {t : TypeId} (h : w.heap[g]? = some (.cells #[a, b, c] t)) :
    w.cell? ⟨g, 0, none⟩ = some a ∧ w.cell? ⟨g, 1, none⟩ = some b ∧ w.cell? ⟨g, 2, none⟩ = some c ∧ ∀ i, w.frozen? ⟨g, i, none⟩ = false :=
  ⟨by rw [cell_row _ _ _ _ _ _ h]; rfl, by rw [cell_row _ _ _ _ _ _ h]; rfl, by rw [cell_row _ _ _ _ _ _ h]; rfl, fun i => by simp [World.frozen?, h]⟩

theorem num_bound {F : Nat} {r : Rd} (h : Good F r) : 0 ≤ (numP r).1 ∧ (numP r).1 ≤ 9223372036854775807 := by
  unfold numP
  split
  · rename_i hk
    have hb := now_good hk (by decide)
    have hm : nowR r ∈ r.ts := by
      unfold nowR at hk ⊢
      rw [if_pos hb] at hk ⊢
      cases hr : r.ts with
      | nil => rw [hr] at hk; exact absurd hk (by decide)
      | cons a l => simp
    exact h.nums _ hm
  · simp

set_option maxHeartbeats 2000000 in
theorem lit_any (F g : Nat) (r : Rd) (w : World) (h : RdAt F w g r) :
    Calls Tryz.prog 127 #[.pointer (some ⟨g, 0, none⟩)] w fun e w' => e = .returned (.agg #[.int .i64 (litP r).1.k, .int .i64 (litP r).1.n, .string (str8 (litP r).1.s)]) ∧ RdAt F w' g (litP r).2 ∧ Fr g w w' := by
  have hgw := h.lt
  have hG := h.good
  obtain ⟨W, hW, hbW, hzW, hcW⟩ := box8 w (.cells #[.int .i64 0, .int .i64 0, .string ⟨#[]⟩] 37)
  have HCW := hid hcW
  have HH := hid (h.below hbW)
  have HF := hid (Spares.of_new (S := fun k => k = g) hbW)
  have HN := hid (now_any F g r W HH.out)
  obtain ⟨Y, hYe⟩ : ∃ Y, litP r = Y := ⟨_, rfl⟩
  have hlit : litP r = if isR [78, 85, 76, 76] r = true then (zV, nextR r) else if (nowR r).k = 4 then (⟨2, 0, (nowR r).s⟩, nextR r) else if isR [45] r = true then (⟨1, -(numP (nextR r)).1, []⟩, (numP (nextR r)).2) else (⟨1, (numP r).1, []⟩, (numP r).2) := by
    unfold litP ifP bindP textP retP
    by_cases h1 : isR [78, 85, 76, 76] r = true
    · rw [if_pos h1, if_pos h1]
    · rw [if_neg h1, if_neg h1]
      by_cases h2 : (nowR r).k = 4
      · rw [if_pos h2, if_pos h2]
      · rw [if_neg h2, if_neg h2]
  rw [hYe] at hlit ⊢
  clear hYe
  by_cases h1 : isR [78, 85, 76, 76] r = true
  · rw [if_pos h1] at hlit
    subst hlit
    have HSK : Hid (∀ V, RdAt F V g r → Calls Tryz.prog 56 #[.pointer (some ⟨g, 0, none⟩), .string ⟨#[78, 85, 76, 76]⟩] V fun e w' => e = .returned (.bool true) ∧ RdAt F w' g (nextR r) ∧ Fr g V w') := hid (fun V hV => skip_yes F g r V hV [78, 85, 76, 76] h1)
    generalize nowR r = x at HN
    obtain ⟨xk, xs, xn, xp⟩ := x
    dsimp only at HN
    clear h hcW hbW h1 hG
    go_enter Tryz.func127, Tryz.ntmps127
    go_wp2_with fail
    try rw [hW]
    clear hW
    refine HN.out.mono ?_
    rintro e w1 ⟨rfl, hb1⟩
    obtain ⟨V, hV, hbV, hzV, hcV⟩ := box8 w1 (.cells #[.int .i64 xk, .string (str8 xs), .int .i64 xn, .int .i64 xp] 71)
    have hz1 := hb1.size
    have HRV := hid ((HH.out.below hb1).below hbV)
    have HFV := hid ((HF.out.thenNew hb1).thenNew hbV)
    have HBV := hid ((hbV.block _ (by omega)).trans ((hb1.block _ hzW).trans HCW.out))
    have HTV := hid hcV
    have HS := hid (HSK.out V HRV.out)
    clear hb1 hbV hcV HN HSK
    go_wp2_with fail
    try rw [hV]
    clear hV
    refine HS.out.mono ?_
    rintro e w2 ⟨rfl, hr2, hf2⟩
    have hz2 := hf2.size
    have HB2 := hid ((hf2.block w.heap.size (by omega) (by omega)).trans HBV.out)
    have ht2 := (hf2.block w1.heap.size hzV (by omega)).trans HTV.out
    have HR2 := hid hr2
    have HF2 := hid (HFV.out.then hf2)
    clear hr2 hf2 HS
    clear ht2
    have kb := cells3f HB2.out
    go_wp2
    rw [set3 HB2.out]
    obtain ⟨Z, hZ, hZB, hZs, hZR, hZF⟩ := put_box (w := w) #[.int .i64 0, .int .i64 0, .string ⟨#[]⟩] HB2.out (Nat.le_refl _) hgw HR2.out HF2.out
    rw [hZ]
    have kc := cells3f hZB
    exact bodyPost_ret (v := .agg #[.int .i64 0, .int .i64 0, .string ⟨#[]⟩]) (by simp [results, Tryz.results127, go_sem, kc]) rfl ⟨rfl, hZR, hZF⟩
  · rw [if_neg h1] at hlit
    have HSK : Hid (∀ V, RdAt F V g r → Calls Tryz.prog 56 #[.pointer (some ⟨g, 0, none⟩), .string ⟨#[78, 85, 76, 76]⟩] V fun e w' => e = .returned (.bool false) ∧ RdAt F w' g r ∧ Fr g V w') := hid (fun V hV => skip_no F g r V hV [78, 85, 76, 76] (by simpa using h1))
    by_cases h2 : (nowR r).k = 4
    · rw [if_pos h2] at hlit
      subst hlit
      have HX := hid (fun V (hV : RdAt F V g r) => next_any F g r V hV (now_good h2 (by decide)) (by rw [h2]; decide))
      generalize nowR r = x at HN h2 ⊢
      obtain ⟨xk, xs, xn, xp⟩ := x
      dsimp only at HN h2 ⊢
      subst h2
      clear h hcW hbW h1 hG
      go_enter Tryz.func127, Tryz.ntmps127
      go_wp2_with fail
      try rw [hW]
      clear hW
      refine HN.out.mono ?_
      rintro e w1 ⟨rfl, hb1⟩
      obtain ⟨V, hV, hbV, hzV, hcV⟩ := box8 w1 (.cells #[.int .i64 4, .string (str8 xs), .int .i64 xn, .int .i64 xp] 71)
      have hz1 := hb1.size
      have HRV := hid ((HH.out.below hb1).below hbV)
      have HFV := hid ((HF.out.thenNew hb1).thenNew hbV)
      have HBV := hid ((hbV.block _ (by omega)).trans ((hb1.block _ hzW).trans HCW.out))
      have HTV := hid hcV
      have HS := hid (HSK.out V HRV.out)
      clear hb1 hbV hcV HN HSK
      go_wp2_with fail
      try rw [hV]
      clear hV
      refine HS.out.mono ?_
      rintro e w2 ⟨rfl, hr2, hf2⟩
      have hz2 := hf2.size
      have HB2 := hid ((hf2.block w.heap.size (by omega) (by omega)).trans HBV.out)
      have ht2 := (hf2.block w1.heap.size hzV (by omega)).trans HTV.out
      have HR2 := hid hr2
      have HF2 := hid (HFV.out.then hf2)
      clear hr2 hf2 HS
      have kt := cells4 ht2
      have HT2 := hid ht2
      clear ht2
      go_wp2_with fail
      refine (HX.out w2 HR2.out).mono ?_
      rintro e w3 ⟨rfl, hr3, hf3⟩
      have HB3 := hid ((hf3.block w.heap.size (by omega) (by omega)).trans HB2.out)
      have HR3 := hid hr3
      have HF3 := hid (HF2.out.then hf3)
      have kt3 := cells4 ((hf3.block w1.heap.size (by omega) (by omega)).trans HT2.out)
      have kb := cells3f HB3.out
      clear hr3 hf3 kt
      go_wp2
      rw [set3 HB3.out]
      obtain ⟨Z, hZ, hZB, hZs, hZR, hZF⟩ := put_box (w := w) #[.int .i64 2, .int .i64 0, .string (str8 xs)] HB3.out (Nat.le_refl _) hgw HR3.out HF3.out
      rw [hZ]
      have kc := cells3f hZB
      exact bodyPost_ret (v := .agg #[.int .i64 2, .int .i64 0, .string (str8 xs)]) (by simp [results, Tryz.results127, go_sem, kc]) rfl ⟨rfl, hZR, hZF⟩
    · rw [if_neg h2] at hlit
      have h2' : ((nowR r).k == 4) = false := by simpa using h2
      by_cases h3 : isR [45] r = true
      · rw [if_pos h3] at hlit
        subst hlit
        have HSM : Hid (∀ V, RdAt F V g r → Calls Tryz.prog 56 #[.pointer (some ⟨g, 0, none⟩), .string ⟨#[45]⟩] V fun e w' => e = .returned (.bool true) ∧ RdAt F w' g (nextR r) ∧ Fr g V w') := hid (fun V hV => skip_yes F g r V hV [45] h3)
        have HX := hid (fun V (hV : RdAt F V g (nextR r)) => number_any F g (nextR r) V hV)
        have hbd := num_bound (hG.next (is_ok h3) (kind6 h3))
        generalize (numP (nextR r)).1 = m at HX hbd ⊢
        generalize (numP (nextR r)).2 = r3 at HX ⊢
        have hneg : IntKind.i64.wrap (-m) = -m := by rw [IntKind.wrap_i64]; omega
        generalize nowR r = x at HN h2' 
        obtain ⟨xk, xs, xn, xp⟩ := x
        dsimp only at HN h2'
        clear h hcW hbW h1 h2 h3 hG
        go_enter Tryz.func127, Tryz.ntmps127
        go_wp2_with fail
        try rw [hW]
        clear hW
        refine HN.out.mono ?_
        rintro e w1 ⟨rfl, hb1⟩
        obtain ⟨V, hV, hbV, hzV, hcV⟩ := box8 w1 (.cells #[.int .i64 xk, .string (str8 xs), .int .i64 xn, .int .i64 xp] 71)
        have hz1 := hb1.size
        have HRV := hid ((HH.out.below hb1).below hbV)
        have HFV := hid ((HF.out.thenNew hb1).thenNew hbV)
        have HBV := hid ((hbV.block _ (by omega)).trans ((hb1.block _ hzW).trans HCW.out))
        have HTV := hid hcV
        have HS := hid (HSK.out V HRV.out)
        clear hb1 hbV hcV HN HSK
        go_wp2_with fail
        try rw [hV]
        clear hV
        refine HS.out.mono ?_
        rintro e w2 ⟨rfl, hr2, hf2⟩
        have hz2 := hf2.size
        have HB2 := hid ((hf2.block w.heap.size (by omega) (by omega)).trans HBV.out)
        have ht2 := (hf2.block w1.heap.size hzV (by omega)).trans HTV.out
        have HR2 := hid hr2
        have HF2 := hid (HFV.out.then hf2)
        clear hr2 hf2 HS
        have kt := cells4 ht2
        clear ht2
        go_wp2_with fail
        refine (HSM.out w2 HR2.out).mono ?_
        rintro e w3 ⟨rfl, hr3, hf3⟩
        have hz3 := hf3.size
        have HB3 := hid ((hf3.block w.heap.size (by omega) (by omega)).trans HB2.out)
        have HR3 := hid hr3
        have HF3 := hid (HF2.out.then hf3)
        clear hr3 hf3 kt
        go_wp2_with fail
        refine (HX.out w3 HR3.out).mono ?_
        rintro e w4 ⟨rfl, hr4, hf4⟩
        have HB4 := hid ((hf4.block w.heap.size (by omega) (by omega)).trans HB3.out)
        have HR4 := hid hr4
        have HF4 := hid (HF3.out.then hf4)
        have kb := cells3f HB4.out
        clear hr4 hf4
        go_wp2
        rw [set3 HB4.out]
        obtain ⟨Z, hZ, hZB, hZs, hZR, hZF⟩ := put_box (w := w) #[.int .i64 1, .int .i64 (-m), .string ⟨#[]⟩] HB4.out (Nat.le_refl _) hgw HR4.out HF4.out
        rw [hZ]
        have kc := cells3f hZB
        exact bodyPost_ret (v := .agg #[.int .i64 1, .int .i64 (-m), .string ⟨#[]⟩]) (by simp [results, Tryz.results127, go_sem, kc]) rfl ⟨rfl, hZR, hZF⟩
      · rw [if_neg h3] at hlit
        subst hlit
        have HSM : Hid (∀ V, RdAt F V g r → Calls Tryz.prog 56 #[.pointer (some ⟨g, 0, none⟩), .string ⟨#[45]⟩] V fun e w' => e = .returned (.bool false) ∧ RdAt F w' g r ∧ Fr g V w') := hid (fun V hV => skip_no F g r V hV [45] (by simpa using h3))
        have HX := hid (fun V (hV : RdAt F V g r) => number_any F g r V hV)
        generalize (numP r).1 = m at HX ⊢
        generalize (numP r).2 = r3 at HX ⊢
        generalize nowR r = x at HN h2' 
        obtain ⟨xk, xs, xn, xp⟩ := x
        dsimp only at HN h2'
        clear h hcW hbW h1 h2 h3 hG
        go_enter Tryz.func127, Tryz.ntmps127
        go_wp2_with fail
        try rw [hW]
        clear hW
        refine HN.out.mono ?_
        rintro e w1 ⟨rfl, hb1⟩
        obtain ⟨V, hV, hbV, hzV, hcV⟩ := box8 w1 (.cells #[.int .i64 xk, .string (str8 xs), .int .i64 xn, .int .i64 xp] 71)
        have hz1 := hb1.size
        have HRV := hid ((HH.out.below hb1).below hbV)
        have HFV := hid ((HF.out.thenNew hb1).thenNew hbV)
        have HBV := hid ((hbV.block _ (by omega)).trans ((hb1.block _ hzW).trans HCW.out))
        have HTV := hid hcV
        have HS := hid (HSK.out V HRV.out)
        clear hb1 hbV hcV HN HSK
        go_wp2_with fail
        try rw [hV]
        clear hV
        refine HS.out.mono ?_
        rintro e w2 ⟨rfl, hr2, hf2⟩
        have hz2 := hf2.size
        have HB2 := hid ((hf2.block w.heap.size (by omega) (by omega)).trans HBV.out)
        have ht2 := (hf2.block w1.heap.size hzV (by omega)).trans HTV.out
        have HR2 := hid hr2
        have HF2 := hid (HFV.out.then hf2)
        clear hr2 hf2 HS
        have kt := cells4 ht2
        clear ht2
        go_wp2_with fail
        refine (HSM.out w2 HR2.out).mono ?_
        rintro e w3 ⟨rfl, hr3, hf3⟩
        have hz3 := hf3.size
        have HB3 := hid ((hf3.block w.heap.size (by omega) (by omega)).trans HB2.out)
        have HR3 := hid hr3
        have HF3 := hid (HF2.out.then hf3)
        clear hr3 hf3 kt
        go_wp2_with fail
        refine (HX.out w3 HR3.out).mono ?_
        rintro e w4 ⟨rfl, hr4, hf4⟩
        have HB4 := hid ((hf4.block w.heap.size (by omega) (by omega)).trans HB3.out)
        have HR4 := hid hr4
        have HF4 := hid (HF3.out.then hf4)
        have kb := cells3f HB4.out
        clear hr4 hf4
        go_wp2
        rw [set3 HB4.out]
        obtain ⟨Z, hZ, hZB, hZs, hZR, hZF⟩ := put_box (w := w) #[.int .i64 1, .int .i64 m, .string ⟨#[]⟩] HB4.out (Nat.le_refl _) hgw HR4.out HF4.out
        rw [hZ]
        have kc := cells3f hZB
        exact bodyPost_ret (v := .agg #[.int .i64 1, .int .i64 m, .string ⟨#[]⟩]) (by simp [results, Tryz.results127, go_sem, kc]) rfl ⟨rfl, hZR, hZF⟩

end Go.Proofs.YtokfphfgcjbpkaaGreatDoor
