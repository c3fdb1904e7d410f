/- Contract of factor; every level of an expression. -/
import Derived.Test.YtokfphfgcjbpkaaGreatDoorPTest
namespace Go.Proofs.YtokfphfgcjbpkaaGreatDoor
open Go.RowKit Go.Shelf
set_option linter.unusedVariables false
set_option linter.unusedSimpArgs false
set_option maxRecDepth 20000

theorem fact_name {fc ex : Pa Ex} {r : Rd} (h : (nowR r).k = 1) : factorP fc ex r = colP r := by
  unfold factorP bindP isNameP
  dsimp only
  rw [h]
  rfl

theorem fact_minus {fc ex : Pa Ex} {r : Rd} (h : (nowR r).k ≠ 1) (h1 : isR [45] r = true) (h2 : (behindR r).k ≠ 3) : factorP fc ex r = (exOf 5 (deepP fc (nextR r)).1, (deepP fc (nextR r)).2) := by
  unfold factorP bindP isNameP
  dsimp only
  rw [if_neg (by simpa using h)]
  unfold minusP
  rw [if_pos ⟨h1, h2⟩]
  rfl

theorem fact_open {fc ex : Pa Ex} {r : Rd} (h : (nowR r).k ≠ 1) (h1 : isR [45] r = false) (h2 : isR [40] r = true) : factorP fc ex r = ((deepP ex (nextR r)).1, (mustsP [[41]] (deepP ex (nextR r)).2).2) := by
  unfold factorP bindP isNameP
  dsimp only
  rw [if_neg (by simpa using h)]
  unfold minusP
  rw [if_neg (fun e => by rw [h1] at e; cases e.1)]
  unfold ifP
  rw [if_pos h2]
  rfl

theorem fact_lit {fc ex : Pa Ex} {r : Rd} (h : (nowR r).k ≠ 1) (h1 : isR [45] r = false ∨ (behindR r).k = 3) (h2 : isR [40] r = false) : factorP fc ex r = (exVal (litP r).1, (litP r).2) := by
  unfold factorP bindP isNameP
  dsimp only
  rw [if_neg (by simpa using h)]
  unfold minusP
  rw [if_neg (fun e => by rcases h1 with h1 | h1; (rw [h1] at e; cases e.1); exact e.2 h1)]
  unfold ifP
  rw [if_neg (by rw [h2]; exact Bool.false_ne_true)]
  rfl

theorem field_tok0 (x : Tk) (w : World) : (Instr.field 71 (.agg #[.int .i64 x.k, .string (str8 x.s), .int .i64 x.n, .int .i64 x.p]) 0).run Tryz.prog w = .ok (.int .i64 x.k) w := (field_tok x.k x.n x.p (str8 x.s) w).1

set_option maxHeartbeats 2000000 in
theorem factor_any (F n : Nat) (pf pe : Pa Ex) (hf : RdsE F (Enough n) 183 pf) (hNf : Nice false F pf) (he : RdsE F (Enough n) 34 pe) (hNe : Nice false F pe) : RdsE F (Enough (n + 1)) 183 (factorP pf pe) := fun g r w h hE => by
  have hgw := h.lt
  have hG := h.good
  obtain ⟨W, hW, hbW, hzW, hcW⟩ := box8 w zBox
  have HCW := hid hcW
  have HF := hid (Spares.of_new (S := fun k => k = g) hbW)
  have HH := hid (h.below hbW)
  have HN := hid (now_any F g r W HH.out)
  have hft := field_tok0 (nowR r)
  obtain ⟨⟨Y1, Y2⟩, hY⟩ : ∃ Y, factorP pf pe r = Y := ⟨_, rfl⟩
  have q1 := fact_name (fc := pf) (ex := pe) (r := r)
  have q2 := fact_minus (fc := pf) (ex := pe) (r := r)
  have q3 := fact_open (fc := pf) (ex := pe) (r := r)
  have q4 := fact_lit (fc := pf) (ex := pe) (r := r)
  rw [hY] at q1 q2 q3 q4 ⊢
  dsimp only
  clear hY h hcW hbW
  have CL : True := trivial
  by_cases hk : (nowR r).k = 1
  · have hYY := q1 hk
    have HC := hid (fun V (hV : RdAt F V g r) => col_any F (fun _ => True) g r V hV trivial)
    rw [← hYY] at HC
    dsimp only at HC
    clear hYY
    generalize nowR r = x at HN hft hk
    obtain ⟨xk, xs, xn, xp⟩ := x
    dsimp only at HN hft hk
    subst hk
    clear q1 q2 q3 q4 hf hNf he hNe hE hG CL
    go_enter Tryz.func183, Tryz.ntmps183
    go_wp2_with fail
    try rw [hW]
    clear hW
    refine HN.out.mono ?_
    rintro e w1 ⟨rfl, hb1⟩
    have hz1 := hb1.size
    have HR1 := hid (HH.out.below hb1)
    have HF1 := hid (HF.out.thenNew hb1)
    have HB1 := hid ((hb1.block _ hzW).trans HCW.out)
    clear hb1 HN
    go_wp2_with fail
    refine (HC.out w1 HR1.out).mono ?_
    rintro e w2 ⟨u, rfl, hu, hr2, hf2⟩
    have HU2 := hid hu
    obtain ⟨k3, op3, tb3, nm3, vk3, vn3, vs3, ys3, aa3, nn3, cc3, _, rfl, _⟩ := hu
    have hz2 := hf2.size
    have HR2 := hid hr2
    have HF2 := hid (HF1.out.then hf2)
    have HB2 := hid ((hf2.block w.heap.size (by omega) (by omega)).trans HB1.out)
    clear hr2 hf2 HC
    go_wp2_with (first
      | (refine wpList_store_box rfl (.tmp 2) (.tmp 10) rfl w.heap.size rfl k3 op3 vk3 vn3 (str8 tb3) (str8 nm3) (str8 vs3) aa3 nn3 cc3 rfl HB2.out (Nat.le_refl _) hgw HR2.out HF2.out ?_
         intro Y hYB hYs hYR hYF
         have HYB := hid hYB
         have HUY := hid (HU2.out.to (T := fun b => w.heap.size ≤ b) hYs (fun b hb _ => ⟨by omega, by omega⟩))
         have HYR := hid hYR
         have HYF := hid hYF
         clear hYB hYs hYR hYF)
      | fail)
    have kc := cells8 HYB.out
    exact bodyPost_ret (v := .agg #[.int .i64 k3, .int .i64 op3, .string (str8 tb3), .string (str8 nm3), .int .i64 vk3, .int .i64 vn3, .string (str8 vs3), .slice aa3 nn3 cc3]) (by simp [results, Tryz.results183, go_sem, kc]) rfl ⟨_, rfl, HUY.out, HYR.out, HYF.out⟩
  · have hk' : ((nowR r).k == 1) = false := by simpa using hk
    by_cases hm : isR [45] r = true
    · by_cases h3 : (behindR r).k = 3
      · have ho : isR [40] r = false := by
          rw [Bool.eq_false_iff]
          intro e
          have e1 := (is_kind e).2
          rw [(is_kind hm).2] at e1
          cases e1
        have hYY := q4 hk (.inr h3) ho
        have h3' : ((behindR r).k != 3) = false := by simpa using h3
        have HIS : Hid (∀ V, RdAt F V g r → Calls Tryz.prog 102 #[.pointer (some ⟨g, 0, none⟩), .string ⟨#[45]⟩] V fun e w' => e = .returned (.bool true) ∧ Below V.heap.size V w') := hid (fun V hV => by
          have := is_any F g r V hV [45]
          rw [hm] at this
          exact this)
        have HBE := hid (fun V (hV : RdAt F V g r) => behind_any F g r V hV (is_ok hm) (kind6 hm))
        have hfb := field_tok0 (behindR r)
        have HSK : Hid (∀ V, RdAt F V g r → Calls Tryz.prog 56 #[.pointer (some ⟨g, 0, none⟩), .string ⟨#[40]⟩] V fun e w' => e = .returned (.bool false) ∧ RdAt F w' g r ∧ Fr g V w') := hid (fun V hV => skip_no F g r V hV [40] ho)
        have HL := hid (fun V (hV : RdAt F V g r) => lit_any F g r V hV)
        obtain ⟨⟨lk, ln, ls⟩, hle⟩ : ∃ x, (litP r).1 = x := ⟨_, rfl⟩
        rw [hle] at HL hYY
        generalize (litP r).2 = y2 at HL hYY
        dsimp only at HL
        simp only [Prod.mk.injEq] at hYY
        obtain ⟨rfl, rfl⟩ := hYY
        generalize behindR r = z at HBE hfb h3' h3
        generalize nowR r = x at HN hft hk hk'
        clear q1 q2 q3 q4 hf hNf he hNe hE hG CL hm ho hle h3
        go_enter Tryz.func183, Tryz.ntmps183
        go_wp2_with fail
        try rw [hW]
        clear hW
        refine HN.out.mono ?_
        rintro e w1 ⟨rfl, hb1⟩
        have hz1 := hb1.size
        have HR1 := hid (HH.out.below hb1)
        have HF1 := hid (HF.out.thenNew hb1)
        have HB1 := hid ((hb1.block _ hzW).trans HCW.out)
        clear hb1 HN
        go_wp2_with fail
        refine (HIS.out w1 HR1.out).mono ?_
        rintro e w2 ⟨rfl, hb2⟩
        have hz2 := hb2.size
        have HR2 := hid (HR1.out.below hb2)
        have HF2 := hid (HF1.out.thenNew hb2)
        have HB2 := hid ((hb2.block w.heap.size (by omega)).trans HB1.out)
        clear hb2 HIS
        go_wp2_with fail
        refine (HBE.out w2 HR2.out).mono ?_
        rintro e w3 ⟨rfl, hb3⟩
        have hz3 := hb3.size
        have HR3 := hid (HR2.out.below hb3)
        have HF3 := hid (HF2.out.thenNew hb3)
        have HB3 := hid ((hb3.block w.heap.size (by omega)).trans HB2.out)
        clear hb3 HBE
        go_wp2_with fail
        refine (HSK.out w3 HR3.out).mono ?_
        rintro e w4 ⟨rfl, hr4, hf4⟩
        have hz4 := hf4.size
        have HR4 := hid hr4
        have HF4 := hid (HF3.out.then hf4)
        have HB4 := hid ((hf4.block w.heap.size (by omega) (by omega)).trans HB3.out)
        clear hr4 hf4 HSK
        go_wp2_with fail
        refine (HL.out w4 HR4.out).mono ?_
        rintro e w5 ⟨rfl, hr5, hf5⟩
        have hz5 := hf5.size
        have HR5 := hid hr5
        have HF5 := hid (HF4.out.then hf5)
        have HB5 := hid ((hf5.block w.heap.size (by omega) (by omega)).trans HB4.out)
        clear hr5 hf5 HL
        go_wp2_with (first
          | (refine wpList_store_box rfl (.tmp 2) (.tmp 40) rfl w.heap.size rfl 1 0 lk ln ⟨#[]⟩ ⟨#[]⟩ (str8 ls) none 0 0 rfl HB5.out (Nat.le_refl _) hgw HR5.out HF5.out ?_
             intro Y hYB hYs hYR hYF
             have HYB := hid hYB
             have HYR := hid hYR
             have HYF := hid hYF
             clear hYB hYs hYR hYF)
          | fail)
        have kc := cells8 HYB.out
        exact bodyPost_ret (v := .agg #[.int .i64 1, .int .i64 0, .string ⟨#[]⟩, .string ⟨#[]⟩, .int .i64 lk, .int .i64 ln, .string (str8 ls), .slice none 0 0]) (by simp [results, Tryz.results183, go_sem, kc]) rfl ⟨_, rfl, ⟨1, 0, [], [], lk, ln, ls, [], _, _, _, rfl, rfl, .nil _ _ (by unfold maxLen; omega)⟩, HYR.out, HYF.out⟩
      · skip
        have hYY := q2 hk hm h3
        have h3' : ((behindR r).k != 3) = true := by simpa using h3
        have hb := is_ok hm
        have hE1 : Enough (n + 1) (nextR r) := hE.next
        have HIS : Hid (∀ V, RdAt F V g r → Calls Tryz.prog 102 #[.pointer (some ⟨g, 0, none⟩), .string ⟨#[45]⟩] V fun e w' => e = .returned (.bool true) ∧ Below V.heap.size V w') := hid (fun V hV => by
          have := is_any F g r V hV [45]
          rw [hm] at this
          exact this)
        have HBE := hid (fun V (hV : RdAt F V g r) => behind_any F g r V hV (is_ok hm) (kind6 hm))
        have hfb := field_tok0 (behindR r)
        have HNX := hid (fun V (hV : RdAt F V g r) => next_any F g r V hV (is_ok hm) (kind6 hm))
        have HD := hid (fun V (hV : RdAt F V g (nextR r)) => deeper_any F n 183 pf hf hNf (enters_of Tryz.func183 (by kernel_rfl) rfl) g (nextR r) V hV hE1 hb)
        generalize (deepP pf (nextR r)).1 = y1 at HD hYY
        generalize (deepP pf (nextR r)).2 = y2 at HD hYY
        simp only [Prod.mk.injEq] at hYY
        obtain ⟨rfl, rfl⟩ := hYY
        generalize behindR r = z at HBE hfb h3' h3
        generalize nowR r = x at HN hft hk hk'
        clear q1 q2 q3 q4 hf hNf he hNe hE hG CL hE1 hb hm h3
        go_enter Tryz.func183, Tryz.ntmps183
        go_wp2_with fail
        try rw [hW]
        clear hW
        refine HN.out.mono ?_
        rintro e w1 ⟨rfl, hb1⟩
        have hz1 := hb1.size
        have HR1 := hid (HH.out.below hb1)
        have HF1 := hid (HF.out.thenNew hb1)
        have HB1 := hid ((hb1.block _ hzW).trans HCW.out)
        clear hb1 HN
        go_wp2_with fail
        refine (HIS.out w1 HR1.out).mono ?_
        rintro e w2 ⟨rfl, hb2⟩
        have hz2 := hb2.size
        have HR2 := hid (HR1.out.below hb2)
        have HF2 := hid (HF1.out.thenNew hb2)
        have HB2 := hid ((hb2.block w.heap.size (by omega)).trans HB1.out)
        clear hb2 HIS
        go_wp2_with fail
        refine (HBE.out w2 HR2.out).mono ?_
        rintro e w3 ⟨rfl, hb3⟩
        have hz3 := hb3.size
        have HR3 := hid (HR2.out.below hb3)
        have HF3 := hid (HF2.out.thenNew hb3)
        have HB3 := hid ((hb3.block w.heap.size (by omega)).trans HB2.out)
        clear hb3 HBE
        go_wp2_with fail
        refine (HNX.out w3 HR3.out).mono ?_
        rintro e w4 ⟨rfl, hr4, hf4⟩
        have hz4 := hf4.size
        have HR4 := hid hr4
        have HF4 := hid (HF3.out.then hf4)
        have HB4 := hid ((hf4.block w.heap.size (by omega) (by omega)).trans HB3.out)
        clear hr4 hf4 HNX
        go_wp2_with fail
        refine (HD.out w4 HR4.out).mono ?_
        rintro e w5 ⟨u, rfl, hu, hr5, hf5⟩
        have HU5 := hid hu
        obtain ⟨k2, op2, tb2, nm2, vk2, vn2, vs2, ys2, aa2, nn2, cc2, _, rfl, _⟩ := hu
        have hz5 := hf5.size
        have HR5 := hid hr5
        have HF5 := hid (HF4.out.then hf5)
        have HB5 := hid ((hf5.block w.heap.size (by omega) (by omega)).trans HB4.out)
        clear hr5 hf5 HD
        have HO := hid (of_any (fun b => w4.heap.size ≤ b) 5 y1 _ w5 (fun b hb => by omega) HU5.out)
        go_wp2_with fail
        refine HO.out.mono ?_
        rintro e w6 ⟨u, rfl, hu, hb6⟩
        have HU6 := hid hu
        obtain ⟨k3, op3, tb3, nm3, vk3, vn3, vs3, ys3, aa3, nn3, cc3, _, rfl, _⟩ := hu
        have HB6 := hid ((hb6.block w.heap.size (by omega)).trans HB5.out)
        have HR6 := hid (HR5.out.below hb6)
        have HF6 := hid (HF5.out.thenNew hb6)
        clear hb6 HO
        go_wp2_with (first
          | (refine wpList_store_box rfl (.tmp 2) (.tmp 26) rfl w.heap.size rfl k3 op3 vk3 vn3 (str8 tb3) (str8 nm3) (str8 vs3) aa3 nn3 cc3 rfl HB6.out (Nat.le_refl _) hgw HR6.out HF6.out ?_
             intro Y hYB hYs hYR hYF
             have HYB := hid hYB
             have HUY := hid (HU6.out.to (T := fun b => w.heap.size ≤ b) hYs (fun b hb _ => ⟨by omega, by omega⟩))
             have HYR := hid hYR
             have HYF := hid hYF
             clear hYB hYs hYR hYF)
          | fail)
        have kc := cells8 HYB.out
        exact bodyPost_ret (v := .agg #[.int .i64 k3, .int .i64 op3, .string (str8 tb3), .string (str8 nm3), .int .i64 vk3, .int .i64 vn3, .string (str8 vs3), .slice aa3 nn3 cc3]) (by simp [results, Tryz.results183, go_sem, kc]) rfl ⟨_, rfl, HUY.out, HYR.out, HYF.out⟩
    · have hm : isR [45] r = false := by simpa using hm
      by_cases ho : isR [40] r = true
      · skip
        have hYY := q3 hk hm ho
        have hb := is_ok ho
        have hE1 : Enough (n + 1) (nextR r) := hE.next
        have HIS : Hid (∀ V, RdAt F V g r → Calls Tryz.prog 102 #[.pointer (some ⟨g, 0, none⟩), .string ⟨#[45]⟩] V fun e w' => e = .returned (.bool false) ∧ Below V.heap.size V w') := hid (fun V hV => by
          have := is_any F g r V hV [45]
          rw [hm] at this
          exact this)
        have HSK : Hid (∀ V, RdAt F V g r → Calls Tryz.prog 56 #[.pointer (some ⟨g, 0, none⟩), .string ⟨#[40]⟩] V fun e w' => e = .returned (.bool true) ∧ RdAt F w' g (nextR r) ∧ Fr g V w') := hid (fun V hV => skip_yes F g r V hV [40] ho)
        have HD := hid (fun V (hV : RdAt F V g (nextR r)) => deeper_any F n 34 pe he hNe (enters_of Tryz.func34 (by kernel_rfl) rfl) g (nextR r) V hV hE1 hb)
        generalize (deepP pe (nextR r)).1 = y1 at HD hYY
        generalize (deepP pe (nextR r)).2 = y2 at HD hYY
        have HM : Hid (∀ V, RdAt F V g y2 → Calls Tryz.prog 50 #[.pointer (some ⟨g, 0, none⟩), .slice (some ⟨V.heap.size, 0, none⟩) 1 1] (V.alloc (.cells #[.string ⟨#[41]⟩] 9)) fun e w' => e = .returned (.tuple #[]) ∧ RdAt F w' g (mustsP [[41]] y2).2 ∧ Fr g V w') := hid (fun V hV => must_new F g y2 [[41]] (by decide) V hV)
        generalize (mustsP [[41]] y2).2 = y3 at HM hYY
        simp only [Prod.mk.injEq] at hYY
        obtain ⟨rfl, rfl⟩ := hYY
        generalize nowR r = x at HN hft hk hk'
        clear q1 q2 q3 q4 hf hNf he hNe hE hG CL hE1 hb hm ho
        go_enter Tryz.func183, Tryz.ntmps183
        go_wp2_with fail
        try rw [hW]
        clear hW
        refine HN.out.mono ?_
        rintro e w1 ⟨rfl, hb1⟩
        have hz1 := hb1.size
        have HR1 := hid (HH.out.below hb1)
        have HF1 := hid (HF.out.thenNew hb1)
        have HB1 := hid ((hb1.block _ hzW).trans HCW.out)
        clear hb1 HN
        go_wp2_with fail
        refine (HIS.out w1 HR1.out).mono ?_
        rintro e w2 ⟨rfl, hb2⟩
        have hz2 := hb2.size
        have HR2 := hid (HR1.out.below hb2)
        have HF2 := hid (HF1.out.thenNew hb2)
        have HB2 := hid ((hb2.block w.heap.size (by omega)).trans HB1.out)
        clear hb2 HIS
        go_wp2_with fail
        refine (HSK.out w2 HR2.out).mono ?_
        rintro e w3 ⟨rfl, hr3, hf3⟩
        have hz3 := hf3.size
        have HR3 := hid hr3
        have HF3 := hid (HF2.out.then hf3)
        have HB3 := hid ((hf3.block w.heap.size (by omega) (by omega)).trans HB2.out)
        clear hr3 hf3 HSK
        go_wp2_with fail
        refine (HD.out w3 HR3.out).mono ?_
        rintro e w4 ⟨u, rfl, hu, hr4, hf4⟩
        have HU4 := hid hu
        obtain ⟨k3, op3, tb3, nm3, vk3, vn3, vs3, ys3, aa3, nn3, cc3, _, rfl, _⟩ := hu
        have hz4 := hf4.size
        have HR4 := hid hr4
        have HF4 := hid (HF3.out.then hf4)
        have HB4 := hid ((hf4.block w.heap.size (by omega) (by omega)).trans HB3.out)
        clear hr4 hf4 HD
        go_wp2_with fail
        obtain ⟨V, hV, hbV, hzV, hcV⟩ := box8 w4 (.cells #[.int .i64 k3, .int .i64 op3, .string (str8 tb3), .string (str8 nm3), .int .i64 vk3, .int .i64 vn3, .string (str8 vs3), .slice aa3 nn3 cc3] 40)
        try rw [hV]
        have HRV := hid (HR4.out.below hbV)
        have HFV := hid (HF4.out.thenNew hbV)
        have HBV := hid ((hbV.block w.heap.size (by omega)).trans HB4.out)
        have HEV := hid hcV
        have HUV : Hid (ExV (fun b => w.heap.size ≤ b ∧ b ≠ w.heap.size) V Y1 _) := hid (HU4.out.to (R := fun _ => False) (Spares.of_new hbV) (fun b hb hlt => ⟨id, by omega, by omega⟩))
        have hVs : V.heap.size = w4.heap.size + 1 := by rw [← hV]; simp
        have hMV := HM.out V HRV.out
        rw [hVs] at hMV
        have HMV := hid hMV
        clear hV hbV hcV HM hMV hVs
        refine HMV.out.mono ?_
        rintro e w5 ⟨rfl, hr5, hf5⟩
        have hz5 := hf5.size
        have HR5 := hid hr5
        have HF5 := hid (HFV.out.then hf5)
        have HB5 := hid ((hf5.block w.heap.size (by omega) (by omega)).trans HBV.out)
        have k5 := cells8f ((hf5.block w4.heap.size hzV (by omega)).trans HEV.out)
        have HU5 := hid (HUV.out.to (T := fun b => w.heap.size ≤ b ∧ b ≠ w.heap.size) hf5 (fun b hb _ => ⟨by omega, hb⟩))
        clear hr5 hf5 HMV
        go_wp2_with (first
          | (refine wpList_store_box rfl (.tmp 2) (.tmp 37) rfl w.heap.size rfl k3 op3 vk3 vn3 (str8 tb3) (str8 nm3) (str8 vs3) aa3 nn3 cc3 rfl HB5.out (Nat.le_refl _) hgw HR5.out HF5.out ?_
             intro Y hYB hYs hYR hYF
             have HYB := hid hYB
             have HUY := hid (HU5.out.to (T := fun b => w.heap.size ≤ b) hYs (fun b hb _ => ⟨hb.2, hb.1⟩))
             have HYR := hid hYR
             have HYF := hid hYF
             clear hYB hYs hYR hYF)
          | fail)
        have kc := cells8 HYB.out
        exact bodyPost_ret (v := .agg #[.int .i64 k3, .int .i64 op3, .string (str8 tb3), .string (str8 nm3), .int .i64 vk3, .int .i64 vn3, .string (str8 vs3), .slice aa3 nn3 cc3]) (by simp [results, Tryz.results183, go_sem, kc]) rfl ⟨_, rfl, HUY.out, HYR.out, HYF.out⟩
      · have ho : isR [40] r = false := by simpa using ho
        have hYY := q4 hk (.inl hm) ho
        have HIS : Hid (∀ V, RdAt F V g r → Calls Tryz.prog 102 #[.pointer (some ⟨g, 0, none⟩), .string ⟨#[45]⟩] V fun e w' => e = .returned (.bool false) ∧ Below V.heap.size V w') := hid (fun V hV => by
          have := is_any F g r V hV [45]
          rw [hm] at this
          exact this)
        have HSK : Hid (∀ V, RdAt F V g r → Calls Tryz.prog 56 #[.pointer (some ⟨g, 0, none⟩), .string ⟨#[40]⟩] V fun e w' => e = .returned (.bool false) ∧ RdAt F w' g r ∧ Fr g V w') := hid (fun V hV => skip_no F g r V hV [40] ho)
        have HL := hid (fun V (hV : RdAt F V g r) => lit_any F g r V hV)
        obtain ⟨⟨lk, ln, ls⟩, hle⟩ : ∃ x, (litP r).1 = x := ⟨_, rfl⟩
        rw [hle] at HL hYY
        generalize (litP r).2 = y2 at HL hYY
        dsimp only at HL
        simp only [Prod.mk.injEq] at hYY
        obtain ⟨rfl, rfl⟩ := hYY
        generalize nowR r = x at HN hft hk hk'
        clear q1 q2 q3 q4 hf hNf he hNe hE hG CL hm ho hle
        go_enter Tryz.func183, Tryz.ntmps183
        go_wp2_with fail
        try rw [hW]
        clear hW
        refine HN.out.mono ?_
        rintro e w1 ⟨rfl, hb1⟩
        have hz1 := hb1.size
        have HR1 := hid (HH.out.below hb1)
        have HF1 := hid (HF.out.thenNew hb1)
        have HB1 := hid ((hb1.block _ hzW).trans HCW.out)
        clear hb1 HN
        go_wp2_with fail
        refine (HIS.out w1 HR1.out).mono ?_
        rintro e w2 ⟨rfl, hb2⟩
        have hz2 := hb2.size
        have HR2 := hid (HR1.out.below hb2)
        have HF2 := hid (HF1.out.thenNew hb2)
        have HB2 := hid ((hb2.block w.heap.size (by omega)).trans HB1.out)
        clear hb2 HIS
        go_wp2_with fail
        refine (HSK.out w2 HR2.out).mono ?_
        rintro e w3 ⟨rfl, hr3, hf3⟩
        have hz3 := hf3.size
        have HR3 := hid hr3
        have HF3 := hid (HF2.out.then hf3)
        have HB3 := hid ((hf3.block w.heap.size (by omega) (by omega)).trans HB2.out)
        clear hr3 hf3 HSK
        go_wp2_with fail
        refine (HL.out w3 HR3.out).mono ?_
        rintro e w4 ⟨rfl, hr4, hf4⟩
        have hz4 := hf4.size
        have HR4 := hid hr4
        have HF4 := hid (HF3.out.then hf4)
        have HB4 := hid ((hf4.block w.heap.size (by omega) (by omega)).trans HB3.out)
        clear hr4 hf4 HL
        go_wp2_with (first
          | (refine wpList_store_box rfl (.tmp 2) (.tmp 40) rfl w.heap.size rfl 1 0 lk ln ⟨#[]⟩ ⟨#[]⟩ (str8 ls) none 0 0 rfl HB4.out (Nat.le_refl _) hgw HR4.out HF4.out ?_
             intro Y hYB hYs hYR hYF
             have HYB := hid hYB
             have HYR := hid hYR
             have HYF := hid hYF
             clear hYB hYs hYR hYF)
          | fail)
        have kc := cells8 HYB.out
        exact bodyPost_ret (v := .agg #[.int .i64 1, .int .i64 0, .string ⟨#[]⟩, .string ⟨#[]⟩, .int .i64 lk, .int .i64 ln, .string (str8 ls), .slice none 0 0]) (by simp [results, Tryz.results183, go_sem, kc]) rfl ⟨_, rfl, ⟨1, 0, [], [], lk, ln, ls, [], _, _, _, rfl, rfl, .nil _ _ (by unfold maxLen; omega)⟩, HYR.out, HYF.out⟩

/-- EVERY LEVEL. -/
theorem lev_any (F : Nat) : ∀ n, RdsE F (Enough n) 118 (lev F n).nt ∧ RdsE F (Enough n) 183 (lev F n).fc ∧ RdsE F (Enough n) 34 (lev F n).ex
  | 0 => ⟨fun _ _ _ _ h => absurd h.2 (by decide), fun _ _ _ _ h => absurd h.2 (by decide), fun _ _ _ _ h => absurd h.2 (by decide)⟩
  | n + 1 => by
    obtain ⟨i1, i2, i3⟩ := lev_any F n
    have hN := nice_lev (b := false) (F := F) n
    have hf := factor_any F n _ _ i2 hN.fc i3 hN.ex
    have hNf := nice_factor hN.fc hN.ex
    have ht := term_any F (n + 1) _ hf hNf
    have hs := sum_any F (n + 1) _ ht (nice_term hN)
    have hq := test_any F (n + 1) _ hs (nice_sum hN)
    have hnt := not_any F n _ _ i1 hN.nt hq
    have ha := and_any F (n + 1) _ hnt (nice_notQ hN)
    exact ⟨hnt, hf, expr_any F (n + 1) _ ha (nice_and hN)⟩

/-- An expression at depth 0. -/
theorem exprP_any (F g : Nat) (r : Rd) (w : World) (h : RdAt F w g r) (hd : r.bad = 0 → r.d = 0) :
    Calls Tryz.prog 34 #[.pointer (some ⟨g, 0, none⟩)] w fun e w' => ∃ u, e = .returned u ∧ ExV (fun b => w.heap.size ≤ b) w' (exprP F r).1 u ∧ RdAt F w' g (exprP F r).2 ∧ Fr g w w' :=
  (lev_any F 12).2.2 g r w h ⟨fun hb => by rw [hd hb]; decide, by decide⟩

end Go.Proofs.YtokfphfgcjbpkaaGreatDoor
