/- Contracts of column, moreColumns, item. -/
import Derived.Test.YtokfphfgcjbpkaaGreatDoorPPart
namespace Go.Proofs.YtokfphfgcjbpkaaGreatDoor
open Go.RowKit Go.Shelf
set_option linter.unusedVariables false
set_option linter.unusedSimpArgs false
set_option maxRecDepth 20000

/-- One cell of a box. -/
theorem boxset {w : World} {b : Nat} {cs : Array Value} {t : TypeId} (h : w.heap[b]? = some (.cells cs t)) (i : Nat) (v : Value) : ∃ V, w.setCell ⟨b, i, none⟩ v = V ∧ V.heap[b]? = some (.cells (cs.setIfInBounds i v) t) ∧ Spares (fun k => k = b) w V := by
  refine ⟨_, rfl, ?_, (Spares.refl (fun k => k = b) w).own _ _⟩
  rw [setCell_eq_setRow w b i cs t _ v h]
  exact setRow_heap w b _ _ t _ h

theorem Tryz.colInfo : (Tryz.prog.info? 62).map (·.size) = some 4 := by kernel_rfl
theorem Tryz.itemInfo : (Tryz.prog.info? 68).map (·.size) = some 2 := by kernel_rfl

theorem more_yes {r : Rd} (h : isR [44] r = true) : moreColumnsP r = (!(isR [80, 82, 73, 77, 65, 82, 89] (nextR r)), nextR r) := by
  unfold moreColumnsP ifP
  rw [if_pos h]
  rfl

theorem more_no {r : Rd} (h : isR [44] r = false) : moreColumnsP r = (false, failR 4 r) := by
  unfold moreColumnsP ifP
  rw [if_neg (by rw [h]; exact Bool.false_ne_true)]
  rfl

set_option maxHeartbeats 1000000 in
theorem moreColumns_B (F : Nat) : RdsB F 91 moreColumnsP := fun g r w h => by
  have HRw := hid h
  cases hi : isR [44] r with
  | true =>
    rw [more_yes hi]
    have HS : Hid (∀ V, RdAt F V g r → Calls Tryz.prog 56 #[.pointer (some ⟨g, 0, none⟩), .string ⟨#[44]⟩] V fun e w' => e = .returned (.bool true) ∧ RdAt F w' g (nextR r) ∧ Fr g V w') := hid (fun V hV => skip_yes F g r V hV [44] hi)
    have HI : Hid (∀ V, RdAt F V g (nextR r) → Calls Tryz.prog 102 #[.pointer (some ⟨g, 0, none⟩), .string ⟨#[80, 82, 73, 77, 65, 82, 89]⟩] V fun e w' => e = .returned (.bool (isR [80, 82, 73, 77, 65, 82, 89] (nextR r))) ∧ Below V.heap.size V w') := hid (fun V hV => is_any F g (nextR r) V hV _)
    dsimp only
    generalize isR [80, 82, 73, 77, 65, 82, 89] (nextR r) = b at HI ⊢
    clear h hi
    go_enter Tryz.func91, Tryz.ntmps91
    go_wp2_with fail
    refine (HS.out w HRw.out).mono ?_
    rintro e w1 ⟨rfl, hr1, hf1⟩
    have HR1 := hid hr1
    have HF1 := hid hf1
    clear hr1 hf1 HS
    go_wp2_with fail
    refine (HI.out w1 HR1.out).mono ?_
    rintro e w2 ⟨rfl, hb2⟩
    have HR2 := hid (HR1.out.below hb2)
    have HF2 := hid (HF1.out.thenNew hb2)
    clear hb2 HI
    go_wp2
    go_ret
    exact ⟨rfl, HR2.out, HF2.out⟩
  | false =>
    rw [more_no hi]
    have HS : Hid (∀ V, RdAt F V g r → Calls Tryz.prog 56 #[.pointer (some ⟨g, 0, none⟩), .string ⟨#[44]⟩] V fun e w' => e = .returned (.bool false) ∧ RdAt F w' g r ∧ Fr g V w') := hid (fun V hV => skip_no F g r V hV [44] hi)
    have HX := hid (fun V (hV : RdAt F V g r) => fail_any F g r V hV 4 (by decide))
    dsimp only
    clear h hi
    go_enter Tryz.func91, Tryz.ntmps91
    go_wp2_with fail
    refine (HS.out w HRw.out).mono ?_
    rintro e w1 ⟨rfl, hr1, hf1⟩
    have HR1 := hid hr1
    have HF1 := hid hf1
    clear hr1 hf1 HS
    go_wp2_with fail
    refine (HX.out w1 HR1.out).mono ?_
    rintro e w2 ⟨rfl, hr2, hf2⟩
    have HR2 := hid hr2
    have HF2 := hid (HF1.out.then hf2)
    clear hr2 hf2 HX
    go_wp2
    go_ret
    exact ⟨rfl, HR2.out, HF2.out⟩

/-- The column's kind, or what is wrong. -/
def kindR (r : Rd) : Rd := if (chooseP kindsB r).1 = 0 then failR 4 (chooseP kindsB r).2 else (chooseP kindsB r).2
def nnR (r : Rd) : Rd := if isR [78, 79, 84] r = true then (mustsP [[78, 85, 76, 76]] (nextR r)).2 else r

theorem column_eq (r : Rd) : columnP r = (⟨(nameP r).1, (chooseP kindsB (nameP r).2).1, isR [78, 79, 84] (kindR (nameP r).2), isR [85, 78, 73, 81, 85, 69] (nnR (kindR (nameP r).2))⟩, skipR [85, 78, 73, 81, 85, 69] (nnR (kindR (nameP r).2))) := by
  unfold columnP bindP
  have e1 : ∀ q : Rd, ((if (chooseP kindsB (nameP r).2).1 = 0 then failP 4 else retP ()) q).2 = if (chooseP kindsB (nameP r).2).1 = 0 then failR 4 q else q := fun q => by split <;> rfl
  have e2 : ∀ q : Rd, (ifP [78, 79, 84] (fun r => retP true (mustP [78, 85, 76, 76] r).2) (retP false) q) = (isR [78, 79, 84] q, nnR q) := fun q => by
    unfold ifP nnR
    split
    · rename_i h; rw [h]; rfl
    · rename_i h; rw [Bool.not_eq_true] at h; rw [h]; rfl
  dsimp only
  rw [e1, e2, skipP_eq]
  rfl

set_option maxHeartbeats 2000000 in
theorem column_any (F : Nat) : RdsX F ColE 90 columnP := fun g r w h hD => by
  rw [column_eq]
  have hgw := h.lt
  obtain ⟨w0, hW, hbW, hzW, hcW⟩ := box8 w (.cells #[.string ⟨#[]⟩, .int .i64 0, .bool false, .bool false] 62)
  have HCW := hid hcW
  have HR0 := hid (h.below hbW)
  have HF0 := hid (Spares.of_new (S := fun k => k = g) hbW)
  have HN := hid (fun V (hV : RdAt F V g r) => name_any F g r V hV)
  dsimp only
  generalize (nameP r).1 = n1 at HN ⊢
  generalize (nameP r).2 = r1 at HN ⊢
  have HC : Hid (∀ V, RdAt F V g r1 → Calls Tryz.prog 48 #[.pointer (some ⟨g, 0, none⟩), .slice (some ⟨V.heap.size, 0, none⟩) 2 2] (V.alloc (.cells #[.string ⟨#[73, 78, 84]⟩, .int .i64 1, .string ⟨#[84, 69, 88, 84]⟩, .int .i64 2] 89)) fun e w' => e = .returned (.int .i64 (chooseP kindsB r1).1) ∧ RdAt F w' g (chooseP kindsB r1).2 ∧ Fr g V w') := hid (fun V hV => choose_new F g r1 kindsB (by decide) V hV)
  have hkr : kindR r1 = if (chooseP kindsB r1).1 = 0 then failR 4 (chooseP kindsB r1).2 else (chooseP kindsB r1).2 := rfl
  obtain ⟨k1, hk1⟩ : ∃ x, (chooseP kindsB r1).1 = x := ⟨_, rfl⟩
  obtain ⟨r2, hr2e⟩ : ∃ x, (chooseP kindsB r1).2 = x := ⟨_, rfl⟩
  rw [hk1, hr2e] at hkr HC
  rw [hk1]
  obtain ⟨r3, hr3e⟩ : ∃ x, kindR r1 = x := ⟨_, rfl⟩
  rw [hr3e] at hkr ⊢
  obtain ⟨r4, hr4e⟩ : ∃ x, nnR r3 = x := ⟨_, rfl⟩
  have hnr : nnR r3 = if isR [78, 79, 84] r3 = true then (mustsP [[78, 85, 76, 76]] (nextR r3)).2 else r3 := rfl
  rw [hr4e] at hnr ⊢
  have HU : Hid (∀ V, RdAt F V g r4 → Calls Tryz.prog 56 #[.pointer (some ⟨g, 0, none⟩), .string ⟨#[85, 78, 73, 81, 85, 69]⟩] V fun e w' => e = .returned (.bool (isR [85, 78, 73, 81, 85, 69] r4)) ∧ RdAt F w' g (skipR [85, 78, 73, 81, 85, 69] r4) ∧ Fr g V w') := hid (fun V hV => skip_any F g r4 V hV [85, 78, 73, 81, 85, 69])
  generalize isR [85, 78, 73, 81, 85, 69] r4 = u1 at HU ⊢
  generalize skipR [85, 78, 73, 81, 85, 69] r4 = r5 at HU ⊢
  clear h hD hcW hbW hk1 hr2e hr3e hr4e
  by_cases h0 : k1 = 0
  · rw [if_pos h0] at hkr
    subst h0
    have HX := hid (fun V (hV : RdAt F V g r2) => fail_any F g r2 V hV 4 (by decide))
    rw [← hkr] at HX
    clear hkr
    cases hi : isR [78, 79, 84] r3 with
    | true =>
      rw [if_pos hi] at hnr
      have HS : Hid (∀ V, RdAt F V g r3 → Calls Tryz.prog 56 #[.pointer (some ⟨g, 0, none⟩), .string ⟨#[78, 79, 84]⟩] V fun e w' => e = .returned (.bool true) ∧ RdAt F w' g (nextR r3) ∧ Fr g V w') := hid (fun V hV => skip_yes F g r3 V hV [78, 79, 84] hi)
      have HM : Hid (∀ V, RdAt F V g (nextR r3) → Calls Tryz.prog 50 #[.pointer (some ⟨g, 0, none⟩), .slice (some ⟨V.heap.size, 0, none⟩) 1 1] (V.alloc (.cells #[.string ⟨#[78, 85, 76, 76]⟩] 9)) fun e w' => e = .returned (.tuple #[]) ∧ RdAt F w' g (mustsP [[78, 85, 76, 76]] (nextR r3)).2 ∧ Fr g V w') := hid (fun V hV => must_new F g (nextR r3) [[78, 85, 76, 76]] (by decide) V hV)
      rw [← hnr] at HM
      clear hi hnr
      go_enter Tryz.func90, Tryz.ntmps90
      go_wp2_with fail
      try rw [hW]
      clear hW
      refine (HN.out w0 HR0.out).mono ?_
      rintro e w1 ⟨rfl, hr1, hf1⟩
      have hz1 := hf1.size
      go_wp2_with fail
      obtain ⟨V1, hV1, hbV1, hzV1, hcV1⟩ := box8 w1 (.cells #[.string (str8 n1), .int .i64 0, .bool false, .bool false] 62)
      have hVs : V1.heap.size = w1.heap.size + 1 := by rw [← hV1]; simp
      have hC1 := HC.out V1 (hr1.below hbV1)
      rw [hVs] at hC1
      have HC1 := hid hC1
      have HFV1 := hid ((HF0.out.then hf1).thenNew hbV1)
      have HB01 := hid ((hbV1.block w.heap.size (by omega)).trans ((hf1.block w.heap.size hzW (by omega)).trans HCW.out))
      have HB11 := hid hcV1
      rw [hV1]
      clear hV1 hr1 hf1 hbV1 hcV1 hC1 HN HC hVs
      refine HC1.out.mono ?_
      rintro e w2 ⟨rfl, hr2, hf2⟩
      have hz2 := hf2.size
      have hB12 := (hf2.block w1.heap.size hzV1 (by omega)).trans HB11.out
      have k12 := cells4 hB12
      obtain ⟨V2, hV2, hcV2, hsV2⟩ := boxset hB12 1 (.int .i64 0)
      have hcV2 : V2.heap[w1.heap.size]? = some (.cells #[.string (str8 n1), .int .i64 0, .bool false, .bool false] 62) := hcV2
      have kV2 := cells4 hcV2
      have hzV2 := hsV2.size
      have HRV2 := hid (hr2.keeps hsV2 (fun i hi e => by omega))
      have HFV2 : Hid (Fr g w V2) := hid ((HFV1.out.then hf2).andThen hsV2 (fun i hi => .inr (by omega)))
      have HB0V2 := hid ((hsV2.block w.heap.size (by omega) (by omega)).trans ((hf2.block w.heap.size (by omega) (by omega)).trans HB01.out))
      have HB1V2 := hid hcV2
      clear hr2 hf2 hB12 hcV2 hsV2 HC1
      go_wp2_with fail
      refine (HX.out V2 HRV2.out).mono ?_
      rintro e w3 ⟨rfl, hr3, hf3⟩
      have hz3 := hf3.size
      have HR3 := hid hr3
      have HF3 := hid (HFV2.out.then hf3)
      have HB03 := hid ((hf3.block w.heap.size (by omega) (by omega)).trans HB0V2.out)
      have HB13 := hid ((hf3.block w1.heap.size (by omega) (by omega)).trans HB1V2.out)
      clear hr3 hf3 HX kV2
      clear hV2 k12
      go_wp2_with fail
      refine (HS.out w3 HR3.out).mono ?_
      rintro e w4 ⟨rfl, hr4, hf4⟩
      have hz4 := hf4.size
      have HR4 := hid hr4
      have HF4 := hid (HF3.out.then hf4)
      have HB04 := hid ((hf4.block w.heap.size (by omega) (by omega)).trans HB03.out)
      have HB14 := hid ((hf4.block w1.heap.size (by omega) (by omega)).trans HB13.out)
      clear hr4 hf4 HS
      go_wp2_with fail
      refine (HM.out w4 HR4.out).mono ?_
      rintro e w5 ⟨rfl, hr5, hf5⟩
      have hz5 := hf5.size
      have hB15 := (hf5.block w1.heap.size (by omega) (by omega)).trans HB14.out
      have k15 := cells4 hB15
      obtain ⟨V5, hV5, hcV5, hsV5⟩ := boxset hB15 2 (.bool true)
      have hcV5 : V5.heap[w1.heap.size]? = some (.cells #[.string (str8 n1), .int .i64 0, .bool true, .bool false] 62) := hcV5
      have hzV5 := hsV5.size
      have HR5 := hid (hr5.keeps hsV5 (fun i hi e => by omega))
      have HF5 : Hid (Fr g w V5) := hid ((HF4.out.then hf5).andThen hsV5 (fun i hi => .inr (by omega)))
      have HB05 := hid ((hsV5.block w.heap.size (by omega) (by omega)).trans ((hf5.block w.heap.size (by omega) (by omega)).trans HB04.out))
      have HB15 := hid hcV5
      clear hr5 hf5 hB15 hcV5 hsV5 HM
      go_wp2_with fail
      refine (HU.out V5 HR5.out).mono ?_
      rintro e w6 ⟨rfl, hr6, hf6⟩
      have hz6 := hf6.size
      have hB16 := (hf6.block w1.heap.size (by omega) (by omega)).trans HB15.out
      have k16 := cells4 hB16
      obtain ⟨V6, hV6, hcV6, hsV6⟩ := boxset hB16 3 (.bool u1)
      have hcV6 : V6.heap[w1.heap.size]? = some (.cells #[.string (str8 n1), .int .i64 0, .bool true, .bool u1] 62) := hcV6
      have hzV6 := hsV6.size
      have HR6 := hid (hr6.keeps hsV6 (fun i hi e => by omega))
      have HF6 : Hid (Fr g w V6) := hid ((HF5.out.then hf6).andThen hsV6 (fun i hi => .inr (by omega)))
      have HB06 := hid ((hsV6.block w.heap.size (by omega) (by omega)).trans ((hf6.block w.heap.size (by omega) (by omega)).trans HB05.out))
      have kV6 := cells4 hcV6
      have hall : (#[.string (str8 n1), .int .i64 0, .bool true, .bool u1] : Array Value).all (·.oneCell') = true := by simp [Value.oneCell']
      clear hr6 hf6 hB16 hcV6 hsV6 HU
      go_wp2_with (first
        | (refine wpList_store_row rfl 62 (.tmp 2) (.tmp 27) rfl w.heap.size #[.string (str8 n1), .int .i64 0, .bool true, .bool u1] rfl rfl 62 _ HB06.out Tryz.colInfo rfl hall ?_
           obtain ⟨Z, hZ, hZB, hZs, hZR, hZF⟩ := put_box (w := w) #[.string (str8 n1), .int .i64 0, .bool true, .bool u1] HB06.out (Nat.le_refl _) hgw HR6.out HF6.out
           rw [hZ]
           clear hZ)
        | fail)
      have kc := cells4 hZB
      exact bodyPost_ret (v := .agg #[.string (str8 n1), .int .i64 0, .bool true, .bool u1]) (by simp [results, Tryz.results90, go_sem, kc]) rfl ⟨_, rfl, rfl, hZR, hZF⟩
    | false =>
      rw [if_neg (by rw [hi]; exact Bool.false_ne_true)] at hnr
      subst hnr
      have HS : Hid (∀ V, RdAt F V g r4 → Calls Tryz.prog 56 #[.pointer (some ⟨g, 0, none⟩), .string ⟨#[78, 79, 84]⟩] V fun e w' => e = .returned (.bool false) ∧ RdAt F w' g r4 ∧ Fr g V w') := hid (fun V hV => skip_no F g r4 V hV [78, 79, 84] hi)
      clear hi
      go_enter Tryz.func90, Tryz.ntmps90
      go_wp2_with fail
      try rw [hW]
      clear hW
      refine (HN.out w0 HR0.out).mono ?_
      rintro e w1 ⟨rfl, hr1, hf1⟩
      have hz1 := hf1.size
      go_wp2_with fail
      obtain ⟨V1, hV1, hbV1, hzV1, hcV1⟩ := box8 w1 (.cells #[.string (str8 n1), .int .i64 0, .bool false, .bool false] 62)
      have hVs : V1.heap.size = w1.heap.size + 1 := by rw [← hV1]; simp
      have hC1 := HC.out V1 (hr1.below hbV1)
      rw [hVs] at hC1
      have HC1 := hid hC1
      have HFV1 := hid ((HF0.out.then hf1).thenNew hbV1)
      have HB01 := hid ((hbV1.block w.heap.size (by omega)).trans ((hf1.block w.heap.size hzW (by omega)).trans HCW.out))
      have HB11 := hid hcV1
      rw [hV1]
      clear hV1 hr1 hf1 hbV1 hcV1 hC1 HN HC hVs
      refine HC1.out.mono ?_
      rintro e w2 ⟨rfl, hr2, hf2⟩
      have hz2 := hf2.size
      have hB12 := (hf2.block w1.heap.size hzV1 (by omega)).trans HB11.out
      have k12 := cells4 hB12
      obtain ⟨V2, hV2, hcV2, hsV2⟩ := boxset hB12 1 (.int .i64 0)
      have hcV2 : V2.heap[w1.heap.size]? = some (.cells #[.string (str8 n1), .int .i64 0, .bool false, .bool false] 62) := hcV2
      have kV2 := cells4 hcV2
      have hzV2 := hsV2.size
      have HRV2 := hid (hr2.keeps hsV2 (fun i hi e => by omega))
      have HFV2 : Hid (Fr g w V2) := hid ((HFV1.out.then hf2).andThen hsV2 (fun i hi => .inr (by omega)))
      have HB0V2 := hid ((hsV2.block w.heap.size (by omega) (by omega)).trans ((hf2.block w.heap.size (by omega) (by omega)).trans HB01.out))
      have HB1V2 := hid hcV2
      clear hr2 hf2 hB12 hcV2 hsV2 HC1
      go_wp2_with fail
      refine (HX.out V2 HRV2.out).mono ?_
      rintro e w3 ⟨rfl, hr3, hf3⟩
      have hz3 := hf3.size
      have HR3 := hid hr3
      have HF3 := hid (HFV2.out.then hf3)
      have HB03 := hid ((hf3.block w.heap.size (by omega) (by omega)).trans HB0V2.out)
      have HB13 := hid ((hf3.block w1.heap.size (by omega) (by omega)).trans HB1V2.out)
      clear hr3 hf3 HX kV2
      clear hV2 k12
      go_wp2_with fail
      refine (HS.out w3 HR3.out).mono ?_
      rintro e w4 ⟨rfl, hr4, hf4⟩
      have hz4 := hf4.size
      have HR4 := hid hr4
      have HF4 := hid (HF3.out.then hf4)
      have HB04 := hid ((hf4.block w.heap.size (by omega) (by omega)).trans HB03.out)
      have HB14 := hid ((hf4.block w1.heap.size (by omega) (by omega)).trans HB13.out)
      clear hr4 hf4 HS
      obtain ⟨V5, hw5⟩ : ∃ x, x = w4 := ⟨_, rfl⟩
      subst hw5
      have hzV5 := Nat.le_refl V5.heap.size
      have HR5 := HR4
      have HF5 := HF4
      have HB05 := HB04
      have HB15 := HB14
      go_wp2_with fail
      refine (HU.out V5 HR5.out).mono ?_
      rintro e w6 ⟨rfl, hr6, hf6⟩
      have hz6 := hf6.size
      have hB16 := (hf6.block w1.heap.size (by omega) (by omega)).trans HB15.out
      have k16 := cells4 hB16
      obtain ⟨V6, hV6, hcV6, hsV6⟩ := boxset hB16 3 (.bool u1)
      have hcV6 : V6.heap[w1.heap.size]? = some (.cells #[.string (str8 n1), .int .i64 0, .bool false, .bool u1] 62) := hcV6
      have hzV6 := hsV6.size
      have HR6 := hid (hr6.keeps hsV6 (fun i hi e => by omega))
      have HF6 : Hid (Fr g w V6) := hid ((HF5.out.then hf6).andThen hsV6 (fun i hi => .inr (by omega)))
      have HB06 := hid ((hsV6.block w.heap.size (by omega) (by omega)).trans ((hf6.block w.heap.size (by omega) (by omega)).trans HB05.out))
      have kV6 := cells4 hcV6
      have hall : (#[.string (str8 n1), .int .i64 0, .bool false, .bool u1] : Array Value).all (·.oneCell') = true := by simp [Value.oneCell']
      clear hr6 hf6 hB16 hcV6 hsV6 HU
      go_wp2_with (first
        | (refine wpList_store_row rfl 62 (.tmp 2) (.tmp 27) rfl w.heap.size #[.string (str8 n1), .int .i64 0, .bool false, .bool u1] rfl rfl 62 _ HB06.out Tryz.colInfo rfl hall ?_
           obtain ⟨Z, hZ, hZB, hZs, hZR, hZF⟩ := put_box (w := w) #[.string (str8 n1), .int .i64 0, .bool false, .bool u1] HB06.out (Nat.le_refl _) hgw HR6.out HF6.out
           rw [hZ]
           clear hZ)
        | fail)
      have kc := cells4 hZB
      exact bodyPost_ret (v := .agg #[.string (str8 n1), .int .i64 0, .bool false, .bool u1]) (by simp [results, Tryz.results90, go_sem, kc]) rfl ⟨_, rfl, rfl, hZR, hZF⟩
  · rw [if_neg h0] at hkr
    have h0' : (k1 == 0) = false := by simpa using h0
    subst hkr
    clear h0
    cases hi : isR [78, 79, 84] r3 with
    | true =>
      rw [if_pos hi] at hnr
      have HS : Hid (∀ V, RdAt F V g r3 → Calls Tryz.prog 56 #[.pointer (some ⟨g, 0, none⟩), .string ⟨#[78, 79, 84]⟩] V fun e w' => e = .returned (.bool true) ∧ RdAt F w' g (nextR r3) ∧ Fr g V w') := hid (fun V hV => skip_yes F g r3 V hV [78, 79, 84] hi)
      have HM : Hid (∀ V, RdAt F V g (nextR r3) → Calls Tryz.prog 50 #[.pointer (some ⟨g, 0, none⟩), .slice (some ⟨V.heap.size, 0, none⟩) 1 1] (V.alloc (.cells #[.string ⟨#[78, 85, 76, 76]⟩] 9)) fun e w' => e = .returned (.tuple #[]) ∧ RdAt F w' g (mustsP [[78, 85, 76, 76]] (nextR r3)).2 ∧ Fr g V w') := hid (fun V hV => must_new F g (nextR r3) [[78, 85, 76, 76]] (by decide) V hV)
      rw [← hnr] at HM
      clear hi hnr
      go_enter Tryz.func90, Tryz.ntmps90
      go_wp2_with fail
      try rw [hW]
      clear hW
      refine (HN.out w0 HR0.out).mono ?_
      rintro e w1 ⟨rfl, hr1, hf1⟩
      have hz1 := hf1.size
      go_wp2_with fail
      obtain ⟨V1, hV1, hbV1, hzV1, hcV1⟩ := box8 w1 (.cells #[.string (str8 n1), .int .i64 0, .bool false, .bool false] 62)
      have hVs : V1.heap.size = w1.heap.size + 1 := by rw [← hV1]; simp
      have hC1 := HC.out V1 (hr1.below hbV1)
      rw [hVs] at hC1
      have HC1 := hid hC1
      have HFV1 := hid ((HF0.out.then hf1).thenNew hbV1)
      have HB01 := hid ((hbV1.block w.heap.size (by omega)).trans ((hf1.block w.heap.size hzW (by omega)).trans HCW.out))
      have HB11 := hid hcV1
      rw [hV1]
      clear hV1 hr1 hf1 hbV1 hcV1 hC1 HN HC hVs
      refine HC1.out.mono ?_
      rintro e w2 ⟨rfl, hr2, hf2⟩
      have hz2 := hf2.size
      have hB12 := (hf2.block w1.heap.size hzV1 (by omega)).trans HB11.out
      have k12 := cells4 hB12
      obtain ⟨V2, hV2, hcV2, hsV2⟩ := boxset hB12 1 (.int .i64 k1)
      have hcV2 : V2.heap[w1.heap.size]? = some (.cells #[.string (str8 n1), .int .i64 k1, .bool false, .bool false] 62) := hcV2
      have kV2 := cells4 hcV2
      have hzV2 := hsV2.size
      have HRV2 := hid (hr2.keeps hsV2 (fun i hi e => by omega))
      have HFV2 : Hid (Fr g w V2) := hid ((HFV1.out.then hf2).andThen hsV2 (fun i hi => .inr (by omega)))
      have HB0V2 := hid ((hsV2.block w.heap.size (by omega) (by omega)).trans ((hf2.block w.heap.size (by omega) (by omega)).trans HB01.out))
      have HB1V2 := hid hcV2
      clear hr2 hf2 hB12 hcV2 hsV2 HC1
      obtain ⟨w3, hw3⟩ : ∃ x, x = V2 := ⟨_, rfl⟩
      subst hw3
      have hz3 := Nat.le_refl w3.heap.size
      have HR3 := HRV2
      have HF3 := HFV2
      have HB03 := HB0V2
      have HB13 := HB1V2
      go_wp2_with fail
      refine (HS.out w3 HR3.out).mono ?_
      rintro e w4 ⟨rfl, hr4, hf4⟩
      have hz4 := hf4.size
      have HR4 := hid hr4
      have HF4 := hid (HF3.out.then hf4)
      have HB04 := hid ((hf4.block w.heap.size (by omega) (by omega)).trans HB03.out)
      have HB14 := hid ((hf4.block w1.heap.size (by omega) (by omega)).trans HB13.out)
      clear hr4 hf4 HS
      clear hV2 k12 kV2
      go_wp2_with fail
      refine (HM.out w4 HR4.out).mono ?_
      rintro e w5 ⟨rfl, hr5, hf5⟩
      have hz5 := hf5.size
      have hB15 := (hf5.block w1.heap.size (by omega) (by omega)).trans HB14.out
      have k15 := cells4 hB15
      obtain ⟨V5, hV5, hcV5, hsV5⟩ := boxset hB15 2 (.bool true)
      have hcV5 : V5.heap[w1.heap.size]? = some (.cells #[.string (str8 n1), .int .i64 k1, .bool true, .bool false] 62) := hcV5
      have hzV5 := hsV5.size
      have HR5 := hid (hr5.keeps hsV5 (fun i hi e => by omega))
      have HF5 : Hid (Fr g w V5) := hid ((HF4.out.then hf5).andThen hsV5 (fun i hi => .inr (by omega)))
      have HB05 := hid ((hsV5.block w.heap.size (by omega) (by omega)).trans ((hf5.block w.heap.size (by omega) (by omega)).trans HB04.out))
      have HB15 := hid hcV5
      clear hr5 hf5 hB15 hcV5 hsV5 HM
      go_wp2_with fail
      refine (HU.out V5 HR5.out).mono ?_
      rintro e w6 ⟨rfl, hr6, hf6⟩
      have hz6 := hf6.size
      have hB16 := (hf6.block w1.heap.size (by omega) (by omega)).trans HB15.out
      have k16 := cells4 hB16
      obtain ⟨V6, hV6, hcV6, hsV6⟩ := boxset hB16 3 (.bool u1)
      have hcV6 : V6.heap[w1.heap.size]? = some (.cells #[.string (str8 n1), .int .i64 k1, .bool true, .bool u1] 62) := hcV6
      have hzV6 := hsV6.size
      have HR6 := hid (hr6.keeps hsV6 (fun i hi e => by omega))
      have HF6 : Hid (Fr g w V6) := hid ((HF5.out.then hf6).andThen hsV6 (fun i hi => .inr (by omega)))
      have HB06 := hid ((hsV6.block w.heap.size (by omega) (by omega)).trans ((hf6.block w.heap.size (by omega) (by omega)).trans HB05.out))
      have kV6 := cells4 hcV6
      have hall : (#[.string (str8 n1), .int .i64 k1, .bool true, .bool u1] : Array Value).all (·.oneCell') = true := by simp [Value.oneCell']
      clear hr6 hf6 hB16 hcV6 hsV6 HU
      go_wp2_with (first
        | (refine wpList_store_row rfl 62 (.tmp 2) (.tmp 27) rfl w.heap.size #[.string (str8 n1), .int .i64 k1, .bool true, .bool u1] rfl rfl 62 _ HB06.out Tryz.colInfo rfl hall ?_
           obtain ⟨Z, hZ, hZB, hZs, hZR, hZF⟩ := put_box (w := w) #[.string (str8 n1), .int .i64 k1, .bool true, .bool u1] HB06.out (Nat.le_refl _) hgw HR6.out HF6.out
           rw [hZ]
           clear hZ)
        | fail)
      have kc := cells4 hZB
      exact bodyPost_ret (v := .agg #[.string (str8 n1), .int .i64 k1, .bool true, .bool u1]) (by simp [results, Tryz.results90, go_sem, kc]) rfl ⟨_, rfl, rfl, hZR, hZF⟩
    | false =>
      rw [if_neg (by rw [hi]; exact Bool.false_ne_true)] at hnr
      subst hnr
      have HS : Hid (∀ V, RdAt F V g r4 → Calls Tryz.prog 56 #[.pointer (some ⟨g, 0, none⟩), .string ⟨#[78, 79, 84]⟩] V fun e w' => e = .returned (.bool false) ∧ RdAt F w' g r4 ∧ Fr g V w') := hid (fun V hV => skip_no F g r4 V hV [78, 79, 84] hi)
      clear hi
      go_enter Tryz.func90, Tryz.ntmps90
      go_wp2_with fail
      try rw [hW]
      clear hW
      refine (HN.out w0 HR0.out).mono ?_
      rintro e w1 ⟨rfl, hr1, hf1⟩
      have hz1 := hf1.size
      go_wp2_with fail
      obtain ⟨V1, hV1, hbV1, hzV1, hcV1⟩ := box8 w1 (.cells #[.string (str8 n1), .int .i64 0, .bool false, .bool false] 62)
      have hVs : V1.heap.size = w1.heap.size + 1 := by rw [← hV1]; simp
      have hC1 := HC.out V1 (hr1.below hbV1)
      rw [hVs] at hC1
      have HC1 := hid hC1
      have HFV1 := hid ((HF0.out.then hf1).thenNew hbV1)
      have HB01 := hid ((hbV1.block w.heap.size (by omega)).trans ((hf1.block w.heap.size hzW (by omega)).trans HCW.out))
      have HB11 := hid hcV1
      rw [hV1]
      clear hV1 hr1 hf1 hbV1 hcV1 hC1 HN HC hVs
      refine HC1.out.mono ?_
      rintro e w2 ⟨rfl, hr2, hf2⟩
      have hz2 := hf2.size
      have hB12 := (hf2.block w1.heap.size hzV1 (by omega)).trans HB11.out
      have k12 := cells4 hB12
      obtain ⟨V2, hV2, hcV2, hsV2⟩ := boxset hB12 1 (.int .i64 k1)
      have hcV2 : V2.heap[w1.heap.size]? = some (.cells #[.string (str8 n1), .int .i64 k1, .bool false, .bool false] 62) := hcV2
      have kV2 := cells4 hcV2
      have hzV2 := hsV2.size
      have HRV2 := hid (hr2.keeps hsV2 (fun i hi e => by omega))
      have HFV2 : Hid (Fr g w V2) := hid ((HFV1.out.then hf2).andThen hsV2 (fun i hi => .inr (by omega)))
      have HB0V2 := hid ((hsV2.block w.heap.size (by omega) (by omega)).trans ((hf2.block w.heap.size (by omega) (by omega)).trans HB01.out))
      have HB1V2 := hid hcV2
      clear hr2 hf2 hB12 hcV2 hsV2 HC1
      obtain ⟨w3, hw3⟩ : ∃ x, x = V2 := ⟨_, rfl⟩
      subst hw3
      have hz3 := Nat.le_refl w3.heap.size
      have HR3 := HRV2
      have HF3 := HFV2
      have HB03 := HB0V2
      have HB13 := HB1V2
      go_wp2_with fail
      refine (HS.out w3 HR3.out).mono ?_
      rintro e w4 ⟨rfl, hr4, hf4⟩
      have hz4 := hf4.size
      have HR4 := hid hr4
      have HF4 := hid (HF3.out.then hf4)
      have HB04 := hid ((hf4.block w.heap.size (by omega) (by omega)).trans HB03.out)
      have HB14 := hid ((hf4.block w1.heap.size (by omega) (by omega)).trans HB13.out)
      clear hr4 hf4 HS
      clear hV2 k12 kV2
      obtain ⟨V5, hw5⟩ : ∃ x, x = w4 := ⟨_, rfl⟩
      subst hw5
      have hzV5 := Nat.le_refl V5.heap.size
      have HR5 := HR4
      have HF5 := HF4
      have HB05 := HB04
      have HB15 := HB14
      go_wp2_with fail
      refine (HU.out V5 HR5.out).mono ?_
      rintro e w6 ⟨rfl, hr6, hf6⟩
      have hz6 := hf6.size
      have hB16 := (hf6.block w1.heap.size (by omega) (by omega)).trans HB15.out
      have k16 := cells4 hB16
      obtain ⟨V6, hV6, hcV6, hsV6⟩ := boxset hB16 3 (.bool u1)
      have hcV6 : V6.heap[w1.heap.size]? = some (.cells #[.string (str8 n1), .int .i64 k1, .bool false, .bool u1] 62) := hcV6
      have hzV6 := hsV6.size
      have HR6 := hid (hr6.keeps hsV6 (fun i hi e => by omega))
      have HF6 : Hid (Fr g w V6) := hid ((HF5.out.then hf6).andThen hsV6 (fun i hi => .inr (by omega)))
      have HB06 := hid ((hsV6.block w.heap.size (by omega) (by omega)).trans ((hf6.block w.heap.size (by omega) (by omega)).trans HB05.out))
      have kV6 := cells4 hcV6
      have hall : (#[.string (str8 n1), .int .i64 k1, .bool false, .bool u1] : Array Value).all (·.oneCell') = true := by simp [Value.oneCell']
      clear hr6 hf6 hB16 hcV6 hsV6 HU
      go_wp2_with (first
        | (refine wpList_store_row rfl 62 (.tmp 2) (.tmp 27) rfl w.heap.size #[.string (str8 n1), .int .i64 k1, .bool false, .bool u1] rfl rfl 62 _ HB06.out Tryz.colInfo rfl hall ?_
           obtain ⟨Z, hZ, hZB, hZs, hZR, hZF⟩ := put_box (w := w) #[.string (str8 n1), .int .i64 k1, .bool false, .bool u1] HB06.out (Nat.le_refl _) hgw HR6.out HF6.out
           rw [hZ]
           clear hZ)
        | fail)
      have kc := cells4 hZB
      exact bodyPost_ret (v := .agg #[.string (str8 n1), .int .i64 k1, .bool false, .bool u1]) (by simp [results, Tryz.results90, go_sem, kc]) rfl ⟨_, rfl, rfl, hZR, hZF⟩

end Go.Proofs.YtokfphfgcjbpkaaGreatDoor
