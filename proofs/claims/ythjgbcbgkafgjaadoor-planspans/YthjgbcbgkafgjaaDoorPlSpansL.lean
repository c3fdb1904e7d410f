/- PlanSpans is walked. -/
import Derived.Test.YthjgbcbgkafgjaaDoorPlOwn
import Derived.Test.YthjgbcbgkafgjaaDoorPlSmall
import Derived.Test.YthjgbcbgkafgjaaDoorPlDocE
import Derived.Test.YthjgbcbgkafgjaaDoorPlFew
namespace Go.Proofs.YthjgbcbgkafgjaaDoor
open Go.RowKit Go.Shelf
set_option linter.unusedVariables false
set_option linter.unusedSimpArgs false
set_option maxRecDepth 20000

set_option maxHeartbeats 4000000 in
theorem planSpans_law (S : Nat → Prop) (x : Ex) (v : Value) (col : Int) (w : World) (ht : TstAt w) (hr : RgE x) (hx : ExV S w x v) :
    Calls Tryd.prog 3 #[v, .int .i64 col] w fun e w' => e = .returned (.bool true) ∧ Below w.heap.size w w' := by
  have hV := hx
  obtain ⟨k, op, tb, nm, vk, vn, vs, ys, aa, nn, cc, rfl, rfl, ha⟩ := hx
  obtain ⟨W, hW, hbW, hzW, hcW⟩ := box8 w (.cells #[.int .i64 k, .int .i64 op, .string (str8 tb), .string (str8 nm), .int .i64 vk, .int .i64 vn, .string (str8 vs), .slice aa nn cc] 26)
  have HC := hid hcW
  have HX := hid (fun V (hb : Below w.heap.size w V) => hV.to (T := S) (R := fun _ => False) (Spares.of_new hb) (fun b hb _ => ⟨id, hb⟩))
  have HT := hid (ht.on hbW)
  have HB := hid hbW
  have HZ := hid hzW
  have HR := hid hr
  have HPS := hid (fun V (hT : TstAt V) (hb : Below w.heap.size w V) (hf : fewP 12 (.mk k op tb nm ⟨vk, vn, vs⟩ ys) = true) => pspan_any col 12 S _ _ V hT hr (hV.to (T := S) (R := fun _ => False) (Spares.of_new hb) (fun b hb _ => ⟨id, hb⟩)) hf)
  have HYS := hid (fun V (hb : Below w.heap.size w V) (hf : fewP 12 (.mk k op tb nm ⟨vk, vn, vs⟩ ys) = true) => yspan_any col 12 S _ _ V hr (hV.to (T := S) (R := fun _ => False) (Spares.of_new hb) (fun b hb _ => ⟨id, hb⟩)) hf)
  generalize spanD 12 (.mk k op tb nm ⟨vk, vn, vs⟩ ys) col = s at HPS HYS
  clear hbW hcW hzW ha hV hr
  go_enter Tryd.func3, Tryd.ntmps3
  go_wp2_with fail
  refine (small15_any W HT.out).mono ?_
  rintro e w1 ⟨rfl, hb1⟩
  have HB1 := hid hb1
  have c1 := cells8 ((hb1.block _ HZ.out).trans HC.out)
  clear hb1
  go_wp2_with fail
  refine (few15_any S 12 _ _ w1 (by decide) HR.out (HX.out w1 (HB.out.trans (HB1.out.mono HB.out.size)))).mono ?_
  rintro e w2 ⟨rfl, hb2⟩
  have HB2 := htr HB1 hb2
  clear hb2 c1
  cases hf : fewP 12 (.mk k op tb nm ⟨vk, vn, vs⟩ ys) with
  | false =>
    go_wp2_with fail
    go_ret
    exact ⟨rfl, HB.out.trans (HB2.out.mono HB.out.size)⟩
  | true =>
    have HF := hid hf
    clear hf
    go_wp2_with fail
    go_loopw [7] (fun i wr => ∃ j : Nat, j ≤ 2 ∧ i = .int .i64 (j : Int) ∧ Hid (Below W.heap.size W wr)) (fun i _ => 2 - (intOf i).toNat)
    case atStart => exact ⟨0, by omega, rfl, HB2⟩
    case round =>
      obtain ⟨j, hj, rfl, HBR⟩ := hrel
      by_cases hlt : j < 2
      · have hlt' : (j : Int) < 2 := by omega
        have c1 := cells8 ((HBR.out.block _ HZ.out).trans HC.out)
        have HBV := hid (HB.out.trans (HBR.out.mono HB.out.size))
        go_wp2_with fail
        refine (HPS.out wr (HT.out.below HBR.out HT.out.lt) HBV.out HF.out).mono ?_
        rintro e w3 ⟨fv, tv, rfl, hf3, ht3, hap3, hb3⟩
        clear c1
        obtain ⟨a3, c3, rfl⟩ := hf3.form
        obtain ⟨b3, d3, rfl⟩ := ht3.form
        go_wp2_with fail
        obtain ⟨X3, hX3, hbX, hzX, hcX⟩ := box8 w3 (.cells #[.slice a3 s.a.length c3, .slice b3 s.b.length d3, .bool s.en] 31)
        rw [hX3]
        clear hX3
        have hb3X := hb3.trans (hbX.mono hb3.size)
        have HC3 := hid ((hb3X.block _ (Nat.lt_of_lt_of_le HZ.out HBR.out.size)).trans ((HBR.out.block _ HZ.out).trans HC.out))
        have HLX := hid (Nat.lt_of_lt_of_le (Nat.lt_of_lt_of_le HZ.out HBR.out.size) hb3X.size)
        have HSN := hid (fun (V : World) (hb : Below X3.heap.size X3 V) => (show (fun V : World => (V.cell? ⟨w3.heap.size, 0, none⟩ = some (.slice a3 s.a.length c3) ∧ V.cell? ⟨w3.heap.size, 1, none⟩ = some (.slice b3 s.b.length d3) ∧ V.cell? ⟨w3.heap.size, 2, none⟩ = some (.bool s.en)) ∧ (V.cell? ⟨w.heap.size, 0, none⟩ = some (.int .i64 k) ∧ V.cell? ⟨w.heap.size, 1, none⟩ = some (.int .i64 op) ∧ V.cell? ⟨w.heap.size, 2, none⟩ = some (.string (str8 tb)) ∧ V.cell? ⟨w.heap.size, 3, none⟩ = some (.string (str8 nm)) ∧ V.cell? ⟨w.heap.size, 4, none⟩ = some (.int .i64 vk) ∧ V.cell? ⟨w.heap.size, 5, none⟩ = some (.int .i64 vn) ∧ V.cell? ⟨w.heap.size, 6, none⟩ = some (.string (str8 vs)) ∧ V.cell? ⟨w.heap.size, 7, none⟩ = some (.slice aa nn cc)) ∧ True) V from ⟨by
          have r := row3 hcX
          exact ⟨(hb.cell (p := ⟨w3.heap.size, 0, none⟩) hzX).trans r.1, (hb.cell (p := ⟨w3.heap.size, 1, none⟩) hzX).trans r.2.1, (hb.cell (p := ⟨w3.heap.size, 2, none⟩) hzX).trans r.2.2.1⟩, cells8 ((hb.block _ HLX.out).trans HC3.out), trivial⟩))
        have HF3 := hid (hf3.new hbX)
        have HT3 := hid (ht3.new hbX)
        have HAP := hid hap3
        have HBX := hid hb3X
        clear hf3 ht3 hap3 hb3 hbX hcX hzX hb3X
        have hd : Below X3.heap.size X3 X3.drew := (Below.refl _ X3).drew
        have hS3 := HSN.out _ hd
        refine last_region (fun V : World => (V.cell? ⟨w3.heap.size, 0, none⟩ = some (.slice a3 s.a.length c3) ∧ V.cell? ⟨w3.heap.size, 1, none⟩ = some (.slice b3 s.b.length d3) ∧ V.cell? ⟨w3.heap.size, 2, none⟩ = some (.bool s.en)) ∧ (V.cell? ⟨w.heap.size, 0, none⟩ = some (.int .i64 k) ∧ V.cell? ⟨w.heap.size, 1, none⟩ = some (.int .i64 op) ∧ V.cell? ⟨w.heap.size, 2, none⟩ = some (.string (str8 tb)) ∧ V.cell? ⟨w.heap.size, 3, none⟩ = some (.string (str8 nm)) ∧ V.cell? ⟨w.heap.size, 4, none⟩ = some (.int .i64 vk) ∧ V.cell? ⟨w.heap.size, 5, none⟩ = some (.int .i64 vn) ∧ V.cell? ⟨w.heap.size, 6, none⟩ = some (.string (str8 vs)) ∧ V.cell? ⟨w.heap.size, 7, none⟩ = some (.slice aa nn cc)) ∧ True) 5 (by kernel_rfl) ?_
        refine tkE (i := 0) rfl (by assumption) ?_
        refine tkE (i := 1) rfl (by assumption) ?_
        refine tkE (i := 2) rfl (by assumption) ?_
        refine takeE_callw (i := 3) #[.agg #[.int .i64 k, .int .i64 op, .string (str8 tb), .string (str8 nm), .int .i64 vk, .int .i64 vn, .string (str8 vs), .slice aa nn cc], .int .i64 col] (fun u w' => ∃ f1 t1, u = .agg #[f1, t1, .bool s.en] ∧ Says w' f1 s.a ∧ Says w' t1 s.b ∧ Below X3.heap.size X3 w') (by kernel_rfl) rfl (by rfl) rfl (by kernel_rfl) (enters_of Tryd.func11 (by kernel_rfl) rfl) ((HYS.out X3.drew ((HBV.out.trans (HBX.out.mono HBV.out.size)).drew) HF.out).mono fun e w' ⟨f1, t1, h1, h2, h3, h4⟩ => ⟨_, h1, f1, t1, rfl, h2, h3, hd.trans (h4.mono hd.size)⟩) ?_
        rintro u4 w4 ⟨f1, t1, rfl, hf4, ht4, hb4⟩
        have hS4 := HSN.out _ hb4
        have HB4 := hid hb4
        have HSM := hid (ysame_any (.slice a3 s.a.length c3) (.slice b3 s.b.length d3) f1 t1 s.en s.en s.a s.b s.a s.b w4 ((HF3.out.new hb4).says) ((HT3.out.new hb4).says) hf4 ht4)
        refine ⟨hS4, ?_⟩
        simp only [Act.put, List.getElem_toArray, List.getElem_cons_zero, List.getElem_cons_succ, List.setIfInBounds_toArray, List.set_cons_zero, List.set_cons_succ]
        clear hf4 ht4 hb4 hS3
        refine takeE_callw (i := 4) #[.agg #[.slice a3 s.a.length c3, .slice b3 s.b.length d3, .bool s.en], .agg #[f1, t1, .bool s.en]] (fun u w' => u = .bool true ∧ Below w4.heap.size w4 w') (by kernel_rfl) rfl (by rfl) rfl (by kernel_rfl) (enters_of Tryd.func10 (by kernel_rfl) rfl) (HSM.out.mono fun e w' ⟨h1, h2⟩ => ⟨_, h1, by simp, h2⟩) ?_
        rintro u5 w5 ⟨rfl, hb5⟩
        have HB5 := htr HB4 hb5
        have hS5 := HSN.out _ HB5.out
        refine ⟨hS5, ?_⟩
        simp only [Act.put, List.getElem_toArray, List.getElem_cons_zero, List.getElem_cons_succ, List.setIfInBounds_toArray, List.set_cons_zero, List.set_cons_succ]
        clear hS4 hb5 HSM
        refine takeE_value (i := 5) (by kernel_rfl) rfl rfl (v := .bool true) (by go_simp <;> with_reducible rfl) hS5 ?_
        simp only [Act.put, List.getElem_toArray, List.getElem_cons_zero, List.getElem_cons_succ, List.setIfInBounds_toArray, List.set_cons_zero, List.set_cons_succ]
        refine wpAnyE_done (by kernel_rfl) ?_ _
        show Only _ .normal _ _
        unfold Only
        have HOW := hid (own_span wr.heap.size w5 _ _ _ _ (Nat.le_trans HBX.out.size HB5.out.size) (HF3.out.new HB5.out) (HT3.out.new HB5.out) HAP.out)
        clear HSN HF3 HT3 HAP HC3
        go_wp2_with fail
        refine HOW.out.mono ?_
        clear HOW
        rintro e w6 ⟨rfl, hb6⟩
        have HB6 := hid (HBR.out.trans (((HBX.out.trans (HB5.out.mono HBX.out.size)).trans hb6).mono HBR.out.size))
        clear hb6 hS5
        go_wp2_with fail
        go_roundw
        case rel => exact ⟨j + 1, by omega, by go_num, HB6⟩
        case measure => simp [intOf]; omega
      · have hlt' : ¬ (j : Int) < 2 := by omega
        go_wp2_with fail
        go_ret
        exact ⟨rfl, HB.out.trans (HBR.out.mono HB.out.size)⟩

theorem planSpans_w (x : Ex) (v : Value) (col : Int) (w : World) (hx : ExV (fun b => b < w.heap.size) w x v) (hr : RgE x) (h1 : -9223372036854775808 ≤ col) (h2 : col ≤ 9223372036854775807) (ht : TstAt w) :
    Calls Tryd.prog 3 #[v, .int .i64 col] w fun e w' => e = .returned (.bool true) ∧ Below w.heap.size w w' :=
  planSpans_law (fun b => b < w.heap.size) x v col w ht hr hx
end Go.Proofs.YthjgbcbgkafgjaaDoor
