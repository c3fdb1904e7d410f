/- The document's own Span: walks (tools/pldoce.py). -/
import Derived.Test.YthjgbcbgkafgjaaDoorPlDocE0
namespace Go.Proofs.YthjgbcbgkafgjaaDoor
open Go.RowKit Go.Shelf
set_option linter.unusedVariables false
set_option linter.unusedSimpArgs false
set_option maxRecDepth 20000

theorem mir_five {op : Int} (h : op = 3 ∨ op = 5 ∨ op = 6 ∨ op = 7 ∨ op = 8) : mirP op = 3 ∨ mirP op = 5 ∨ mirP op = 6 ∨ mirP op = 7 ∨ mirP op = 8 := by
  rcases h with rfl | rfl | rfl | rfl | rfl <;> simp [mirP]

set_option maxHeartbeats 4000000 in
theorem yspan_and (op : Int) (tb nm : List UInt8) (vk vn : Int) (vs : List UInt8) (b off cc : Nat) (col : Int) (w : World)
    (k1 op1 : Int) (tb1 nm1 : List UInt8) (vk1 vn1 : Int) (vs1 : List UInt8) (aa1 : Option Addr) (nn1 cc1 : Nat) (k2 op2 : Int) (tb2 nm2 : List UInt8) (vk2 vn2 : Int) (vs2 : List UInt8) (aa2 : Option Addr) (nn2 cc2 : Nat)
    (h8a : At8 w b off k1 op1 tb1 nm1 vk1 vn1 vs1 (.slice aa1 nn1 cc1)) (h8b : At8 w b (off + 8) k2 op2 tb2 nm2 vk2 vn2 vs2 (.slice aa2 nn2 cc2)) (hcc : 2 ≤ cc) (hcm : cc ≤ maxLen) (ho : (op == 2) = true) (sa sb : Spn)
    (HA : ∀ V, Below w.heap.size w V → Calls Tryd.prog 11 #[.agg #[.int .i64 k1, .int .i64 op1, .string (str8 tb1), .string (str8 nm1), .int .i64 vk1, .int .i64 vn1, .string (str8 vs1), .slice aa1 nn1 cc1], .int .i64 col] V (YP V sa)) (HBB : ∀ V, Below w.heap.size w V → Calls Tryd.prog 11 #[.agg #[.int .i64 k2, .int .i64 op2, .string (str8 tb2), .string (str8 nm2), .int .i64 vk2, .int .i64 vn2, .string (str8 vs2), .slice aa2 nn2 cc2], .int .i64 col] V (YP V sb)) :
    Calls Tryd.prog 11 #[.agg #[.int .i64 3, .int .i64 op, .string (str8 tb), .string (str8 nm), .int .i64 vk, .int .i64 vn, .string (str8 vs), .slice (some ⟨b, off, none⟩) 2 cc], .int .i64 col] w (YP w (meetP sa sb)) := by
  obtain ⟨z0, z1, hbW, hzW⟩ := alloc2 w (.cells #[.int .i64 3, .int .i64 op, .string (str8 tb), .string (str8 nm), .int .i64 vk, .int .i64 vn, .string (str8 vs), .slice (some ⟨b, off, none⟩) 2 cc] 26) (.cells #[.slice none 0 0, .slice none 0 0, .bool false] 31)
  obtain ⟨W, hW⟩ : ∃ W, (w.alloc (.cells #[.int .i64 3, .int .i64 op, .string (str8 tb), .string (str8 nm), .int .i64 vk, .int .i64 vn, .string (str8 vs), .slice (some ⟨b, off, none⟩) 2 cc] 26)).alloc (.cells #[.slice none 0 0, .slice none 0 0, .bool false] 31) = W := ⟨_, rfl⟩
  rw [hW] at z0 z1 hbW hzW
  have y0 := (cells8 z0).1
  have y1 := (cells8 z0).2.1
  have y7 := (cells8 z0).2.2.2.2.2.2.2
  have HZ := hid z1
  have HB := hid hbW
  have HL := hid (show w.heap.size + 1 < W.heap.size from by omega)
  have H8A := hid (h8a.on hbW)
  have H8B := hid (h8b.on hbW)
  have hcm' : cc ≤ 9223372036854775807 := hcm
  have Y1 := hid y1
  have Y7 := hid y7
  have HSN := hid (fun (V : World) (hb : Below W.heap.size W V) => (show (fun V : World => V.cell? ⟨w.heap.size, 1, none⟩ = some (.int .i64 op) ∧ V.cell? ⟨w.heap.size, 7, none⟩ = some (.slice (some ⟨b, off, none⟩) 2 cc) ∧ (V.cell? ⟨b, off, none⟩ = some (.int .i64 k1) ∧ V.cell? ⟨b, off + 1, none⟩ = some (.int .i64 op1) ∧ V.cell? ⟨b, off + 2, none⟩ = some (.string (str8 tb1)) ∧ V.cell? ⟨b, off + 3, none⟩ = some (.string (str8 nm1)) ∧ V.cell? ⟨b, off + 4, none⟩ = some (.int .i64 vk1) ∧ V.cell? ⟨b, off + 5, none⟩ = some (.int .i64 vn1) ∧ V.cell? ⟨b, off + 6, none⟩ = some (.string (str8 vs1)) ∧ V.cell? ⟨b, off + 7, none⟩ = some (.slice aa1 nn1 cc1)) ∧ (V.cell? ⟨b, off + 8, none⟩ = some (.int .i64 k2) ∧ V.cell? ⟨b, off + 8 + 1, none⟩ = some (.int .i64 op2) ∧ V.cell? ⟨b, off + 8 + 2, none⟩ = some (.string (str8 tb2)) ∧ V.cell? ⟨b, off + 8 + 3, none⟩ = some (.string (str8 nm2)) ∧ V.cell? ⟨b, off + 8 + 4, none⟩ = some (.int .i64 vk2) ∧ V.cell? ⟨b, off + 8 + 5, none⟩ = some (.int .i64 vn2) ∧ V.cell? ⟨b, off + 8 + 6, none⟩ = some (.string (str8 vs2)) ∧ V.cell? ⟨b, off + 8 + 7, none⟩ = some (.slice aa2 nn2 cc2))) V from ⟨(hb.cell (p := ⟨w.heap.size, 1, none⟩) (by have := HL.out; show w.heap.size < _; omega)).trans Y1.out, (hb.cell (p := ⟨w.heap.size, 7, none⟩) (by have := HL.out; show w.heap.size < _; omega)).trans Y7.out, H8A.out.on hb, H8B.out.on hb⟩))
  have hS0 := HSN.out W (Below.refl _ W)
  clear z0 z1 hbW hzW h8a h8b y1 y7
  have hd : Below W.heap.size W W.drew := (Below.refl _ W).drew
  have hS2 := HSN.out _ hd
  have HA1 := HA W.drew (HB.out.drew)
  have HB1 := hid (fun (V : World) (hb : Below W.heap.size W V) => HBB V (HB.out.trans (hb.mono HB.out.size)))
  clear HA HBB
  go_enter Tryd.func11, Tryd.ntmps11
  go_wp2_with fail
  clear hS0 y0
  refine last_region (fun V : World => V.cell? ⟨w.heap.size, 1, none⟩ = some (.int .i64 op) ∧ V.cell? ⟨w.heap.size, 7, none⟩ = some (.slice (some ⟨b, off, none⟩) 2 cc) ∧ (V.cell? ⟨b, off, none⟩ = some (.int .i64 k1) ∧ V.cell? ⟨b, off + 1, none⟩ = some (.int .i64 op1) ∧ V.cell? ⟨b, off + 2, none⟩ = some (.string (str8 tb1)) ∧ V.cell? ⟨b, off + 3, none⟩ = some (.string (str8 nm1)) ∧ V.cell? ⟨b, off + 4, none⟩ = some (.int .i64 vk1) ∧ V.cell? ⟨b, off + 5, none⟩ = some (.int .i64 vn1) ∧ V.cell? ⟨b, off + 6, none⟩ = some (.string (str8 vs1)) ∧ V.cell? ⟨b, off + 7, none⟩ = some (.slice aa1 nn1 cc1)) ∧ (V.cell? ⟨b, off + 8, none⟩ = some (.int .i64 k2) ∧ V.cell? ⟨b, off + 8 + 1, none⟩ = some (.int .i64 op2) ∧ V.cell? ⟨b, off + 8 + 2, none⟩ = some (.string (str8 tb2)) ∧ V.cell? ⟨b, off + 8 + 3, none⟩ = some (.string (str8 nm2)) ∧ V.cell? ⟨b, off + 8 + 4, none⟩ = some (.int .i64 vk2) ∧ V.cell? ⟨b, off + 8 + 5, none⟩ = some (.int .i64 vn2) ∧ V.cell? ⟨b, off + 8 + 6, none⟩ = some (.string (str8 vs2)) ∧ V.cell? ⟨b, off + 8 + 7, none⟩ = some (.slice aa2 nn2 cc2))) 13 (by kernel_rfl) ?_
  refine tkE (i := 0) rfl (by assumption) ?_
  refine tkE (i := 1) rfl (by assumption) ?_
  refine tkE (i := 2) rfl (by assumption) ?_
  refine tkE (i := 3) rfl (by assumption) ?_
  refine tkE (i := 4) rfl (by assumption) ?_
  refine tkE (i := 6) rfl (by assumption) ?_
  refine tkE (i := 7) rfl (by assumption) ?_
  refine tkE (i := 8) rfl (by assumption) ?_
  refine tkE (i := 9) rfl (by assumption) ?_
  refine tkE (i := 10) rfl (by assumption) ?_
  refine takeE_callw (i := 5) #[.agg #[.int .i64 k1, .int .i64 op1, .string (str8 tb1), .string (str8 nm1), .int .i64 vk1, .int .i64 vn1, .string (str8 vs1), .slice aa1 nn1 cc1], .int .i64 col] (fun u w' => ∃ f1 t1, u = .agg #[f1, t1, .bool sa.en] ∧ Says w' f1 sa.a ∧ Says w' t1 sa.b ∧ Below W.heap.size W w') (by kernel_rfl) rfl (by rfl) rfl (by kernel_rfl) (enters_of Tryd.func11 (by kernel_rfl) rfl) (HA1.mono fun e w' ⟨f1, t1, h1, h2, h3, h4⟩ => ⟨_, h1, f1, t1, rfl, h2, h3, hd.trans (h4.mono hd.size)⟩) ?_
  rintro u3 w3 ⟨f1, t1, rfl, hf1, ht1, hb3⟩
  have hS3 := HSN.out _ hb3
  have HF1 := hid hf1
  have HT1 := hid ht1
  have HB3 := hid hb3
  refine ⟨hS3, ?_⟩
  simp only [Act.put, List.getElem_toArray, List.getElem_cons_zero, List.getElem_cons_succ, List.setIfInBounds_toArray, List.set_cons_zero, List.set_cons_succ]
  clear hf1 ht1 hb3
  refine takeE_callw (i := 11) #[.agg #[.int .i64 k2, .int .i64 op2, .string (str8 tb2), .string (str8 nm2), .int .i64 vk2, .int .i64 vn2, .string (str8 vs2), .slice aa2 nn2 cc2], .int .i64 col] (fun u w' => ∃ f1 t1, u = .agg #[f1, t1, .bool sb.en] ∧ Says w' f1 sb.a ∧ Says w' t1 sb.b ∧ Below w3.heap.size w3 w') (by kernel_rfl) rfl (by rfl) rfl (by kernel_rfl) (enters_of Tryd.func11 (by kernel_rfl) rfl) ((HB1.out w3 HB3.out).mono fun e w' ⟨f1, t1, h1, h2, h3, h4⟩ => ⟨_, h1, f1, t1, rfl, h2, h3, h4⟩) ?_
  rintro u4 w4 ⟨f2, t2, rfl, hf2, ht2, hb4⟩
  have HB4 := htr HB3 hb4
  have hS4 := HSN.out _ HB4.out
  have HM4 := hid (ymeet_any f1 t1 f2 t2 sa.en sb.en sa.a sa.b sb.a sb.b w4 (HF1.out.new hb4) (HT1.out.new hb4) hf2 ht2)
  refine ⟨hS4, ?_⟩
  simp only [Act.put, List.getElem_toArray, List.getElem_cons_zero, List.getElem_cons_succ, List.setIfInBounds_toArray, List.set_cons_zero, List.set_cons_succ]
  clear hf2 ht2 hb4 HF1 HT1
  refine takeE_callw (i := 12) #[.agg #[f1, t1, .bool sa.en], .agg #[f2, t2, .bool sb.en]] (fun u w' => ∃ ga na ca gb nb cb, u = .agg #[.slice ga na ca, .slice gb nb cb, .bool (meetP sa sb).en] ∧ Says w' (.slice ga na ca) (meetP sa sb).a ∧ Says w' (.slice gb nb cb) (meetP sa sb).b ∧ Below w4.heap.size w4 w') (by kernel_rfl) rfl (by rfl) rfl (by kernel_rfl) (enters_of Tryd.func15 (by kernel_rfl) rfl) (HM4.out.mono fun e w' ⟨f1, t1, h1, h2, h3, h4⟩ => ?_) ?_
  · obtain ⟨ga, na, ca, rfl⟩ := h2.form'
    obtain ⟨gb, nb, cb, rfl⟩ := h3.form'
    exact ⟨_, h1, _, _, _, _, _, _, rfl, h2, h3, h4⟩
  rintro u5 w5 ⟨ga, na, ca, gb, nb, cb, rfl, hf5, ht5, hb5⟩
  have HB5 := htr HB4 hb5
  have hS5 := HSN.out _ HB5.out
  have HF5 := hid hf5
  have HT5 := hid ht5
  have HZ5 := (HB5.out.block (w.heap.size + 1) HL.out).trans HZ.out
  have HBW := hid (HB.out.trans (HB5.out.mono HB.out.size))
  refine ⟨hS5, ?_⟩
  simp only [Act.put, List.getElem_toArray, List.getElem_cons_zero, List.getElem_cons_succ, List.setIfInBounds_toArray, List.set_cons_zero, List.set_cons_succ]
  clear hf5 ht5 hb5 hS2 hS3 hS4 HM4 HB1
  refine takeE_storerowC (i := 13) (by kernel_rfl) rfl rfl 31 (.tmp 4) (.tmp 34) rfl (w.heap.size + 1) #[.slice ga na ca, .slice gb nb cb, .bool (meetP sa sb).en] (by rfl) (by rfl) 31 _ HZ5 Tryd.infoSpan rfl (by simp [Value.oneCell']) (.inr rfl) ?_
  refine wpAnyE_done (by kernel_rfl) ?_ _
  show Only _ .normal _ _
  unfold Only
  have HZ4 := hid (setRow_heap w5 (w.heap.size + 1) _ #[.slice ga na ca, .slice gb nb cb, .bool (meetP sa sb).en] _ _ HZ5)
  have HE1 := hid (says_setRow HF5.out HZ5 #[.slice ga na ca, .slice gb nb cb, .bool (meetP sa sb).en])
  have HE2 := hid (says_setRow HT5.out HZ5 #[.slice ga na ca, .slice gb nb cb, .bool (meetP sa sb).en])
  have HE3 := hid (below_setRow HBW.out (Nat.le_succ w.heap.size) #[.slice ga na ca, .slice gb nb cb, .bool (meetP sa sb).en])
  generalize w5.setRow (w.heap.size + 1) #[.slice ga na ca, .slice gb nb cb, .bool (meetP sa sb).en] = Z at *
  go_wp2_with fail
  exact bodyPost_ret (v := .agg #[.slice ga na ca, .slice gb nb cb, .bool (meetP sa sb).en]) (results_cell_row (p := 4) (ty := 31) rfl _ _ (w.heap.size + 1) 31 _ (0, 0) _ rfl HZ4.out Tryd.underlying31 rfl Tryd.infoSpan) rfl ⟨_, _, rfl, HE1.out, HE2.out, HE3.out⟩


set_option maxHeartbeats 4000000 in
theorem yspan_no (op : Int) (tb nm : List UInt8) (vk vn : Int) (vs : List UInt8) (b off cc : Nat) (col : Int) (w : World)
    (k1 op1 : Int) (tb1 nm1 : List UInt8) (vk1 vn1 : Int) (vs1 : List UInt8) (aa1 : Option Addr) (nn1 cc1 : Nat) (k2 op2 : Int) (tb2 nm2 : List UInt8) (vk2 vn2 : Int) (vs2 : List UInt8) (aa2 : Option Addr) (nn2 cc2 : Nat)
    (h8a : At8 w b off k1 op1 tb1 nm1 vk1 vn1 vs1 (.slice aa1 nn1 cc1)) (h8b : At8 w b (off + 8) k2 op2 tb2 nm2 vk2 vn2 vs2 (.slice aa2 nn2 cc2)) (hcc : 2 ≤ cc) (hcm : cc ≤ maxLen) (ho : ¬ op = 2) (hno : op < 3 ∨ 8 < op ∨ op = 4) :
    Calls Tryd.prog 11 #[.agg #[.int .i64 3, .int .i64 op, .string (str8 tb), .string (str8 nm), .int .i64 vk, .int .i64 vn, .string (str8 vs), .slice (some ⟨b, off, none⟩) 2 cc], .int .i64 col] w (YP w allP) := by
  obtain ⟨z0, z1, hbW, hzW⟩ := alloc2 w (.cells #[.int .i64 3, .int .i64 op, .string (str8 tb), .string (str8 nm), .int .i64 vk, .int .i64 vn, .string (str8 vs), .slice (some ⟨b, off, none⟩) 2 cc] 26) (.cells #[.slice none 0 0, .slice none 0 0, .bool false] 31)
  obtain ⟨W, hW⟩ : ∃ W, (w.alloc (.cells #[.int .i64 3, .int .i64 op, .string (str8 tb), .string (str8 nm), .int .i64 vk, .int .i64 vn, .string (str8 vs), .slice (some ⟨b, off, none⟩) 2 cc] 26)).alloc (.cells #[.slice none 0 0, .slice none 0 0, .bool false] 31) = W := ⟨_, rfl⟩
  rw [hW] at z0 z1 hbW hzW
  have y0 := (cells8 z0).1
  have y1 := (cells8 z0).2.1
  have y7 := (cells8 z0).2.2.2.2.2.2.2
  have HZ := hid z1
  have HB := hid hbW
  have HL := hid (show w.heap.size + 1 < W.heap.size from by omega)
  have H8A := hid (h8a.on hbW)
  have H8B := hid (h8b.on hbW)
  have hcm' : cc ≤ 9223372036854775807 := hcm
  have Y1 := hid y1
  have Y7 := hid y7
  have HSN := hid (fun (V : World) (hb : Below W.heap.size W V) => (show (fun V : World => V.cell? ⟨w.heap.size, 1, none⟩ = some (.int .i64 op) ∧ V.cell? ⟨w.heap.size, 7, none⟩ = some (.slice (some ⟨b, off, none⟩) 2 cc) ∧ (V.cell? ⟨b, off, none⟩ = some (.int .i64 k1) ∧ V.cell? ⟨b, off + 1, none⟩ = some (.int .i64 op1) ∧ V.cell? ⟨b, off + 2, none⟩ = some (.string (str8 tb1)) ∧ V.cell? ⟨b, off + 3, none⟩ = some (.string (str8 nm1)) ∧ V.cell? ⟨b, off + 4, none⟩ = some (.int .i64 vk1) ∧ V.cell? ⟨b, off + 5, none⟩ = some (.int .i64 vn1) ∧ V.cell? ⟨b, off + 6, none⟩ = some (.string (str8 vs1)) ∧ V.cell? ⟨b, off + 7, none⟩ = some (.slice aa1 nn1 cc1)) ∧ (V.cell? ⟨b, off + 8, none⟩ = some (.int .i64 k2) ∧ V.cell? ⟨b, off + 8 + 1, none⟩ = some (.int .i64 op2) ∧ V.cell? ⟨b, off + 8 + 2, none⟩ = some (.string (str8 tb2)) ∧ V.cell? ⟨b, off + 8 + 3, none⟩ = some (.string (str8 nm2)) ∧ V.cell? ⟨b, off + 8 + 4, none⟩ = some (.int .i64 vk2) ∧ V.cell? ⟨b, off + 8 + 5, none⟩ = some (.int .i64 vn2) ∧ V.cell? ⟨b, off + 8 + 6, none⟩ = some (.string (str8 vs2)) ∧ V.cell? ⟨b, off + 8 + 7, none⟩ = some (.slice aa2 nn2 cc2))) V from ⟨(hb.cell (p := ⟨w.heap.size, 1, none⟩) (by have := HL.out; show w.heap.size < _; omega)).trans Y1.out, (hb.cell (p := ⟨w.heap.size, 7, none⟩) (by have := HL.out; show w.heap.size < _; omega)).trans Y7.out, H8A.out.on hb, H8B.out.on hb⟩))
  have hS0 := HSN.out W (Below.refl _ W)
  clear z0 z1 hbW hzW h8a h8b y1 y7
  obtain ⟨m0, m1, m2, m3, m4, m5⟩ := row3 HZ.out
  go_enter Tryd.func11, Tryd.ntmps11
  rcases hno with h | h | h
  · have d1 : decide (op < 3) = true := decide_eq_true h
    go_wp2_with fail
    exact bodyPost_ret (v := .agg #[.slice none 0 0, .slice none 0 0, .bool false]) (results_cell_row (p := 4) (ty := 31) rfl _ _ (w.heap.size + 1) 31 _ (0, 0) _ rfl (set3 HZ.out _ _ _) Tryd.underlying31 rfl Tryd.infoSpan) rfl ⟨_, _, rfl, says_nil _, says_nil _, below3 HB.out (by omega) _ _ _⟩
  · have d1 : decide (op < 3) = false := decide_eq_false (by omega)
    have d2 : decide (8 < op) = true := decide_eq_true h
    go_wp2_with fail
    exact bodyPost_ret (v := .agg #[.slice none 0 0, .slice none 0 0, .bool false]) (results_cell_row (p := 4) (ty := 31) rfl _ _ (w.heap.size + 1) 31 _ (0, 0) _ rfl (set3 HZ.out _ _ _) Tryd.underlying31 rfl Tryd.infoSpan) rfl ⟨_, _, rfl, says_nil _, says_nil _, below3 HB.out (by omega) _ _ _⟩
  · subst h
    go_wp2_with fail
    exact bodyPost_ret (v := .agg #[.slice none 0 0, .slice none 0 0, .bool false]) (results_cell_row (p := 4) (ty := 31) rfl _ _ (w.heap.size + 1) 31 _ (0, 0) _ rfl (set3 HZ.out _ _ _) Tryd.underlying31 rfl Tryd.infoSpan) rfl ⟨_, _, rfl, says_nil _, says_nil _, below3 HB.out (by omega) _ _ _⟩


set_option maxHeartbeats 4000000 in
theorem yspan_left (op : Int) (tb nm : List UInt8) (vk vn : Int) (vs : List UInt8) (b off cc : Nat) (col : Int) (w : World)
    (k1 op1 : Int) (tb1 nm1 : List UInt8) (vk1 vn1 : Int) (vs1 : List UInt8) (aa1 : Option Addr) (nn1 cc1 : Nat) (k2 op2 : Int) (tb2 nm2 : List UInt8) (vk2 vn2 : Int) (vs2 : List UInt8) (aa2 : Option Addr) (nn2 cc2 : Nat)
    (h8a : At8 w b off k1 op1 tb1 nm1 vk1 vn1 vs1 (.slice aa1 nn1 cc1)) (h8b : At8 w b (off + 8) k2 op2 tb2 nm2 vk2 vn2 vs2 (.slice aa2 nn2 cc2)) (hcc : 2 ≤ cc) (hcm : cc ≤ maxLen) (ho : ¬ op = 2) (hop : op = 3 ∨ op = 5 ∨ op = 6 ∨ op = 7 ∨ op = 8) (ys1 ys2 : List Ex) (hl1 : vs1.length ≤ 9223372036854775807) (hl2 : vs2.length ≤ 9223372036854775807) (q r : Bool) (hp : isCol (.mk k1 op1 tb1 nm1 ⟨vk1, vn1, vs1⟩ ys1) col = true) (hq : isCol (.mk k2 op2 tb2 nm2 ⟨vk2, vn2, vs2⟩ ys2) col = q) (hr : isVal (.mk k1 op1 tb1 nm1 ⟨vk1, vn1, vs1⟩ ys1) = r) (hs : isVal (.mk k2 op2 tb2 nm2 ⟨vk2, vn2, vs2⟩ ys2) = true) (hn2 : -9223372036854775808 ≤ vn2 ∧ vn2 ≤ 9223372036854775807) (hr2 : rightV ⟨vk2, vn2, vs2⟩ = 0) :
    Calls Tryd.prog 11 #[.agg #[.int .i64 3, .int .i64 op, .string (str8 tb), .string (str8 nm), .int .i64 vk, .int .i64 vn, .string (str8 vs), .slice (some ⟨b, off, none⟩) 2 cc], .int .i64 col] w (YP w (testP op ⟨vk2, vn2, vs2⟩)) := by
  obtain ⟨z0, z1, hbW, hzW⟩ := alloc2 w (.cells #[.int .i64 3, .int .i64 op, .string (str8 tb), .string (str8 nm), .int .i64 vk, .int .i64 vn, .string (str8 vs), .slice (some ⟨b, off, none⟩) 2 cc] 26) (.cells #[.slice none 0 0, .slice none 0 0, .bool false] 31)
  obtain ⟨W, hW⟩ : ∃ W, (w.alloc (.cells #[.int .i64 3, .int .i64 op, .string (str8 tb), .string (str8 nm), .int .i64 vk, .int .i64 vn, .string (str8 vs), .slice (some ⟨b, off, none⟩) 2 cc] 26)).alloc (.cells #[.slice none 0 0, .slice none 0 0, .bool false] 31) = W := ⟨_, rfl⟩
  rw [hW] at z0 z1 hbW hzW
  have y0 := (cells8 z0).1
  have y1 := (cells8 z0).2.1
  have y7 := (cells8 z0).2.2.2.2.2.2.2
  have HZ := hid z1
  have HB := hid hbW
  have HL := hid (show w.heap.size + 1 < W.heap.size from by omega)
  have H8A := hid (h8a.on hbW)
  have H8B := hid (h8b.on hbW)
  have hcm' : cc ≤ 9223372036854775807 := hcm
  have Y1 := hid y1
  have Y7 := hid y7
  have HSN := hid (fun (V : World) (hb : Below W.heap.size W V) => (show (fun V : World => V.cell? ⟨w.heap.size, 1, none⟩ = some (.int .i64 op) ∧ V.cell? ⟨w.heap.size, 7, none⟩ = some (.slice (some ⟨b, off, none⟩) 2 cc) ∧ (V.cell? ⟨b, off, none⟩ = some (.int .i64 k1) ∧ V.cell? ⟨b, off + 1, none⟩ = some (.int .i64 op1) ∧ V.cell? ⟨b, off + 2, none⟩ = some (.string (str8 tb1)) ∧ V.cell? ⟨b, off + 3, none⟩ = some (.string (str8 nm1)) ∧ V.cell? ⟨b, off + 4, none⟩ = some (.int .i64 vk1) ∧ V.cell? ⟨b, off + 5, none⟩ = some (.int .i64 vn1) ∧ V.cell? ⟨b, off + 6, none⟩ = some (.string (str8 vs1)) ∧ V.cell? ⟨b, off + 7, none⟩ = some (.slice aa1 nn1 cc1)) ∧ (V.cell? ⟨b, off + 8, none⟩ = some (.int .i64 k2) ∧ V.cell? ⟨b, off + 8 + 1, none⟩ = some (.int .i64 op2) ∧ V.cell? ⟨b, off + 8 + 2, none⟩ = some (.string (str8 tb2)) ∧ V.cell? ⟨b, off + 8 + 3, none⟩ = some (.string (str8 nm2)) ∧ V.cell? ⟨b, off + 8 + 4, none⟩ = some (.int .i64 vk2) ∧ V.cell? ⟨b, off + 8 + 5, none⟩ = some (.int .i64 vn2) ∧ V.cell? ⟨b, off + 8 + 6, none⟩ = some (.string (str8 vs2)) ∧ V.cell? ⟨b, off + 8 + 7, none⟩ = some (.slice aa2 nn2 cc2))) V from ⟨(hb.cell (p := ⟨w.heap.size, 1, none⟩) (by have := HL.out; show w.heap.size < _; omega)).trans Y1.out, (hb.cell (p := ⟨w.heap.size, 7, none⟩) (by have := HL.out; show w.heap.size < _; omega)).trans Y7.out, H8A.out.on hb, H8B.out.on hb⟩))
  have hS0 := HSN.out W (Below.refl _ W)
  clear z0 z1 hbW hzW h8a h8b y1 y7
  have HC1 := yis_any k1 op1 tb1 nm1 vk1 vn1 vs1 ys1 aa1 nn1 cc1 col W
  have HHC2 := hid (fun V => yis_any k2 op2 tb2 nm2 vk2 vn2 vs2 ys2 aa2 nn2 cc2 col V)
  have HHV1 := hid (fun V => yliteral_any k1 op1 tb1 nm1 vk1 vn1 vs1 ys1 aa1 nn1 cc1 V hl1)
  have HHV2 := hid (fun V => yliteral_any k2 op2 tb2 nm2 vk2 vn2 vs2 ys2 aa2 nn2 cc2 V hl2)
  rw [hp] at HC1
  rw [hq] at HHC2
  rw [hr] at HHV1
  rw [hs] at HHV2
  have d1 : decide (op < 3) = false := decide_eq_false (by omega)
  have d2 : decide (8 < op) = false := decide_eq_false (by omega)
  have d3 : decide (op = 4) = false := decide_eq_false (by omega)
  go_enter Tryd.func11, Tryd.ntmps11
  go_wp2_with (first
      | (go_at_call 27; refine HC1.mono ?_; clear HC1; rintro e w1 ⟨rfl, hb1⟩
         have HB1 := hid hb1
         have hS1 := HSN.out w1 HB1.out
         have HC2 := HHC2.out w1
         clear hb1 hS0)
      | (go_at_call 27; refine HC2.mono ?_; clear HC2; rintro e w2 ⟨rfl, hb2⟩
         have HB2 := htr HB1 hb2
         have hS2 := HSN.out w2 HB2.out
         have HV1 := HHV1.out w2
         clear hb2 hS1)
      | (go_at_call 28; refine HV1.mono ?_; clear HV1; rintro e w3 ⟨rfl, hb3⟩
         have HB3 := htr HB2 hb3
         have hS3 := HSN.out w3 HB3.out
         have HV2 := HHV2.out w3
         clear hb3 hS2)
      | (go_at_call 28; refine HV2.mono ?_; clear HV2; rintro e w4 ⟨rfl, hb4⟩
         have HB4 := htr HB3 hb4
         have hS4 := HSN.out w4 HB4.out
         clear hb4 hS3))
  have hd : Below W.heap.size W w4.drew := HB4.out.drew
  have hS5 := HSN.out _ hd
  have HX := ytest_any op vk2 vn2 vs2 w4.drew hn2.1 hn2.2 hl2 hr2 (by exact hop)
  clear hS4
  refine last_region (fun V : World => V.cell? ⟨w.heap.size, 1, none⟩ = some (.int .i64 op) ∧ V.cell? ⟨w.heap.size, 7, none⟩ = some (.slice (some ⟨b, off, none⟩) 2 cc) ∧ (V.cell? ⟨b, off, none⟩ = some (.int .i64 k1) ∧ V.cell? ⟨b, off + 1, none⟩ = some (.int .i64 op1) ∧ V.cell? ⟨b, off + 2, none⟩ = some (.string (str8 tb1)) ∧ V.cell? ⟨b, off + 3, none⟩ = some (.string (str8 nm1)) ∧ V.cell? ⟨b, off + 4, none⟩ = some (.int .i64 vk1) ∧ V.cell? ⟨b, off + 5, none⟩ = some (.int .i64 vn1) ∧ V.cell? ⟨b, off + 6, none⟩ = some (.string (str8 vs1)) ∧ V.cell? ⟨b, off + 7, none⟩ = some (.slice aa1 nn1 cc1)) ∧ (V.cell? ⟨b, off + 8, none⟩ = some (.int .i64 k2) ∧ V.cell? ⟨b, off + 8 + 1, none⟩ = some (.int .i64 op2) ∧ V.cell? ⟨b, off + 8 + 2, none⟩ = some (.string (str8 tb2)) ∧ V.cell? ⟨b, off + 8 + 3, none⟩ = some (.string (str8 nm2)) ∧ V.cell? ⟨b, off + 8 + 4, none⟩ = some (.int .i64 vk2) ∧ V.cell? ⟨b, off + 8 + 5, none⟩ = some (.int .i64 vn2) ∧ V.cell? ⟨b, off + 8 + 6, none⟩ = some (.string (str8 vs2)) ∧ V.cell? ⟨b, off + 8 + 7, none⟩ = some (.slice aa2 nn2 cc2))) 8 (by kernel_rfl) ?_
  refine tkE (i := 0) rfl (by assumption) ?_
  refine tkE (i := 1) rfl (by assumption) ?_
  refine tkE (i := 2) rfl (by assumption) ?_
  refine tkE (i := 3) rfl (by assumption) ?_
  refine tkE (i := 4) rfl (by assumption) ?_
  refine tkE (i := 5) rfl (by assumption) ?_
  refine tkE (i := 6) rfl (by assumption) ?_
  refine takeE_callw (i := 7) #[.int .i64 op, .agg #[.int .i64 vk2, .int .i64 vn2, .string (str8 vs2)]] (fun u w' => ∃ ga na ca gb nb cb, u = .agg #[.slice ga na ca, .slice gb nb cb, .bool (testP op ⟨vk2, vn2, vs2⟩).en] ∧ Says w' (.slice ga na ca) (testP op ⟨vk2, vn2, vs2⟩).a ∧ Says w' (.slice gb nb cb) (testP op ⟨vk2, vn2, vs2⟩).b ∧ Below w4.drew.heap.size w4.drew w') (by kernel_rfl) rfl (by rfl) rfl (by kernel_rfl) (enters_of Tryd.func29 (by kernel_rfl) rfl) (HX.mono fun e w' ⟨f1, t1, h1, h2, h3, h4⟩ => ?_) ?_
  · obtain ⟨ga, na, ca, rfl⟩ := h2.form'
    obtain ⟨gb, nb, cb, rfl⟩ := h3.form'
    exact ⟨_, h1, _, _, _, _, _, _, rfl, h2, h3, h4⟩
  rintro u5 w5 ⟨ga, na, ca, gb, nb, cb, rfl, hf5, ht5, hb5⟩
  have HB5 := hid (hd.trans (hb5.mono hd.size))
  have hS6 := HSN.out _ HB5.out
  have HF5 := hid hf5
  have HT5 := hid ht5
  have HZ5 := (HB5.out.block (w.heap.size + 1) HL.out).trans HZ.out
  have HBW := hid (HB.out.trans (HB5.out.mono HB.out.size))
  refine ⟨hS6, ?_⟩
  simp only [Act.put, List.getElem_toArray, List.getElem_cons_zero, List.getElem_cons_succ, List.setIfInBounds_toArray, List.set_cons_zero, List.set_cons_succ]
  clear hf5 ht5 hb5 hS5 HX
  refine takeE_storerowC (i := 8) (by kernel_rfl) rfl rfl 31 (.tmp 4) (.tmp 82) rfl (w.heap.size + 1) #[.slice ga na ca, .slice gb nb cb, .bool (testP op ⟨vk2, vn2, vs2⟩).en] (by rfl) (by rfl) 31 _ HZ5 Tryd.infoSpan rfl (by simp [Value.oneCell']) (.inr rfl) ?_
  refine wpAnyE_done (by kernel_rfl) ?_ _
  show Only _ .normal _ _
  unfold Only
  have HZ4 := hid (setRow_heap w5 (w.heap.size + 1) _ #[.slice ga na ca, .slice gb nb cb, .bool (testP op ⟨vk2, vn2, vs2⟩).en] _ _ HZ5)
  have HE1 := hid (says_setRow HF5.out HZ5 #[.slice ga na ca, .slice gb nb cb, .bool (testP op ⟨vk2, vn2, vs2⟩).en])
  have HE2 := hid (says_setRow HT5.out HZ5 #[.slice ga na ca, .slice gb nb cb, .bool (testP op ⟨vk2, vn2, vs2⟩).en])
  have HE3 := hid (below_setRow HBW.out (Nat.le_succ w.heap.size) #[.slice ga na ca, .slice gb nb cb, .bool (testP op ⟨vk2, vn2, vs2⟩).en])
  generalize w5.setRow (w.heap.size + 1) #[.slice ga na ca, .slice gb nb cb, .bool (testP op ⟨vk2, vn2, vs2⟩).en] = Z at *
  go_wp2_with fail
  exact bodyPost_ret (v := .agg #[.slice ga na ca, .slice gb nb cb, .bool (testP op ⟨vk2, vn2, vs2⟩).en]) (results_cell_row (p := 4) (ty := 31) rfl _ _ (w.heap.size + 1) 31 _ (0, 0) _ rfl HZ4.out Tryd.underlying31 rfl Tryd.infoSpan) rfl ⟨_, _, rfl, HE1.out, HE2.out, HE3.out⟩


set_option maxHeartbeats 4000000 in
theorem yspan_right0 (op : Int) (tb nm : List UInt8) (vk vn : Int) (vs : List UInt8) (b off cc : Nat) (col : Int) (w : World)
    (k1 op1 : Int) (tb1 nm1 : List UInt8) (vk1 vn1 : Int) (vs1 : List UInt8) (aa1 : Option Addr) (nn1 cc1 : Nat) (k2 op2 : Int) (tb2 nm2 : List UInt8) (vk2 vn2 : Int) (vs2 : List UInt8) (aa2 : Option Addr) (nn2 cc2 : Nat)
    (h8a : At8 w b off k1 op1 tb1 nm1 vk1 vn1 vs1 (.slice aa1 nn1 cc1)) (h8b : At8 w b (off + 8) k2 op2 tb2 nm2 vk2 vn2 vs2 (.slice aa2 nn2 cc2)) (hcc : 2 ≤ cc) (hcm : cc ≤ maxLen) (ho : ¬ op = 2) (hop : op = 3 ∨ op = 5 ∨ op = 6 ∨ op = 7 ∨ op = 8) (ys1 ys2 : List Ex) (hl1 : vs1.length ≤ 9223372036854775807) (hl2 : vs2.length ≤ 9223372036854775807) (s : Bool) (hp : isCol (.mk k1 op1 tb1 nm1 ⟨vk1, vn1, vs1⟩ ys1) col = false) (hq : isCol (.mk k2 op2 tb2 nm2 ⟨vk2, vn2, vs2⟩ ys2) col = true) (hr : isVal (.mk k1 op1 tb1 nm1 ⟨vk1, vn1, vs1⟩ ys1) = true) (hs : isVal (.mk k2 op2 tb2 nm2 ⟨vk2, vn2, vs2⟩ ys2) = s) (hn1 : -9223372036854775808 ≤ vn1 ∧ vn1 ≤ 9223372036854775807) (hr1 : rightV ⟨vk1, vn1, vs1⟩ = 0) :
    Calls Tryd.prog 11 #[.agg #[.int .i64 3, .int .i64 op, .string (str8 tb), .string (str8 nm), .int .i64 vk, .int .i64 vn, .string (str8 vs), .slice (some ⟨b, off, none⟩) 2 cc], .int .i64 col] w (YP w (testP (mirP op) ⟨vk1, vn1, vs1⟩)) := by
  obtain ⟨z0, z1, hbW, hzW⟩ := alloc2 w (.cells #[.int .i64 3, .int .i64 op, .string (str8 tb), .string (str8 nm), .int .i64 vk, .int .i64 vn, .string (str8 vs), .slice (some ⟨b, off, none⟩) 2 cc] 26) (.cells #[.slice none 0 0, .slice none 0 0, .bool false] 31)
  obtain ⟨W, hW⟩ : ∃ W, (w.alloc (.cells #[.int .i64 3, .int .i64 op, .string (str8 tb), .string (str8 nm), .int .i64 vk, .int .i64 vn, .string (str8 vs), .slice (some ⟨b, off, none⟩) 2 cc] 26)).alloc (.cells #[.slice none 0 0, .slice none 0 0, .bool false] 31) = W := ⟨_, rfl⟩
  rw [hW] at z0 z1 hbW hzW
  have y0 := (cells8 z0).1
  have y1 := (cells8 z0).2.1
  have y7 := (cells8 z0).2.2.2.2.2.2.2
  have HZ := hid z1
  have HB := hid hbW
  have HL := hid (show w.heap.size + 1 < W.heap.size from by omega)
  have H8A := hid (h8a.on hbW)
  have H8B := hid (h8b.on hbW)
  have hcm' : cc ≤ 9223372036854775807 := hcm
  have Y1 := hid y1
  have Y7 := hid y7
  have HSN := hid (fun (V : World) (hb : Below W.heap.size W V) => (show (fun V : World => V.cell? ⟨w.heap.size, 1, none⟩ = some (.int .i64 op) ∧ V.cell? ⟨w.heap.size, 7, none⟩ = some (.slice (some ⟨b, off, none⟩) 2 cc) ∧ (V.cell? ⟨b, off, none⟩ = some (.int .i64 k1) ∧ V.cell? ⟨b, off + 1, none⟩ = some (.int .i64 op1) ∧ V.cell? ⟨b, off + 2, none⟩ = some (.string (str8 tb1)) ∧ V.cell? ⟨b, off + 3, none⟩ = some (.string (str8 nm1)) ∧ V.cell? ⟨b, off + 4, none⟩ = some (.int .i64 vk1) ∧ V.cell? ⟨b, off + 5, none⟩ = some (.int .i64 vn1) ∧ V.cell? ⟨b, off + 6, none⟩ = some (.string (str8 vs1)) ∧ V.cell? ⟨b, off + 7, none⟩ = some (.slice aa1 nn1 cc1)) ∧ (V.cell? ⟨b, off + 8, none⟩ = some (.int .i64 k2) ∧ V.cell? ⟨b, off + 8 + 1, none⟩ = some (.int .i64 op2) ∧ V.cell? ⟨b, off + 8 + 2, none⟩ = some (.string (str8 tb2)) ∧ V.cell? ⟨b, off + 8 + 3, none⟩ = some (.string (str8 nm2)) ∧ V.cell? ⟨b, off + 8 + 4, none⟩ = some (.int .i64 vk2) ∧ V.cell? ⟨b, off + 8 + 5, none⟩ = some (.int .i64 vn2) ∧ V.cell? ⟨b, off + 8 + 6, none⟩ = some (.string (str8 vs2)) ∧ V.cell? ⟨b, off + 8 + 7, none⟩ = some (.slice aa2 nn2 cc2))) V from ⟨(hb.cell (p := ⟨w.heap.size, 1, none⟩) (by have := HL.out; show w.heap.size < _; omega)).trans Y1.out, (hb.cell (p := ⟨w.heap.size, 7, none⟩) (by have := HL.out; show w.heap.size < _; omega)).trans Y7.out, H8A.out.on hb, H8B.out.on hb⟩))
  have hS0 := HSN.out W (Below.refl _ W)
  clear z0 z1 hbW hzW h8a h8b y1 y7
  have HC1 := yis_any k1 op1 tb1 nm1 vk1 vn1 vs1 ys1 aa1 nn1 cc1 col W
  have HHC2 := hid (fun V => yis_any k2 op2 tb2 nm2 vk2 vn2 vs2 ys2 aa2 nn2 cc2 col V)
  have HHV1 := hid (fun V => yliteral_any k1 op1 tb1 nm1 vk1 vn1 vs1 ys1 aa1 nn1 cc1 V hl1)
  have HHV2 := hid (fun V => yliteral_any k2 op2 tb2 nm2 vk2 vn2 vs2 ys2 aa2 nn2 cc2 V hl2)
  rw [hp] at HC1
  rw [hq] at HHC2
  rw [hr] at HHV1
  rw [hs] at HHV2
  have d1 : decide (op < 3) = false := decide_eq_false (by omega)
  have d2 : decide (8 < op) = false := decide_eq_false (by omega)
  have d3 : decide (op = 4) = false := decide_eq_false (by omega)
  go_enter Tryd.func11, Tryd.ntmps11
  go_wp2_with (first
      | (go_at_call 27; refine HC1.mono ?_; clear HC1; rintro e w1 ⟨rfl, hb1⟩
         have HB1 := hid hb1
         have hS1 := HSN.out w1 HB1.out
         have HC2 := HHC2.out w1
         clear hb1 hS0)
      | (go_at_call 27; refine HC2.mono ?_; clear HC2; rintro e w2 ⟨rfl, hb2⟩
         have HB2 := htr HB1 hb2
         have hS2 := HSN.out w2 HB2.out
         have HV1 := HHV1.out w2
         clear hb2 hS1)
      | (go_at_call 28; refine HV1.mono ?_; clear HV1; rintro e w3 ⟨rfl, hb3⟩
         have HB3 := htr HB2 hb3
         have hS3 := HSN.out w3 HB3.out
         have HV2 := HHV2.out w3
         clear hb3 hS2)
      | (go_at_call 28; refine HV2.mono ?_; clear HV2; rintro e w4 ⟨rfl, hb4⟩
         have HB4 := htr HB3 hb4
         have hS4 := HSN.out w4 HB4.out
         clear hb4 hS3))
  have hd : Below W.heap.size W w4.drew := HB4.out.drew
  have hS5 := HSN.out _ hd
  have HX := ytest_any (mirP op) vk1 vn1 vs1 w4.drew hn1.1 hn1.2 hl1 hr1 (by exact mir_five hop)
  clear hS4
  refine last_region (fun V : World => V.cell? ⟨w.heap.size, 1, none⟩ = some (.int .i64 op) ∧ V.cell? ⟨w.heap.size, 7, none⟩ = some (.slice (some ⟨b, off, none⟩) 2 cc) ∧ (V.cell? ⟨b, off, none⟩ = some (.int .i64 k1) ∧ V.cell? ⟨b, off + 1, none⟩ = some (.int .i64 op1) ∧ V.cell? ⟨b, off + 2, none⟩ = some (.string (str8 tb1)) ∧ V.cell? ⟨b, off + 3, none⟩ = some (.string (str8 nm1)) ∧ V.cell? ⟨b, off + 4, none⟩ = some (.int .i64 vk1) ∧ V.cell? ⟨b, off + 5, none⟩ = some (.int .i64 vn1) ∧ V.cell? ⟨b, off + 6, none⟩ = some (.string (str8 vs1)) ∧ V.cell? ⟨b, off + 7, none⟩ = some (.slice aa1 nn1 cc1)) ∧ (V.cell? ⟨b, off + 8, none⟩ = some (.int .i64 k2) ∧ V.cell? ⟨b, off + 8 + 1, none⟩ = some (.int .i64 op2) ∧ V.cell? ⟨b, off + 8 + 2, none⟩ = some (.string (str8 tb2)) ∧ V.cell? ⟨b, off + 8 + 3, none⟩ = some (.string (str8 nm2)) ∧ V.cell? ⟨b, off + 8 + 4, none⟩ = some (.int .i64 vk2) ∧ V.cell? ⟨b, off + 8 + 5, none⟩ = some (.int .i64 vn2) ∧ V.cell? ⟨b, off + 8 + 6, none⟩ = some (.string (str8 vs2)) ∧ V.cell? ⟨b, off + 8 + 7, none⟩ = some (.slice aa2 nn2 cc2))) 9 (by kernel_rfl) ?_
  refine tkE (i := 0) rfl (by assumption) ?_
  refine tkE (i := 1) rfl (by assumption) ?_
  refine tkE (i := 3) rfl (by assumption) ?_
  refine tkE (i := 4) rfl (by assumption) ?_
  refine tkE (i := 5) rfl (by assumption) ?_
  refine tkE (i := 6) rfl (by assumption) ?_
  refine tkE (i := 7) rfl (by assumption) ?_
  refine takeE_callw (i := 2) #[.int .i64 op] (fun u w' => u = .int .i64 (mirP op) ∧ w' = w4.drew) (by kernel_rfl) rfl (by rfl) rfl (by kernel_rfl) (enters_of Tryd.func30 (by kernel_rfl) rfl) ((ymirror_any op w4.drew).mono fun e w' ⟨h1, h2⟩ => ⟨_, h1, rfl, h2⟩) ?_
  rintro u7 w7 ⟨rfl, hw7⟩
  subst hw7
  refine ⟨hS5, ?_⟩
  simp only [Act.put, List.getElem_toArray, List.getElem_cons_zero, List.getElem_cons_succ, List.setIfInBounds_toArray, List.set_cons_zero, List.set_cons_succ]
  refine takeE_callw (i := 8) #[.int .i64 (mirP op), .agg #[.int .i64 vk1, .int .i64 vn1, .string (str8 vs1)]] (fun u w' => ∃ ga na ca gb nb cb, u = .agg #[.slice ga na ca, .slice gb nb cb, .bool (testP (mirP op) ⟨vk1, vn1, vs1⟩).en] ∧ Says w' (.slice ga na ca) (testP (mirP op) ⟨vk1, vn1, vs1⟩).a ∧ Says w' (.slice gb nb cb) (testP (mirP op) ⟨vk1, vn1, vs1⟩).b ∧ Below w4.drew.heap.size w4.drew w') (by kernel_rfl) rfl (by rfl) rfl (by kernel_rfl) (enters_of Tryd.func29 (by kernel_rfl) rfl) (HX.mono fun e w' ⟨f1, t1, h1, h2, h3, h4⟩ => ?_) ?_
  · obtain ⟨ga, na, ca, rfl⟩ := h2.form'
    obtain ⟨gb, nb, cb, rfl⟩ := h3.form'
    exact ⟨_, h1, _, _, _, _, _, _, rfl, h2, h3, h4⟩
  rintro u5 w5 ⟨ga, na, ca, gb, nb, cb, rfl, hf5, ht5, hb5⟩
  have HB5 := hid (hd.trans (hb5.mono hd.size))
  have hS6 := HSN.out _ HB5.out
  have HF5 := hid hf5
  have HT5 := hid ht5
  have HZ5 := (HB5.out.block (w.heap.size + 1) HL.out).trans HZ.out
  have HBW := hid (HB.out.trans (HB5.out.mono HB.out.size))
  refine ⟨hS6, ?_⟩
  simp only [Act.put, List.getElem_toArray, List.getElem_cons_zero, List.getElem_cons_succ, List.setIfInBounds_toArray, List.set_cons_zero, List.set_cons_succ]
  clear hf5 ht5 hb5 hS5 HX
  refine takeE_storerowC (i := 9) (by kernel_rfl) rfl rfl 31 (.tmp 4) (.tmp 95) rfl (w.heap.size + 1) #[.slice ga na ca, .slice gb nb cb, .bool (testP (mirP op) ⟨vk1, vn1, vs1⟩).en] (by rfl) (by rfl) 31 _ HZ5 Tryd.infoSpan rfl (by simp [Value.oneCell']) (.inr rfl) ?_
  refine wpAnyE_done (by kernel_rfl) ?_ _
  show Only _ .normal _ _
  unfold Only
  have HZ4 := hid (setRow_heap w5 (w.heap.size + 1) _ #[.slice ga na ca, .slice gb nb cb, .bool (testP (mirP op) ⟨vk1, vn1, vs1⟩).en] _ _ HZ5)
  have HE1 := hid (says_setRow HF5.out HZ5 #[.slice ga na ca, .slice gb nb cb, .bool (testP (mirP op) ⟨vk1, vn1, vs1⟩).en])
  have HE2 := hid (says_setRow HT5.out HZ5 #[.slice ga na ca, .slice gb nb cb, .bool (testP (mirP op) ⟨vk1, vn1, vs1⟩).en])
  have HE3 := hid (below_setRow HBW.out (Nat.le_succ w.heap.size) #[.slice ga na ca, .slice gb nb cb, .bool (testP (mirP op) ⟨vk1, vn1, vs1⟩).en])
  generalize w5.setRow (w.heap.size + 1) #[.slice ga na ca, .slice gb nb cb, .bool (testP (mirP op) ⟨vk1, vn1, vs1⟩).en] = Z at *
  go_wp2_with fail
  exact bodyPost_ret (v := .agg #[.slice ga na ca, .slice gb nb cb, .bool (testP (mirP op) ⟨vk1, vn1, vs1⟩).en]) (results_cell_row (p := 4) (ty := 31) rfl _ _ (w.heap.size + 1) 31 _ (0, 0) _ rfl HZ4.out Tryd.underlying31 rfl Tryd.infoSpan) rfl ⟨_, _, rfl, HE1.out, HE2.out, HE3.out⟩


set_option maxHeartbeats 4000000 in
theorem yspan_right1 (op : Int) (tb nm : List UInt8) (vk vn : Int) (vs : List UInt8) (b off cc : Nat) (col : Int) (w : World)
    (k1 op1 : Int) (tb1 nm1 : List UInt8) (vk1 vn1 : Int) (vs1 : List UInt8) (aa1 : Option Addr) (nn1 cc1 : Nat) (k2 op2 : Int) (tb2 nm2 : List UInt8) (vk2 vn2 : Int) (vs2 : List UInt8) (aa2 : Option Addr) (nn2 cc2 : Nat)
    (h8a : At8 w b off k1 op1 tb1 nm1 vk1 vn1 vs1 (.slice aa1 nn1 cc1)) (h8b : At8 w b (off + 8) k2 op2 tb2 nm2 vk2 vn2 vs2 (.slice aa2 nn2 cc2)) (hcc : 2 ≤ cc) (hcm : cc ≤ maxLen) (ho : ¬ op = 2) (hop : op = 3 ∨ op = 5 ∨ op = 6 ∨ op = 7 ∨ op = 8) (ys1 ys2 : List Ex) (hl1 : vs1.length ≤ 9223372036854775807) (hl2 : vs2.length ≤ 9223372036854775807) (hp : isCol (.mk k1 op1 tb1 nm1 ⟨vk1, vn1, vs1⟩ ys1) col = true) (hq : isCol (.mk k2 op2 tb2 nm2 ⟨vk2, vn2, vs2⟩ ys2) col = true) (hr : isVal (.mk k1 op1 tb1 nm1 ⟨vk1, vn1, vs1⟩ ys1) = true) (hs : isVal (.mk k2 op2 tb2 nm2 ⟨vk2, vn2, vs2⟩ ys2) = false) (hn1 : -9223372036854775808 ≤ vn1 ∧ vn1 ≤ 9223372036854775807) (hr1 : rightV ⟨vk1, vn1, vs1⟩ = 0) :
    Calls Tryd.prog 11 #[.agg #[.int .i64 3, .int .i64 op, .string (str8 tb), .string (str8 nm), .int .i64 vk, .int .i64 vn, .string (str8 vs), .slice (some ⟨b, off, none⟩) 2 cc], .int .i64 col] w (YP w (testP (mirP op) ⟨vk1, vn1, vs1⟩)) := by
  obtain ⟨z0, z1, hbW, hzW⟩ := alloc2 w (.cells #[.int .i64 3, .int .i64 op, .string (str8 tb), .string (str8 nm), .int .i64 vk, .int .i64 vn, .string (str8 vs), .slice (some ⟨b, off, none⟩) 2 cc] 26) (.cells #[.slice none 0 0, .slice none 0 0, .bool false] 31)
  obtain ⟨W, hW⟩ : ∃ W, (w.alloc (.cells #[.int .i64 3, .int .i64 op, .string (str8 tb), .string (str8 nm), .int .i64 vk, .int .i64 vn, .string (str8 vs), .slice (some ⟨b, off, none⟩) 2 cc] 26)).alloc (.cells #[.slice none 0 0, .slice none 0 0, .bool false] 31) = W := ⟨_, rfl⟩
  rw [hW] at z0 z1 hbW hzW
  have y0 := (cells8 z0).1
  have y1 := (cells8 z0).2.1
  have y7 := (cells8 z0).2.2.2.2.2.2.2
  have HZ := hid z1
  have HB := hid hbW
  have HL := hid (show w.heap.size + 1 < W.heap.size from by omega)
  have H8A := hid (h8a.on hbW)
  have H8B := hid (h8b.on hbW)
  have hcm' : cc ≤ 9223372036854775807 := hcm
  have Y1 := hid y1
  have Y7 := hid y7
  have HSN := hid (fun (V : World) (hb : Below W.heap.size W V) => (show (fun V : World => V.cell? ⟨w.heap.size, 1, none⟩ = some (.int .i64 op) ∧ V.cell? ⟨w.heap.size, 7, none⟩ = some (.slice (some ⟨b, off, none⟩) 2 cc) ∧ (V.cell? ⟨b, off, none⟩ = some (.int .i64 k1) ∧ V.cell? ⟨b, off + 1, none⟩ = some (.int .i64 op1) ∧ V.cell? ⟨b, off + 2, none⟩ = some (.string (str8 tb1)) ∧ V.cell? ⟨b, off + 3, none⟩ = some (.string (str8 nm1)) ∧ V.cell? ⟨b, off + 4, none⟩ = some (.int .i64 vk1) ∧ V.cell? ⟨b, off + 5, none⟩ = some (.int .i64 vn1) ∧ V.cell? ⟨b, off + 6, none⟩ = some (.string (str8 vs1)) ∧ V.cell? ⟨b, off + 7, none⟩ = some (.slice aa1 nn1 cc1)) ∧ (V.cell? ⟨b, off + 8, none⟩ = some (.int .i64 k2) ∧ V.cell? ⟨b, off + 8 + 1, none⟩ = some (.int .i64 op2) ∧ V.cell? ⟨b, off + 8 + 2, none⟩ = some (.string (str8 tb2)) ∧ V.cell? ⟨b, off + 8 + 3, none⟩ = some (.string (str8 nm2)) ∧ V.cell? ⟨b, off + 8 + 4, none⟩ = some (.int .i64 vk2) ∧ V.cell? ⟨b, off + 8 + 5, none⟩ = some (.int .i64 vn2) ∧ V.cell? ⟨b, off + 8 + 6, none⟩ = some (.string (str8 vs2)) ∧ V.cell? ⟨b, off + 8 + 7, none⟩ = some (.slice aa2 nn2 cc2))) V from ⟨(hb.cell (p := ⟨w.heap.size, 1, none⟩) (by have := HL.out; show w.heap.size < _; omega)).trans Y1.out, (hb.cell (p := ⟨w.heap.size, 7, none⟩) (by have := HL.out; show w.heap.size < _; omega)).trans Y7.out, H8A.out.on hb, H8B.out.on hb⟩))
  have hS0 := HSN.out W (Below.refl _ W)
  clear z0 z1 hbW hzW h8a h8b y1 y7
  have HC1 := yis_any k1 op1 tb1 nm1 vk1 vn1 vs1 ys1 aa1 nn1 cc1 col W
  have HHC2 := hid (fun V => yis_any k2 op2 tb2 nm2 vk2 vn2 vs2 ys2 aa2 nn2 cc2 col V)
  have HHV1 := hid (fun V => yliteral_any k1 op1 tb1 nm1 vk1 vn1 vs1 ys1 aa1 nn1 cc1 V hl1)
  have HHV2 := hid (fun V => yliteral_any k2 op2 tb2 nm2 vk2 vn2 vs2 ys2 aa2 nn2 cc2 V hl2)
  rw [hp] at HC1
  rw [hq] at HHC2
  rw [hr] at HHV1
  rw [hs] at HHV2
  have d1 : decide (op < 3) = false := decide_eq_false (by omega)
  have d2 : decide (8 < op) = false := decide_eq_false (by omega)
  have d3 : decide (op = 4) = false := decide_eq_false (by omega)
  go_enter Tryd.func11, Tryd.ntmps11
  go_wp2_with (first
      | (go_at_call 27; refine HC1.mono ?_; clear HC1; rintro e w1 ⟨rfl, hb1⟩
         have HB1 := hid hb1
         have hS1 := HSN.out w1 HB1.out
         have HC2 := HHC2.out w1
         clear hb1 hS0)
      | (go_at_call 27; refine HC2.mono ?_; clear HC2; rintro e w2 ⟨rfl, hb2⟩
         have HB2 := htr HB1 hb2
         have hS2 := HSN.out w2 HB2.out
         have HV1 := HHV1.out w2
         clear hb2 hS1)
      | (go_at_call 28; refine HV1.mono ?_; clear HV1; rintro e w3 ⟨rfl, hb3⟩
         have HB3 := htr HB2 hb3
         have hS3 := HSN.out w3 HB3.out
         have HV2 := HHV2.out w3
         clear hb3 hS2)
      | (go_at_call 28; refine HV2.mono ?_; clear HV2; rintro e w4 ⟨rfl, hb4⟩
         have HB4 := htr HB3 hb4
         have hS4 := HSN.out w4 HB4.out
         clear hb4 hS3))
  have hd : Below W.heap.size W w4.drew := HB4.out.drew
  have hS5 := HSN.out _ hd
  have HX := ytest_any (mirP op) vk1 vn1 vs1 w4.drew hn1.1 hn1.2 hl1 hr1 (by exact mir_five hop)
  clear hS4
  refine last_region (fun V : World => V.cell? ⟨w.heap.size, 1, none⟩ = some (.int .i64 op) ∧ V.cell? ⟨w.heap.size, 7, none⟩ = some (.slice (some ⟨b, off, none⟩) 2 cc) ∧ (V.cell? ⟨b, off, none⟩ = some (.int .i64 k1) ∧ V.cell? ⟨b, off + 1, none⟩ = some (.int .i64 op1) ∧ V.cell? ⟨b, off + 2, none⟩ = some (.string (str8 tb1)) ∧ V.cell? ⟨b, off + 3, none⟩ = some (.string (str8 nm1)) ∧ V.cell? ⟨b, off + 4, none⟩ = some (.int .i64 vk1) ∧ V.cell? ⟨b, off + 5, none⟩ = some (.int .i64 vn1) ∧ V.cell? ⟨b, off + 6, none⟩ = some (.string (str8 vs1)) ∧ V.cell? ⟨b, off + 7, none⟩ = some (.slice aa1 nn1 cc1)) ∧ (V.cell? ⟨b, off + 8, none⟩ = some (.int .i64 k2) ∧ V.cell? ⟨b, off + 8 + 1, none⟩ = some (.int .i64 op2) ∧ V.cell? ⟨b, off + 8 + 2, none⟩ = some (.string (str8 tb2)) ∧ V.cell? ⟨b, off + 8 + 3, none⟩ = some (.string (str8 nm2)) ∧ V.cell? ⟨b, off + 8 + 4, none⟩ = some (.int .i64 vk2) ∧ V.cell? ⟨b, off + 8 + 5, none⟩ = some (.int .i64 vn2) ∧ V.cell? ⟨b, off + 8 + 6, none⟩ = some (.string (str8 vs2)) ∧ V.cell? ⟨b, off + 8 + 7, none⟩ = some (.slice aa2 nn2 cc2))) 9 (by kernel_rfl) ?_
  refine tkE (i := 0) rfl (by assumption) ?_
  refine tkE (i := 1) rfl (by assumption) ?_
  refine tkE (i := 3) rfl (by assumption) ?_
  refine tkE (i := 4) rfl (by assumption) ?_
  refine tkE (i := 5) rfl (by assumption) ?_
  refine tkE (i := 6) rfl (by assumption) ?_
  refine tkE (i := 7) rfl (by assumption) ?_
  refine takeE_callw (i := 2) #[.int .i64 op] (fun u w' => u = .int .i64 (mirP op) ∧ w' = w4.drew) (by kernel_rfl) rfl (by rfl) rfl (by kernel_rfl) (enters_of Tryd.func30 (by kernel_rfl) rfl) ((ymirror_any op w4.drew).mono fun e w' ⟨h1, h2⟩ => ⟨_, h1, rfl, h2⟩) ?_
  rintro u7 w7 ⟨rfl, hw7⟩
  subst hw7
  refine ⟨hS5, ?_⟩
  simp only [Act.put, List.getElem_toArray, List.getElem_cons_zero, List.getElem_cons_succ, List.setIfInBounds_toArray, List.set_cons_zero, List.set_cons_succ]
  refine takeE_callw (i := 8) #[.int .i64 (mirP op), .agg #[.int .i64 vk1, .int .i64 vn1, .string (str8 vs1)]] (fun u w' => ∃ ga na ca gb nb cb, u = .agg #[.slice ga na ca, .slice gb nb cb, .bool (testP (mirP op) ⟨vk1, vn1, vs1⟩).en] ∧ Says w' (.slice ga na ca) (testP (mirP op) ⟨vk1, vn1, vs1⟩).a ∧ Says w' (.slice gb nb cb) (testP (mirP op) ⟨vk1, vn1, vs1⟩).b ∧ Below w4.drew.heap.size w4.drew w') (by kernel_rfl) rfl (by rfl) rfl (by kernel_rfl) (enters_of Tryd.func29 (by kernel_rfl) rfl) (HX.mono fun e w' ⟨f1, t1, h1, h2, h3, h4⟩ => ?_) ?_
  · obtain ⟨ga, na, ca, rfl⟩ := h2.form'
    obtain ⟨gb, nb, cb, rfl⟩ := h3.form'
    exact ⟨_, h1, _, _, _, _, _, _, rfl, h2, h3, h4⟩
  rintro u5 w5 ⟨ga, na, ca, gb, nb, cb, rfl, hf5, ht5, hb5⟩
  have HB5 := hid (hd.trans (hb5.mono hd.size))
  have hS6 := HSN.out _ HB5.out
  have HF5 := hid hf5
  have HT5 := hid ht5
  have HZ5 := (HB5.out.block (w.heap.size + 1) HL.out).trans HZ.out
  have HBW := hid (HB.out.trans (HB5.out.mono HB.out.size))
  refine ⟨hS6, ?_⟩
  simp only [Act.put, List.getElem_toArray, List.getElem_cons_zero, List.getElem_cons_succ, List.setIfInBounds_toArray, List.set_cons_zero, List.set_cons_succ]
  clear hf5 ht5 hb5 hS5 HX
  refine takeE_storerowC (i := 9) (by kernel_rfl) rfl rfl 31 (.tmp 4) (.tmp 95) rfl (w.heap.size + 1) #[.slice ga na ca, .slice gb nb cb, .bool (testP (mirP op) ⟨vk1, vn1, vs1⟩).en] (by rfl) (by rfl) 31 _ HZ5 Tryd.infoSpan rfl (by simp [Value.oneCell']) (.inr rfl) ?_
  refine wpAnyE_done (by kernel_rfl) ?_ _
  show Only _ .normal _ _
  unfold Only
  have HZ4 := hid (setRow_heap w5 (w.heap.size + 1) _ #[.slice ga na ca, .slice gb nb cb, .bool (testP (mirP op) ⟨vk1, vn1, vs1⟩).en] _ _ HZ5)
  have HE1 := hid (says_setRow HF5.out HZ5 #[.slice ga na ca, .slice gb nb cb, .bool (testP (mirP op) ⟨vk1, vn1, vs1⟩).en])
  have HE2 := hid (says_setRow HT5.out HZ5 #[.slice ga na ca, .slice gb nb cb, .bool (testP (mirP op) ⟨vk1, vn1, vs1⟩).en])
  have HE3 := hid (below_setRow HBW.out (Nat.le_succ w.heap.size) #[.slice ga na ca, .slice gb nb cb, .bool (testP (mirP op) ⟨vk1, vn1, vs1⟩).en])
  generalize w5.setRow (w.heap.size + 1) #[.slice ga na ca, .slice gb nb cb, .bool (testP (mirP op) ⟨vk1, vn1, vs1⟩).en] = Z at *
  go_wp2_with fail
  exact bodyPost_ret (v := .agg #[.slice ga na ca, .slice gb nb cb, .bool (testP (mirP op) ⟨vk1, vn1, vs1⟩).en]) (results_cell_row (p := 4) (ty := 31) rfl _ _ (w.heap.size + 1) 31 _ (0, 0) _ rfl HZ4.out Tryd.underlying31 rfl Tryd.infoSpan) rfl ⟨_, _, rfl, HE1.out, HE2.out, HE3.out⟩


end Go.Proofs.YthjgbcbgkafgjaaDoor
