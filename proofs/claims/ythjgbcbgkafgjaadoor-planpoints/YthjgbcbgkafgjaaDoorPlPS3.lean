/- The program's Span: walks (tools/plspan.py). -/
import Derived.Test.YthjgbcbgkafgjaaDoorPlPS0
import Derived.Deep.CutRange
namespace Go.Proofs.YthjgbcbgkafgjaaDoor
open Go.RowKit Go.Shelf
set_option linter.unusedVariables false
set_option linter.unusedSimpArgs false
set_option maxRecDepth 20000

set_option maxHeartbeats 4000000 in
theorem pspan_all00 (op : Int) (tb nm : List UInt8) (vk vn : Int) (vs : List UInt8) (b off cc : Nat) (col : Int) (w : World)
    (k1 op1 : Int) (tb1 nm1 : List UInt8) (vk1 vn1 : Int) (vs1 : List UInt8) (aa1 : Option Addr) (nn1 cc1 : Nat) (k2 op2 : Int) (tb2 nm2 : List UInt8) (vk2 vn2 : Int) (vs2 : List UInt8) (aa2 : Option Addr) (nn2 cc2 : Nat)
    (h8a : At8 w b off k1 op1 tb1 nm1 vk1 vn1 vs1 (.slice aa1 nn1 cc1)) (h8b : At8 w b (off + 8) k2 op2 tb2 nm2 vk2 vn2 vs2 (.slice aa2 nn2 cc2)) (hcc : 2 ≤ cc) (hcm : cc ≤ maxLen) (ht : TstAt w) (ho : ¬ op = 2) (ys1 ys2 : List Ex) (htst : isTst op = true) (hc1 : isCol (.mk k1 op1 tb1 nm1 ⟨vk1, vn1, vs1⟩ ys1) col = false) (hc2 : isCol (.mk k2 op2 tb2 nm2 ⟨vk2, vn2, vs2⟩ ys2) col = false) :
    Calls Tryd.prog 9 #[.agg #[.int .i64 3, .int .i64 op, .string (str8 tb), .string (str8 nm), .int .i64 vk, .int .i64 vn, .string (str8 vs), .slice (some ⟨b, off, none⟩) 2 cc], .int .i64 col] w (SpP w allP) := by
  obtain ⟨z0, z1, hbW, hzW⟩ := alloc2 w (.cells #[.int .i64 3, .int .i64 op, .string (str8 tb), .string (str8 nm), .int .i64 vk, .int .i64 vn, .string (str8 vs), .slice (some ⟨b, off, none⟩) 2 cc] 26) (.cells #[.slice none 0 0, .slice none 0 0, .bool false] 31)
  obtain ⟨W, hW⟩ : ∃ W, (w.alloc (.cells #[.int .i64 3, .int .i64 op, .string (str8 tb), .string (str8 nm), .int .i64 vk, .int .i64 vn, .string (str8 vs), .slice (some ⟨b, off, none⟩) 2 cc] 26)).alloc (.cells #[.slice none 0 0, .slice none 0 0, .bool false] 31) = W := ⟨_, rfl⟩
  rw [hW] at z0 z1 hbW hzW
  have HY := hid (cells8 z0)
  have y0 := HY.out.1
  have y1 := HY.out.2.1
  have y7 := HY.out.2.2.2.2.2.2.2
  have HZ0 := hid z0
  have HZ1 := hid z1
  have HB := hid hbW
  have HL := hid (show w.heap.size + 1 < W.heap.size from by omega)
  have H8A := hid (h8a.on hbW)
  have H8B := hid (h8b.on hbW)
  have HT := hid (ht.on hbW)
  have hcm' : cc ≤ 9223372036854775807 := hcm
  clear z0 z1 hbW hzW h8a h8b ht
  go_enter Tryd.func9, Tryd.ntmps9
  go_wp2_with fail
  go_cut [5, 6] from 17 to 24 (fun u5 u6 wx => ∃ p q : Nat, u5 = .pointer (some ⟨p, 0, none⟩) ∧ u6 = .pointer (some ⟨q, 0, none⟩) ∧ Hid (Mid W p q #[.int .i64 k1, .int .i64 op1, .string (str8 tb1), .string (str8 nm1), .int .i64 vk1, .int .i64 vn1, .string (str8 vs1), .slice aa1 nn1 cc1] #[.int .i64 k2, .int .i64 op2, .string (str8 tb2), .string (str8 nm2), .int .i64 vk2, .int .i64 vn2, .string (str8 vs2), .slice aa2 nn2 cc2] wx))
  case first =>
    have HSN := hid (fun (V : World) (hb : Below W.heap.size W V) => (show (fun V : World => V.cell? ⟨w.heap.size, 7, none⟩ = some (.slice (some ⟨b, off, none⟩) 2 cc) ∧ (V.cell? ⟨b, off, none⟩ = some (.int .i64 k1) ∧ V.cell? ⟨b, off + 1, none⟩ = some (.int .i64 op1) ∧ V.cell? ⟨b, off + 2, none⟩ = some (.string (str8 tb1)) ∧ V.cell? ⟨b, off + 3, none⟩ = some (.string (str8 nm1)) ∧ V.cell? ⟨b, off + 4, none⟩ = some (.int .i64 vk1) ∧ V.cell? ⟨b, off + 5, none⟩ = some (.int .i64 vn1) ∧ V.cell? ⟨b, off + 6, none⟩ = some (.string (str8 vs1)) ∧ V.cell? ⟨b, off + 7, none⟩ = some (.slice aa1 nn1 cc1)) ∧ (V.cell? ⟨b, off + 8, none⟩ = some (.int .i64 k2) ∧ V.cell? ⟨b, off + 8 + 1, none⟩ = some (.int .i64 op2) ∧ V.cell? ⟨b, off + 8 + 2, none⟩ = some (.string (str8 tb2)) ∧ V.cell? ⟨b, off + 8 + 3, none⟩ = some (.string (str8 nm2)) ∧ V.cell? ⟨b, off + 8 + 4, none⟩ = some (.int .i64 vk2) ∧ V.cell? ⟨b, off + 8 + 5, none⟩ = some (.int .i64 vn2) ∧ V.cell? ⟨b, off + 8 + 6, none⟩ = some (.string (str8 vs2)) ∧ V.cell? ⟨b, off + 8 + 7, none⟩ = some (.slice aa2 nn2 cc2))) V from ⟨(hb.cell (p := ⟨w.heap.size, 7, none⟩) (by have := HL.out; show w.heap.size < _; omega)).trans y7, (H8A.out.on hb), (H8B.out.on hb)⟩))
    obtain ⟨W1, hW1, hbW1, hzW1, hcW1⟩ := box8 W.drew (.cells noEC 26)
    have hz1 : W1.heap.size = W.drew.heap.size + 1 := by rw [← hW1]; exact World.size_alloc _ _
    obtain ⟨W2, hW2, hbW2, hzW2, hcW2⟩ := box8 W1 (.cells noEC 26)
    obtain ⟨m1, m2, m3, m4, m5⟩ := mid_one (L := #[.int .i64 k1, .int .i64 op1, .string (str8 tb1), .string (str8 nm1), .int .i64 vk1, .int .i64 vn1, .string (str8 vs1), .slice aa1 nn1 cc1]) (R := #[.int .i64 k2, .int .i64 op2, .string (str8 tb2), .string (str8 nm2), .int .i64 vk2, .int .i64 vn2, .string (str8 vs2), .slice aa2 nn2 cc2]) hbW1 hz1 hcW1 hbW2 hcW2
    obtain ⟨l1, l2, l3⟩ := mid_two (L := #[.int .i64 k1, .int .i64 op1, .string (str8 tb1), .string (str8 nm1), .int .i64 vk1, .int .i64 vn1, .string (str8 vs1), .slice aa1 nn1 cc1]) (R := #[.int .i64 k2, .int .i64 op2, .string (str8 tb2), .string (str8 nm2), .int .i64 vk2, .int .i64 vn2, .string (str8 vs2), .slice aa2 nn2 cc2]) hbW1 hz1 hcW1 hbW2 hcW2
    have hd : Below W.heap.size W W.drew := (Below.refl _ W).drew
    have hS0 := HSN.out _ hd
    have hS1 := HSN.out _ (hd.trans hbW1)
    have hS2 := HSN.out _ (hd.trans m2)
    have hS3 := HSN.out _ (hd.trans m4)
    have hS4 := HSN.out _ (hd.trans l2)
    have HM1 := hid (show Mid W W.drew.heap.size W1.heap.size _ _ _ from ⟨hd.trans m5.1, m5.2⟩)
    have HM2 := hid (show Mid W W1.heap.size W.drew.heap.size _ _ _ from ⟨hd.trans l3.1, l3.2⟩)
    have hz1' : W1.heap.size = W.heap.size + 1 := hz1
    rw [hz1'] at HM1 HM2
    clear m5 l3 m2 m4 l2 hbW1 hbW2
    refine last_region (fun V : World => V.cell? ⟨w.heap.size, 7, none⟩ = some (.slice (some ⟨b, off, none⟩) 2 cc) ∧ (V.cell? ⟨b, off, none⟩ = some (.int .i64 k1) ∧ V.cell? ⟨b, off + 1, none⟩ = some (.int .i64 op1) ∧ V.cell? ⟨b, off + 2, none⟩ = some (.string (str8 tb1)) ∧ V.cell? ⟨b, off + 3, none⟩ = some (.string (str8 nm1)) ∧ V.cell? ⟨b, off + 4, none⟩ = some (.int .i64 vk1) ∧ V.cell? ⟨b, off + 5, none⟩ = some (.int .i64 vn1) ∧ V.cell? ⟨b, off + 6, none⟩ = some (.string (str8 vs1)) ∧ V.cell? ⟨b, off + 7, none⟩ = some (.slice aa1 nn1 cc1)) ∧ (V.cell? ⟨b, off + 8, none⟩ = some (.int .i64 k2) ∧ V.cell? ⟨b, off + 8 + 1, none⟩ = some (.int .i64 op2) ∧ V.cell? ⟨b, off + 8 + 2, none⟩ = some (.string (str8 tb2)) ∧ V.cell? ⟨b, off + 8 + 3, none⟩ = some (.string (str8 nm2)) ∧ V.cell? ⟨b, off + 8 + 4, none⟩ = some (.int .i64 vk2) ∧ V.cell? ⟨b, off + 8 + 5, none⟩ = some (.int .i64 vn2) ∧ V.cell? ⟨b, off + 8 + 6, none⟩ = some (.string (str8 vs2)) ∧ V.cell? ⟨b, off + 8 + 7, none⟩ = some (.slice aa2 nn2 cc2))) 11 (by kernel_rfl) ?_
    refine tkE (i := 0) rfl (by assumption) ?_
    refine tkE (i := 1) rfl (by assumption) ?_
    refine tkE (i := 2) rfl (by assumption) ?_
    refine tkE (i := 3) rfl (by assumption) ?_
    refine tkE (i := 4) rfl (by assumption) ?_
    refine tkE (i := 5) rfl (by assumption) ?_
    refine tkE (i := 6) rfl (by assumption) ?_
    refine tkE (i := 7) rfl (by assumption) ?_
    refine takeE_twoC (i := 8) (j := 9) (by kernel_rfl) rfl rfl rfl rfl ?_ ?_
    · refine wp_valueC (exec_alX _ _ rfl _) ?_
      rw [hW1]
      refine ⟨.inl hS1, ?_⟩
      simp only [Act.put, List.getElem_toArray, List.getElem_cons_zero, List.getElem_cons_succ, List.setIfInBounds_toArray, List.set_cons_zero, List.set_cons_succ]
      refine takeE_one (i := 9) (by kernel_rfl) rfl rfl (wp_valueC (exec_alX _ _ rfl _) ?_)
      rw [hW2]
      refine ⟨.inl hS2, ?_⟩
      simp only [Act.put, List.getElem_toArray, List.getElem_cons_zero, List.getElem_cons_succ, List.setIfInBounds_toArray, List.set_cons_zero, List.set_cons_succ]
      refine takeE_storerowC (i := 10) (by kernel_rfl) rfl rfl 26 (.tmp 5) (.tmp 20) rfl W.drew.heap.size #[.int .i64 k1, .int .i64 op1, .string (str8 tb1), .string (str8 nm1), .int .i64 vk1, .int .i64 vn1, .string (str8 vs1), .slice aa1 nn1 cc1] (by rfl) (by rfl) 26 _ m1 Tryd.infoExpr8 rfl (one8 _ _ _ _ _ _ _ _ _ _) (.inl hS3) ?_
      refine takeE_storerowC (i := 11) (by kernel_rfl) rfl rfl 26 (.tmp 6) (.tmp 24) rfl W1.heap.size #[.int .i64 k2, .int .i64 op2, .string (str8 tb2), .string (str8 nm2), .int .i64 vk2, .int .i64 vn2, .string (str8 vs2), .slice aa2 nn2 cc2] (by rfl) (by rfl) 26 _ m3 Tryd.infoExpr8 rfl (one8 _ _ _ _ _ _ _ _ _ _) (.inr rfl) ?_
      refine wpAnyE_done (by kernel_rfl) ?_ _
      show Only _ .normal _ _
      unfold Only
      go_wp2_with fail
      go_meet
      exact ⟨_, _, rfl, rfl, HM1⟩
    · refine wp_valueC (exec_alX _ _ rfl _) ?_
      rw [hW1]
      refine ⟨.inl hS1, ?_⟩
      simp only [Act.put, List.getElem_toArray, List.getElem_cons_zero, List.getElem_cons_succ, List.setIfInBounds_toArray, List.set_cons_zero, List.set_cons_succ]
      refine takeE_one (i := 8) (by kernel_rfl) rfl rfl (wp_valueC (exec_alX _ _ rfl _) ?_)
      rw [hW2]
      refine ⟨.inl hS2, ?_⟩
      simp only [Act.put, List.getElem_toArray, List.getElem_cons_zero, List.getElem_cons_succ, List.setIfInBounds_toArray, List.set_cons_zero, List.set_cons_succ]
      refine takeE_storerowC (i := 10) (by kernel_rfl) rfl rfl 26 (.tmp 5) (.tmp 20) rfl W1.heap.size #[.int .i64 k1, .int .i64 op1, .string (str8 tb1), .string (str8 nm1), .int .i64 vk1, .int .i64 vn1, .string (str8 vs1), .slice aa1 nn1 cc1] (by rfl) (by rfl) 26 _ hcW2 Tryd.infoExpr8 rfl (one8 _ _ _ _ _ _ _ _ _ _) (.inl hS4) ?_
      refine takeE_storerowC (i := 11) (by kernel_rfl) rfl rfl 26 (.tmp 6) (.tmp 24) rfl W.drew.heap.size #[.int .i64 k2, .int .i64 op2, .string (str8 tb2), .string (str8 nm2), .int .i64 vk2, .int .i64 vn2, .string (str8 vs2), .slice aa2 nn2 cc2] (by rfl) (by rfl) 26 _ l1 Tryd.infoExpr8 rfl (one8 _ _ _ _ _ _ _ _ _ _) (.inr rfl) ?_
      refine wpAnyE_done (by kernel_rfl) ?_ _
      show Only _ .normal _ _
      unfold Only
      go_wp2_with fail
      go_meet
      exact ⟨_, _, rfl, rfl, HM2⟩
  case rest =>
    obtain ⟨p, q, rfl, rfl, HM⟩ := hcut
    obtain ⟨HMB, HMP, HMQ⟩ := HM.out
    have hwp : w.heap.size + 1 < wc.heap.size := Nat.lt_of_lt_of_le HL.out HMB.size
    have HP := hid (block_lt HMP)
    have HQ := hid (block_lt HMQ)
    have HMPQ := hid (And.intro HMP HMQ)
    have kp := cells8 HMP
    have kq := cells8 HMQ
    have y1c := (HMB.cell (p := ⟨w.heap.size, 1, none⟩) (by have := HL.out; show w.heap.size < _; omega)).trans y1
    have HZC := hid ((HMB.block (w.heap.size + 1) HL.out).trans HZ1.out)
    have HTC := hid (HT.out.below HMB HT.out.lt)
    have HBC := htr HB HMB
    have HLC := hid hwp
    clear HMB HMP HMQ hwp y0 y1 y7 HY HZ0 HZ1 HM H8A H8B HT HB
    have HTST := ptest_any op wc HTC.out
    rw [htst] at HTST
    have HC1 := pcol_any k1 op1 tb1 nm1 vk1 vn1 vs1 ys1 aa1 nn1 cc1 col wc
    rw [hc1] at HC1
    have HCB := hid (fun V => pcol_any k2 op2 tb2 nm2 vk2 vn2 vs2 ys2 aa2 nn2 cc2 col V)
    rw [hc2] at HCB
    go_wp2_with (first
      | (go_at_call 24; refine HTST.mono ?_; clear HTST; rintro e wt ⟨rfl, hwt⟩; replace hwt := hwt.symm; subst hwt)
      | (go_at_call 25; refine HC1.mono ?_; clear HC1; rintro e w1 ⟨rfl, hb1⟩
         have kp1 := cells8 ((hb1.block p HP.out).trans HMPQ.out.1)
         have kq1 := cells8 ((hb1.block q HQ.out).trans HMPQ.out.2)
         have y11 := (hb1.cell (p := ⟨w.heap.size, 1, none⟩) (by have := HLC.out; show w.heap.size < _; omega)).trans y1c
         have HB1 := hid hb1
         have HC2 := HCB.out w1
         clear hb1 kp kq y1c)
      | (go_at_call 25; refine HC2.mono ?_; clear HC2; rintro e w2 ⟨rfl, hb2⟩
         have HB2 := htr HB1 hb2
         have kp2 := cells8 ((HB2.out.block p HP.out).trans HMPQ.out.1)
         have kq2 := cells8 ((HB2.out.block q HQ.out).trans HMPQ.out.2)
         have y12 := (hb2.cell (p := ⟨w.heap.size, 1, none⟩) (by have := HLC.out; have := HB1.out.size; show w.heap.size < _; omega)).trans y11
         clear hb2 kp1 kq1 y11)
      | (go_at_call 18; refine (pall_any _).mono ?_; rintro e w3 ⟨rfl, hb3⟩
         have HB3 := htr HB2 hb3
         have HZ3 := hid ((HB3.out.block (w.heap.size + 1) HLC.out).trans HZC.out)
         obtain ⟨m0, m1, m2, m3, m4, m5⟩ := row3 HZ3.out
         clear hb3))
    exact bodyPost_ret (v := .agg #[.slice none 0 0, .slice none 0 0, .bool false]) (results_cell_row (p := 4) (ty := 31) rfl _ _ (w.heap.size + 1) 31 _ (0, 0) _ rfl (set3 HZ3.out _ _ _) Tryd.underlying31 rfl Tryd.infoSpan) rfl ⟨_, _, rfl, World.ownsRow_nil _ _ _ _, World.ownsRow_nil _ _ _ _, apart_nil rfl, below3 (HBC.out.trans (HB3.out.mono HBC.out.size)) (by omega) _ _ _⟩


set_option maxHeartbeats 4000000 in
theorem pspan_all01 (op : Int) (tb nm : List UInt8) (vk vn : Int) (vs : List UInt8) (b off cc : Nat) (col : Int) (w : World)
    (k1 op1 : Int) (tb1 nm1 : List UInt8) (vk1 vn1 : Int) (vs1 : List UInt8) (aa1 : Option Addr) (nn1 cc1 : Nat) (k2 op2 : Int) (tb2 nm2 : List UInt8) (vk2 vn2 : Int) (vs2 : List UInt8) (aa2 : Option Addr) (nn2 cc2 : Nat)
    (h8a : At8 w b off k1 op1 tb1 nm1 vk1 vn1 vs1 (.slice aa1 nn1 cc1)) (h8b : At8 w b (off + 8) k2 op2 tb2 nm2 vk2 vn2 vs2 (.slice aa2 nn2 cc2)) (hcc : 2 ≤ cc) (hcm : cc ≤ maxLen) (ht : TstAt w) (ho : ¬ op = 2) (ys1 ys2 : List Ex) (htst : isTst op = true) (hc1 : isCol (.mk k1 op1 tb1 nm1 ⟨vk1, vn1, vs1⟩ ys1) col = false) (hc2 : isCol (.mk k2 op2 tb2 nm2 ⟨vk2, vn2, vs2⟩ ys2) col = true) (hk1 : ¬ k1 = 1) :
    Calls Tryd.prog 9 #[.agg #[.int .i64 3, .int .i64 op, .string (str8 tb), .string (str8 nm), .int .i64 vk, .int .i64 vn, .string (str8 vs), .slice (some ⟨b, off, none⟩) 2 cc], .int .i64 col] w (SpP w allP) := by
  obtain ⟨z0, z1, hbW, hzW⟩ := alloc2 w (.cells #[.int .i64 3, .int .i64 op, .string (str8 tb), .string (str8 nm), .int .i64 vk, .int .i64 vn, .string (str8 vs), .slice (some ⟨b, off, none⟩) 2 cc] 26) (.cells #[.slice none 0 0, .slice none 0 0, .bool false] 31)
  obtain ⟨W, hW⟩ : ∃ W, (w.alloc (.cells #[.int .i64 3, .int .i64 op, .string (str8 tb), .string (str8 nm), .int .i64 vk, .int .i64 vn, .string (str8 vs), .slice (some ⟨b, off, none⟩) 2 cc] 26)).alloc (.cells #[.slice none 0 0, .slice none 0 0, .bool false] 31) = W := ⟨_, rfl⟩
  rw [hW] at z0 z1 hbW hzW
  have HY := hid (cells8 z0)
  have y0 := HY.out.1
  have y1 := HY.out.2.1
  have y7 := HY.out.2.2.2.2.2.2.2
  have HZ0 := hid z0
  have HZ1 := hid z1
  have HB := hid hbW
  have HL := hid (show w.heap.size + 1 < W.heap.size from by omega)
  have H8A := hid (h8a.on hbW)
  have H8B := hid (h8b.on hbW)
  have HT := hid (ht.on hbW)
  have hcm' : cc ≤ 9223372036854775807 := hcm
  clear z0 z1 hbW hzW h8a h8b ht
  go_enter Tryd.func9, Tryd.ntmps9
  go_wp2_with fail
  go_cut [5, 6] from 17 to 24 (fun u5 u6 wx => ∃ p q : Nat, u5 = .pointer (some ⟨p, 0, none⟩) ∧ u6 = .pointer (some ⟨q, 0, none⟩) ∧ Hid (Mid W p q #[.int .i64 k1, .int .i64 op1, .string (str8 tb1), .string (str8 nm1), .int .i64 vk1, .int .i64 vn1, .string (str8 vs1), .slice aa1 nn1 cc1] #[.int .i64 k2, .int .i64 op2, .string (str8 tb2), .string (str8 nm2), .int .i64 vk2, .int .i64 vn2, .string (str8 vs2), .slice aa2 nn2 cc2] wx))
  case first =>
    have HSN := hid (fun (V : World) (hb : Below W.heap.size W V) => (show (fun V : World => V.cell? ⟨w.heap.size, 7, none⟩ = some (.slice (some ⟨b, off, none⟩) 2 cc) ∧ (V.cell? ⟨b, off, none⟩ = some (.int .i64 k1) ∧ V.cell? ⟨b, off + 1, none⟩ = some (.int .i64 op1) ∧ V.cell? ⟨b, off + 2, none⟩ = some (.string (str8 tb1)) ∧ V.cell? ⟨b, off + 3, none⟩ = some (.string (str8 nm1)) ∧ V.cell? ⟨b, off + 4, none⟩ = some (.int .i64 vk1) ∧ V.cell? ⟨b, off + 5, none⟩ = some (.int .i64 vn1) ∧ V.cell? ⟨b, off + 6, none⟩ = some (.string (str8 vs1)) ∧ V.cell? ⟨b, off + 7, none⟩ = some (.slice aa1 nn1 cc1)) ∧ (V.cell? ⟨b, off + 8, none⟩ = some (.int .i64 k2) ∧ V.cell? ⟨b, off + 8 + 1, none⟩ = some (.int .i64 op2) ∧ V.cell? ⟨b, off + 8 + 2, none⟩ = some (.string (str8 tb2)) ∧ V.cell? ⟨b, off + 8 + 3, none⟩ = some (.string (str8 nm2)) ∧ V.cell? ⟨b, off + 8 + 4, none⟩ = some (.int .i64 vk2) ∧ V.cell? ⟨b, off + 8 + 5, none⟩ = some (.int .i64 vn2) ∧ V.cell? ⟨b, off + 8 + 6, none⟩ = some (.string (str8 vs2)) ∧ V.cell? ⟨b, off + 8 + 7, none⟩ = some (.slice aa2 nn2 cc2))) V from ⟨(hb.cell (p := ⟨w.heap.size, 7, none⟩) (by have := HL.out; show w.heap.size < _; omega)).trans y7, (H8A.out.on hb), (H8B.out.on hb)⟩))
    obtain ⟨W1, hW1, hbW1, hzW1, hcW1⟩ := box8 W.drew (.cells noEC 26)
    have hz1 : W1.heap.size = W.drew.heap.size + 1 := by rw [← hW1]; exact World.size_alloc _ _
    obtain ⟨W2, hW2, hbW2, hzW2, hcW2⟩ := box8 W1 (.cells noEC 26)
    obtain ⟨m1, m2, m3, m4, m5⟩ := mid_one (L := #[.int .i64 k1, .int .i64 op1, .string (str8 tb1), .string (str8 nm1), .int .i64 vk1, .int .i64 vn1, .string (str8 vs1), .slice aa1 nn1 cc1]) (R := #[.int .i64 k2, .int .i64 op2, .string (str8 tb2), .string (str8 nm2), .int .i64 vk2, .int .i64 vn2, .string (str8 vs2), .slice aa2 nn2 cc2]) hbW1 hz1 hcW1 hbW2 hcW2
    obtain ⟨l1, l2, l3⟩ := mid_two (L := #[.int .i64 k1, .int .i64 op1, .string (str8 tb1), .string (str8 nm1), .int .i64 vk1, .int .i64 vn1, .string (str8 vs1), .slice aa1 nn1 cc1]) (R := #[.int .i64 k2, .int .i64 op2, .string (str8 tb2), .string (str8 nm2), .int .i64 vk2, .int .i64 vn2, .string (str8 vs2), .slice aa2 nn2 cc2]) hbW1 hz1 hcW1 hbW2 hcW2
    have hd : Below W.heap.size W W.drew := (Below.refl _ W).drew
    have hS0 := HSN.out _ hd
    have hS1 := HSN.out _ (hd.trans hbW1)
    have hS2 := HSN.out _ (hd.trans m2)
    have hS3 := HSN.out _ (hd.trans m4)
    have hS4 := HSN.out _ (hd.trans l2)
    have HM1 := hid (show Mid W W.drew.heap.size W1.heap.size _ _ _ from ⟨hd.trans m5.1, m5.2⟩)
    have HM2 := hid (show Mid W W1.heap.size W.drew.heap.size _ _ _ from ⟨hd.trans l3.1, l3.2⟩)
    have hz1' : W1.heap.size = W.heap.size + 1 := hz1
    rw [hz1'] at HM1 HM2
    clear m5 l3 m2 m4 l2 hbW1 hbW2
    refine last_region (fun V : World => V.cell? ⟨w.heap.size, 7, none⟩ = some (.slice (some ⟨b, off, none⟩) 2 cc) ∧ (V.cell? ⟨b, off, none⟩ = some (.int .i64 k1) ∧ V.cell? ⟨b, off + 1, none⟩ = some (.int .i64 op1) ∧ V.cell? ⟨b, off + 2, none⟩ = some (.string (str8 tb1)) ∧ V.cell? ⟨b, off + 3, none⟩ = some (.string (str8 nm1)) ∧ V.cell? ⟨b, off + 4, none⟩ = some (.int .i64 vk1) ∧ V.cell? ⟨b, off + 5, none⟩ = some (.int .i64 vn1) ∧ V.cell? ⟨b, off + 6, none⟩ = some (.string (str8 vs1)) ∧ V.cell? ⟨b, off + 7, none⟩ = some (.slice aa1 nn1 cc1)) ∧ (V.cell? ⟨b, off + 8, none⟩ = some (.int .i64 k2) ∧ V.cell? ⟨b, off + 8 + 1, none⟩ = some (.int .i64 op2) ∧ V.cell? ⟨b, off + 8 + 2, none⟩ = some (.string (str8 tb2)) ∧ V.cell? ⟨b, off + 8 + 3, none⟩ = some (.string (str8 nm2)) ∧ V.cell? ⟨b, off + 8 + 4, none⟩ = some (.int .i64 vk2) ∧ V.cell? ⟨b, off + 8 + 5, none⟩ = some (.int .i64 vn2) ∧ V.cell? ⟨b, off + 8 + 6, none⟩ = some (.string (str8 vs2)) ∧ V.cell? ⟨b, off + 8 + 7, none⟩ = some (.slice aa2 nn2 cc2))) 11 (by kernel_rfl) ?_
    refine tkE (i := 0) rfl (by assumption) ?_
    refine tkE (i := 1) rfl (by assumption) ?_
    refine tkE (i := 2) rfl (by assumption) ?_
    refine tkE (i := 3) rfl (by assumption) ?_
    refine tkE (i := 4) rfl (by assumption) ?_
    refine tkE (i := 5) rfl (by assumption) ?_
    refine tkE (i := 6) rfl (by assumption) ?_
    refine tkE (i := 7) rfl (by assumption) ?_
    refine takeE_twoC (i := 8) (j := 9) (by kernel_rfl) rfl rfl rfl rfl ?_ ?_
    · refine wp_valueC (exec_alX _ _ rfl _) ?_
      rw [hW1]
      refine ⟨.inl hS1, ?_⟩
      simp only [Act.put, List.getElem_toArray, List.getElem_cons_zero, List.getElem_cons_succ, List.setIfInBounds_toArray, List.set_cons_zero, List.set_cons_succ]
      refine takeE_one (i := 9) (by kernel_rfl) rfl rfl (wp_valueC (exec_alX _ _ rfl _) ?_)
      rw [hW2]
      refine ⟨.inl hS2, ?_⟩
      simp only [Act.put, List.getElem_toArray, List.getElem_cons_zero, List.getElem_cons_succ, List.setIfInBounds_toArray, List.set_cons_zero, List.set_cons_succ]
      refine takeE_storerowC (i := 10) (by kernel_rfl) rfl rfl 26 (.tmp 5) (.tmp 20) rfl W.drew.heap.size #[.int .i64 k1, .int .i64 op1, .string (str8 tb1), .string (str8 nm1), .int .i64 vk1, .int .i64 vn1, .string (str8 vs1), .slice aa1 nn1 cc1] (by rfl) (by rfl) 26 _ m1 Tryd.infoExpr8 rfl (one8 _ _ _ _ _ _ _ _ _ _) (.inl hS3) ?_
      refine takeE_storerowC (i := 11) (by kernel_rfl) rfl rfl 26 (.tmp 6) (.tmp 24) rfl W1.heap.size #[.int .i64 k2, .int .i64 op2, .string (str8 tb2), .string (str8 nm2), .int .i64 vk2, .int .i64 vn2, .string (str8 vs2), .slice aa2 nn2 cc2] (by rfl) (by rfl) 26 _ m3 Tryd.infoExpr8 rfl (one8 _ _ _ _ _ _ _ _ _ _) (.inr rfl) ?_
      refine wpAnyE_done (by kernel_rfl) ?_ _
      show Only _ .normal _ _
      unfold Only
      go_wp2_with fail
      go_meet
      exact ⟨_, _, rfl, rfl, HM1⟩
    · refine wp_valueC (exec_alX _ _ rfl _) ?_
      rw [hW1]
      refine ⟨.inl hS1, ?_⟩
      simp only [Act.put, List.getElem_toArray, List.getElem_cons_zero, List.getElem_cons_succ, List.setIfInBounds_toArray, List.set_cons_zero, List.set_cons_succ]
      refine takeE_one (i := 8) (by kernel_rfl) rfl rfl (wp_valueC (exec_alX _ _ rfl _) ?_)
      rw [hW2]
      refine ⟨.inl hS2, ?_⟩
      simp only [Act.put, List.getElem_toArray, List.getElem_cons_zero, List.getElem_cons_succ, List.setIfInBounds_toArray, List.set_cons_zero, List.set_cons_succ]
      refine takeE_storerowC (i := 10) (by kernel_rfl) rfl rfl 26 (.tmp 5) (.tmp 20) rfl W1.heap.size #[.int .i64 k1, .int .i64 op1, .string (str8 tb1), .string (str8 nm1), .int .i64 vk1, .int .i64 vn1, .string (str8 vs1), .slice aa1 nn1 cc1] (by rfl) (by rfl) 26 _ hcW2 Tryd.infoExpr8 rfl (one8 _ _ _ _ _ _ _ _ _ _) (.inl hS4) ?_
      refine takeE_storerowC (i := 11) (by kernel_rfl) rfl rfl 26 (.tmp 6) (.tmp 24) rfl W.drew.heap.size #[.int .i64 k2, .int .i64 op2, .string (str8 tb2), .string (str8 nm2), .int .i64 vk2, .int .i64 vn2, .string (str8 vs2), .slice aa2 nn2 cc2] (by rfl) (by rfl) 26 _ l1 Tryd.infoExpr8 rfl (one8 _ _ _ _ _ _ _ _ _ _) (.inr rfl) ?_
      refine wpAnyE_done (by kernel_rfl) ?_ _
      show Only _ .normal _ _
      unfold Only
      go_wp2_with fail
      go_meet
      exact ⟨_, _, rfl, rfl, HM2⟩
  case rest =>
    obtain ⟨p, q, rfl, rfl, HM⟩ := hcut
    obtain ⟨HMB, HMP, HMQ⟩ := HM.out
    have hwp : w.heap.size + 1 < wc.heap.size := Nat.lt_of_lt_of_le HL.out HMB.size
    have HP := hid (block_lt HMP)
    have HQ := hid (block_lt HMQ)
    have HMPQ := hid (And.intro HMP HMQ)
    have kp := cells8 HMP
    have kq := cells8 HMQ
    have y1c := (HMB.cell (p := ⟨w.heap.size, 1, none⟩) (by have := HL.out; show w.heap.size < _; omega)).trans y1
    have HZC := hid ((HMB.block (w.heap.size + 1) HL.out).trans HZ1.out)
    have HTC := hid (HT.out.below HMB HT.out.lt)
    have HBC := htr HB HMB
    have HLC := hid hwp
    clear HMB HMP HMQ hwp y0 y1 y7 HY HZ0 HZ1 HM H8A H8B HT HB
    have HTST := ptest_any op wc HTC.out
    rw [htst] at HTST
    have HC1 := pcol_any k1 op1 tb1 nm1 vk1 vn1 vs1 ys1 aa1 nn1 cc1 col wc
    rw [hc1] at HC1
    have HCB := hid (fun V => pcol_any k2 op2 tb2 nm2 vk2 vn2 vs2 ys2 aa2 nn2 cc2 col V)
    rw [hc2] at HCB
    go_wp2_with (first
      | (go_at_call 24; refine HTST.mono ?_; clear HTST; rintro e wt ⟨rfl, hwt⟩; replace hwt := hwt.symm; subst hwt)
      | (go_at_call 25; refine HC1.mono ?_; clear HC1; rintro e w1 ⟨rfl, hb1⟩
         have kp1 := cells8 ((hb1.block p HP.out).trans HMPQ.out.1)
         have kq1 := cells8 ((hb1.block q HQ.out).trans HMPQ.out.2)
         have y11 := (hb1.cell (p := ⟨w.heap.size, 1, none⟩) (by have := HLC.out; show w.heap.size < _; omega)).trans y1c
         have HB1 := hid hb1
         have HC2 := HCB.out w1
         clear hb1 kp kq y1c)
      | (go_at_call 25; refine HC2.mono ?_; clear HC2; rintro e w2 ⟨rfl, hb2⟩
         have HB2 := htr HB1 hb2
         have kp2 := cells8 ((HB2.out.block p HP.out).trans HMPQ.out.1)
         have kq2 := cells8 ((HB2.out.block q HQ.out).trans HMPQ.out.2)
         have y12 := (hb2.cell (p := ⟨w.heap.size, 1, none⟩) (by have := HLC.out; have := HB1.out.size; show w.heap.size < _; omega)).trans y11
         clear hb2 kp1 kq1 y11)
      | (go_at_call 18; refine (pall_any _).mono ?_; rintro e w3 ⟨rfl, hb3⟩
         have HB3 := htr HB2 hb3
         have HZ3 := hid ((HB3.out.block (w.heap.size + 1) HLC.out).trans HZC.out)
         obtain ⟨m0, m1, m2, m3, m4, m5⟩ := row3 HZ3.out
         clear hb3))
    exact bodyPost_ret (v := .agg #[.slice none 0 0, .slice none 0 0, .bool false]) (results_cell_row (p := 4) (ty := 31) rfl _ _ (w.heap.size + 1) 31 _ (0, 0) _ rfl (set3 HZ3.out _ _ _) Tryd.underlying31 rfl Tryd.infoSpan) rfl ⟨_, _, rfl, World.ownsRow_nil _ _ _ _, World.ownsRow_nil _ _ _ _, apart_nil rfl, below3 (HBC.out.trans (HB3.out.mono HBC.out.size)) (by omega) _ _ _⟩


set_option maxHeartbeats 4000000 in
theorem pspan_all10 (op : Int) (tb nm : List UInt8) (vk vn : Int) (vs : List UInt8) (b off cc : Nat) (col : Int) (w : World)
    (k1 op1 : Int) (tb1 nm1 : List UInt8) (vk1 vn1 : Int) (vs1 : List UInt8) (aa1 : Option Addr) (nn1 cc1 : Nat) (k2 op2 : Int) (tb2 nm2 : List UInt8) (vk2 vn2 : Int) (vs2 : List UInt8) (aa2 : Option Addr) (nn2 cc2 : Nat)
    (h8a : At8 w b off k1 op1 tb1 nm1 vk1 vn1 vs1 (.slice aa1 nn1 cc1)) (h8b : At8 w b (off + 8) k2 op2 tb2 nm2 vk2 vn2 vs2 (.slice aa2 nn2 cc2)) (hcc : 2 ≤ cc) (hcm : cc ≤ maxLen) (ht : TstAt w) (ho : ¬ op = 2) (ys1 ys2 : List Ex) (htst : isTst op = true) (hc1 : isCol (.mk k1 op1 tb1 nm1 ⟨vk1, vn1, vs1⟩ ys1) col = true) (hk2 : ¬ k2 = 1) (hc2 : isCol (.mk k2 op2 tb2 nm2 ⟨vk2, vn2, vs2⟩ ys2) col = false) :
    Calls Tryd.prog 9 #[.agg #[.int .i64 3, .int .i64 op, .string (str8 tb), .string (str8 nm), .int .i64 vk, .int .i64 vn, .string (str8 vs), .slice (some ⟨b, off, none⟩) 2 cc], .int .i64 col] w (SpP w allP) := by
  obtain ⟨z0, z1, hbW, hzW⟩ := alloc2 w (.cells #[.int .i64 3, .int .i64 op, .string (str8 tb), .string (str8 nm), .int .i64 vk, .int .i64 vn, .string (str8 vs), .slice (some ⟨b, off, none⟩) 2 cc] 26) (.cells #[.slice none 0 0, .slice none 0 0, .bool false] 31)
  obtain ⟨W, hW⟩ : ∃ W, (w.alloc (.cells #[.int .i64 3, .int .i64 op, .string (str8 tb), .string (str8 nm), .int .i64 vk, .int .i64 vn, .string (str8 vs), .slice (some ⟨b, off, none⟩) 2 cc] 26)).alloc (.cells #[.slice none 0 0, .slice none 0 0, .bool false] 31) = W := ⟨_, rfl⟩
  rw [hW] at z0 z1 hbW hzW
  have HY := hid (cells8 z0)
  have y0 := HY.out.1
  have y1 := HY.out.2.1
  have y7 := HY.out.2.2.2.2.2.2.2
  have HZ0 := hid z0
  have HZ1 := hid z1
  have HB := hid hbW
  have HL := hid (show w.heap.size + 1 < W.heap.size from by omega)
  have H8A := hid (h8a.on hbW)
  have H8B := hid (h8b.on hbW)
  have HT := hid (ht.on hbW)
  have hcm' : cc ≤ 9223372036854775807 := hcm
  clear z0 z1 hbW hzW h8a h8b ht
  go_enter Tryd.func9, Tryd.ntmps9
  go_wp2_with fail
  go_cut [5, 6] from 17 to 24 (fun u5 u6 wx => ∃ p q : Nat, u5 = .pointer (some ⟨p, 0, none⟩) ∧ u6 = .pointer (some ⟨q, 0, none⟩) ∧ Hid (Mid W p q #[.int .i64 k1, .int .i64 op1, .string (str8 tb1), .string (str8 nm1), .int .i64 vk1, .int .i64 vn1, .string (str8 vs1), .slice aa1 nn1 cc1] #[.int .i64 k2, .int .i64 op2, .string (str8 tb2), .string (str8 nm2), .int .i64 vk2, .int .i64 vn2, .string (str8 vs2), .slice aa2 nn2 cc2] wx))
  case first =>
    have HSN := hid (fun (V : World) (hb : Below W.heap.size W V) => (show (fun V : World => V.cell? ⟨w.heap.size, 7, none⟩ = some (.slice (some ⟨b, off, none⟩) 2 cc) ∧ (V.cell? ⟨b, off, none⟩ = some (.int .i64 k1) ∧ V.cell? ⟨b, off + 1, none⟩ = some (.int .i64 op1) ∧ V.cell? ⟨b, off + 2, none⟩ = some (.string (str8 tb1)) ∧ V.cell? ⟨b, off + 3, none⟩ = some (.string (str8 nm1)) ∧ V.cell? ⟨b, off + 4, none⟩ = some (.int .i64 vk1) ∧ V.cell? ⟨b, off + 5, none⟩ = some (.int .i64 vn1) ∧ V.cell? ⟨b, off + 6, none⟩ = some (.string (str8 vs1)) ∧ V.cell? ⟨b, off + 7, none⟩ = some (.slice aa1 nn1 cc1)) ∧ (V.cell? ⟨b, off + 8, none⟩ = some (.int .i64 k2) ∧ V.cell? ⟨b, off + 8 + 1, none⟩ = some (.int .i64 op2) ∧ V.cell? ⟨b, off + 8 + 2, none⟩ = some (.string (str8 tb2)) ∧ V.cell? ⟨b, off + 8 + 3, none⟩ = some (.string (str8 nm2)) ∧ V.cell? ⟨b, off + 8 + 4, none⟩ = some (.int .i64 vk2) ∧ V.cell? ⟨b, off + 8 + 5, none⟩ = some (.int .i64 vn2) ∧ V.cell? ⟨b, off + 8 + 6, none⟩ = some (.string (str8 vs2)) ∧ V.cell? ⟨b, off + 8 + 7, none⟩ = some (.slice aa2 nn2 cc2))) V from ⟨(hb.cell (p := ⟨w.heap.size, 7, none⟩) (by have := HL.out; show w.heap.size < _; omega)).trans y7, (H8A.out.on hb), (H8B.out.on hb)⟩))
    obtain ⟨W1, hW1, hbW1, hzW1, hcW1⟩ := box8 W.drew (.cells noEC 26)
    have hz1 : W1.heap.size = W.drew.heap.size + 1 := by rw [← hW1]; exact World.size_alloc _ _
    obtain ⟨W2, hW2, hbW2, hzW2, hcW2⟩ := box8 W1 (.cells noEC 26)
    obtain ⟨m1, m2, m3, m4, m5⟩ := mid_one (L := #[.int .i64 k1, .int .i64 op1, .string (str8 tb1), .string (str8 nm1), .int .i64 vk1, .int .i64 vn1, .string (str8 vs1), .slice aa1 nn1 cc1]) (R := #[.int .i64 k2, .int .i64 op2, .string (str8 tb2), .string (str8 nm2), .int .i64 vk2, .int .i64 vn2, .string (str8 vs2), .slice aa2 nn2 cc2]) hbW1 hz1 hcW1 hbW2 hcW2
    obtain ⟨l1, l2, l3⟩ := mid_two (L := #[.int .i64 k1, .int .i64 op1, .string (str8 tb1), .string (str8 nm1), .int .i64 vk1, .int .i64 vn1, .string (str8 vs1), .slice aa1 nn1 cc1]) (R := #[.int .i64 k2, .int .i64 op2, .string (str8 tb2), .string (str8 nm2), .int .i64 vk2, .int .i64 vn2, .string (str8 vs2), .slice aa2 nn2 cc2]) hbW1 hz1 hcW1 hbW2 hcW2
    have hd : Below W.heap.size W W.drew := (Below.refl _ W).drew
    have hS0 := HSN.out _ hd
    have hS1 := HSN.out _ (hd.trans hbW1)
    have hS2 := HSN.out _ (hd.trans m2)
    have hS3 := HSN.out _ (hd.trans m4)
    have hS4 := HSN.out _ (hd.trans l2)
    have HM1 := hid (show Mid W W.drew.heap.size W1.heap.size _ _ _ from ⟨hd.trans m5.1, m5.2⟩)
    have HM2 := hid (show Mid W W1.heap.size W.drew.heap.size _ _ _ from ⟨hd.trans l3.1, l3.2⟩)
    have hz1' : W1.heap.size = W.heap.size + 1 := hz1
    rw [hz1'] at HM1 HM2
    clear m5 l3 m2 m4 l2 hbW1 hbW2
    refine last_region (fun V : World => V.cell? ⟨w.heap.size, 7, none⟩ = some (.slice (some ⟨b, off, none⟩) 2 cc) ∧ (V.cell? ⟨b, off, none⟩ = some (.int .i64 k1) ∧ V.cell? ⟨b, off + 1, none⟩ = some (.int .i64 op1) ∧ V.cell? ⟨b, off + 2, none⟩ = some (.string (str8 tb1)) ∧ V.cell? ⟨b, off + 3, none⟩ = some (.string (str8 nm1)) ∧ V.cell? ⟨b, off + 4, none⟩ = some (.int .i64 vk1) ∧ V.cell? ⟨b, off + 5, none⟩ = some (.int .i64 vn1) ∧ V.cell? ⟨b, off + 6, none⟩ = some (.string (str8 vs1)) ∧ V.cell? ⟨b, off + 7, none⟩ = some (.slice aa1 nn1 cc1)) ∧ (V.cell? ⟨b, off + 8, none⟩ = some (.int .i64 k2) ∧ V.cell? ⟨b, off + 8 + 1, none⟩ = some (.int .i64 op2) ∧ V.cell? ⟨b, off + 8 + 2, none⟩ = some (.string (str8 tb2)) ∧ V.cell? ⟨b, off + 8 + 3, none⟩ = some (.string (str8 nm2)) ∧ V.cell? ⟨b, off + 8 + 4, none⟩ = some (.int .i64 vk2) ∧ V.cell? ⟨b, off + 8 + 5, none⟩ = some (.int .i64 vn2) ∧ V.cell? ⟨b, off + 8 + 6, none⟩ = some (.string (str8 vs2)) ∧ V.cell? ⟨b, off + 8 + 7, none⟩ = some (.slice aa2 nn2 cc2))) 11 (by kernel_rfl) ?_
    refine tkE (i := 0) rfl (by assumption) ?_
    refine tkE (i := 1) rfl (by assumption) ?_
    refine tkE (i := 2) rfl (by assumption) ?_
    refine tkE (i := 3) rfl (by assumption) ?_
    refine tkE (i := 4) rfl (by assumption) ?_
    refine tkE (i := 5) rfl (by assumption) ?_
    refine tkE (i := 6) rfl (by assumption) ?_
    refine tkE (i := 7) rfl (by assumption) ?_
    refine takeE_twoC (i := 8) (j := 9) (by kernel_rfl) rfl rfl rfl rfl ?_ ?_
    · refine wp_valueC (exec_alX _ _ rfl _) ?_
      rw [hW1]
      refine ⟨.inl hS1, ?_⟩
      simp only [Act.put, List.getElem_toArray, List.getElem_cons_zero, List.getElem_cons_succ, List.setIfInBounds_toArray, List.set_cons_zero, List.set_cons_succ]
      refine takeE_one (i := 9) (by kernel_rfl) rfl rfl (wp_valueC (exec_alX _ _ rfl _) ?_)
      rw [hW2]
      refine ⟨.inl hS2, ?_⟩
      simp only [Act.put, List.getElem_toArray, List.getElem_cons_zero, List.getElem_cons_succ, List.setIfInBounds_toArray, List.set_cons_zero, List.set_cons_succ]
      refine takeE_storerowC (i := 10) (by kernel_rfl) rfl rfl 26 (.tmp 5) (.tmp 20) rfl W.drew.heap.size #[.int .i64 k1, .int .i64 op1, .string (str8 tb1), .string (str8 nm1), .int .i64 vk1, .int .i64 vn1, .string (str8 vs1), .slice aa1 nn1 cc1] (by rfl) (by rfl) 26 _ m1 Tryd.infoExpr8 rfl (one8 _ _ _ _ _ _ _ _ _ _) (.inl hS3) ?_
      refine takeE_storerowC (i := 11) (by kernel_rfl) rfl rfl 26 (.tmp 6) (.tmp 24) rfl W1.heap.size #[.int .i64 k2, .int .i64 op2, .string (str8 tb2), .string (str8 nm2), .int .i64 vk2, .int .i64 vn2, .string (str8 vs2), .slice aa2 nn2 cc2] (by rfl) (by rfl) 26 _ m3 Tryd.infoExpr8 rfl (one8 _ _ _ _ _ _ _ _ _ _) (.inr rfl) ?_
      refine wpAnyE_done (by kernel_rfl) ?_ _
      show Only _ .normal _ _
      unfold Only
      go_wp2_with fail
      go_meet
      exact ⟨_, _, rfl, rfl, HM1⟩
    · refine wp_valueC (exec_alX _ _ rfl _) ?_
      rw [hW1]
      refine ⟨.inl hS1, ?_⟩
      simp only [Act.put, List.getElem_toArray, List.getElem_cons_zero, List.getElem_cons_succ, List.setIfInBounds_toArray, List.set_cons_zero, List.set_cons_succ]
      refine takeE_one (i := 8) (by kernel_rfl) rfl rfl (wp_valueC (exec_alX _ _ rfl _) ?_)
      rw [hW2]
      refine ⟨.inl hS2, ?_⟩
      simp only [Act.put, List.getElem_toArray, List.getElem_cons_zero, List.getElem_cons_succ, List.setIfInBounds_toArray, List.set_cons_zero, List.set_cons_succ]
      refine takeE_storerowC (i := 10) (by kernel_rfl) rfl rfl 26 (.tmp 5) (.tmp 20) rfl W1.heap.size #[.int .i64 k1, .int .i64 op1, .string (str8 tb1), .string (str8 nm1), .int .i64 vk1, .int .i64 vn1, .string (str8 vs1), .slice aa1 nn1 cc1] (by rfl) (by rfl) 26 _ hcW2 Tryd.infoExpr8 rfl (one8 _ _ _ _ _ _ _ _ _ _) (.inl hS4) ?_
      refine takeE_storerowC (i := 11) (by kernel_rfl) rfl rfl 26 (.tmp 6) (.tmp 24) rfl W.drew.heap.size #[.int .i64 k2, .int .i64 op2, .string (str8 tb2), .string (str8 nm2), .int .i64 vk2, .int .i64 vn2, .string (str8 vs2), .slice aa2 nn2 cc2] (by rfl) (by rfl) 26 _ l1 Tryd.infoExpr8 rfl (one8 _ _ _ _ _ _ _ _ _ _) (.inr rfl) ?_
      refine wpAnyE_done (by kernel_rfl) ?_ _
      show Only _ .normal _ _
      unfold Only
      go_wp2_with fail
      go_meet
      exact ⟨_, _, rfl, rfl, HM2⟩
  case rest =>
    obtain ⟨p, q, rfl, rfl, HM⟩ := hcut
    obtain ⟨HMB, HMP, HMQ⟩ := HM.out
    have hwp : w.heap.size + 1 < wc.heap.size := Nat.lt_of_lt_of_le HL.out HMB.size
    have HP := hid (block_lt HMP)
    have HQ := hid (block_lt HMQ)
    have HMPQ := hid (And.intro HMP HMQ)
    have kp := cells8 HMP
    have kq := cells8 HMQ
    have y1c := (HMB.cell (p := ⟨w.heap.size, 1, none⟩) (by have := HL.out; show w.heap.size < _; omega)).trans y1
    have HZC := hid ((HMB.block (w.heap.size + 1) HL.out).trans HZ1.out)
    have HTC := hid (HT.out.below HMB HT.out.lt)
    have HBC := htr HB HMB
    have HLC := hid hwp
    clear HMB HMP HMQ hwp y0 y1 y7 HY HZ0 HZ1 HM H8A H8B HT HB
    have HTST := ptest_any op wc HTC.out
    rw [htst] at HTST
    have HC1 := pcol_any k1 op1 tb1 nm1 vk1 vn1 vs1 ys1 aa1 nn1 cc1 col wc
    rw [hc1] at HC1
    have HCB := hid (fun V => pcol_any k2 op2 tb2 nm2 vk2 vn2 vs2 ys2 aa2 nn2 cc2 col V)
    rw [hc2] at HCB
    go_wp2_with (first
      | (go_at_call 24; refine HTST.mono ?_; clear HTST; rintro e wt ⟨rfl, hwt⟩; replace hwt := hwt.symm; subst hwt)
      | (go_at_call 25; refine HC1.mono ?_; clear HC1; rintro e w1 ⟨rfl, hb1⟩
         have kp1 := cells8 ((hb1.block p HP.out).trans HMPQ.out.1)
         have kq1 := cells8 ((hb1.block q HQ.out).trans HMPQ.out.2)
         have y11 := (hb1.cell (p := ⟨w.heap.size, 1, none⟩) (by have := HLC.out; show w.heap.size < _; omega)).trans y1c
         have HB1 := hid hb1
         have HC2 := HCB.out w1
         clear hb1 kp kq y1c)
      | (go_at_call 25; refine HC2.mono ?_; clear HC2; rintro e w2 ⟨rfl, hb2⟩
         have HB2 := htr HB1 hb2
         have kp2 := cells8 ((HB2.out.block p HP.out).trans HMPQ.out.1)
         have kq2 := cells8 ((HB2.out.block q HQ.out).trans HMPQ.out.2)
         have y12 := (hb2.cell (p := ⟨w.heap.size, 1, none⟩) (by have := HLC.out; have := HB1.out.size; show w.heap.size < _; omega)).trans y11
         clear hb2 kp1 kq1 y11)
      | (go_at_call 18; refine (pall_any _).mono ?_; rintro e w3 ⟨rfl, hb3⟩
         have HB3 := htr HB2 hb3
         have HZ3 := hid ((HB3.out.block (w.heap.size + 1) HLC.out).trans HZC.out)
         obtain ⟨m0, m1, m2, m3, m4, m5⟩ := row3 HZ3.out
         clear hb3))
    exact bodyPost_ret (v := .agg #[.slice none 0 0, .slice none 0 0, .bool false]) (results_cell_row (p := 4) (ty := 31) rfl _ _ (w.heap.size + 1) 31 _ (0, 0) _ rfl (set3 HZ3.out _ _ _) Tryd.underlying31 rfl Tryd.infoSpan) rfl ⟨_, _, rfl, World.ownsRow_nil _ _ _ _, World.ownsRow_nil _ _ _ _, apart_nil rfl, below3 (HBC.out.trans (HB3.out.mono HBC.out.size)) (by omega) _ _ _⟩


set_option maxHeartbeats 4000000 in
theorem pspan_all11 (op : Int) (tb nm : List UInt8) (vk vn : Int) (vs : List UInt8) (b off cc : Nat) (col : Int) (w : World)
    (k1 op1 : Int) (tb1 nm1 : List UInt8) (vk1 vn1 : Int) (vs1 : List UInt8) (aa1 : Option Addr) (nn1 cc1 : Nat) (k2 op2 : Int) (tb2 nm2 : List UInt8) (vk2 vn2 : Int) (vs2 : List UInt8) (aa2 : Option Addr) (nn2 cc2 : Nat)
    (h8a : At8 w b off k1 op1 tb1 nm1 vk1 vn1 vs1 (.slice aa1 nn1 cc1)) (h8b : At8 w b (off + 8) k2 op2 tb2 nm2 vk2 vn2 vs2 (.slice aa2 nn2 cc2)) (hcc : 2 ≤ cc) (hcm : cc ≤ maxLen) (ht : TstAt w) (ho : ¬ op = 2) (ys1 ys2 : List Ex) (htst : isTst op = true) (hc1 : isCol (.mk k1 op1 tb1 nm1 ⟨vk1, vn1, vs1⟩ ys1) col = true) (hk2 : ¬ k2 = 1) (hc2 : isCol (.mk k2 op2 tb2 nm2 ⟨vk2, vn2, vs2⟩ ys2) col = true) (hk1 : ¬ k1 = 1) :
    Calls Tryd.prog 9 #[.agg #[.int .i64 3, .int .i64 op, .string (str8 tb), .string (str8 nm), .int .i64 vk, .int .i64 vn, .string (str8 vs), .slice (some ⟨b, off, none⟩) 2 cc], .int .i64 col] w (SpP w allP) := by
  obtain ⟨z0, z1, hbW, hzW⟩ := alloc2 w (.cells #[.int .i64 3, .int .i64 op, .string (str8 tb), .string (str8 nm), .int .i64 vk, .int .i64 vn, .string (str8 vs), .slice (some ⟨b, off, none⟩) 2 cc] 26) (.cells #[.slice none 0 0, .slice none 0 0, .bool false] 31)
  obtain ⟨W, hW⟩ : ∃ W, (w.alloc (.cells #[.int .i64 3, .int .i64 op, .string (str8 tb), .string (str8 nm), .int .i64 vk, .int .i64 vn, .string (str8 vs), .slice (some ⟨b, off, none⟩) 2 cc] 26)).alloc (.cells #[.slice none 0 0, .slice none 0 0, .bool false] 31) = W := ⟨_, rfl⟩
  rw [hW] at z0 z1 hbW hzW
  have HY := hid (cells8 z0)
  have y0 := HY.out.1
  have y1 := HY.out.2.1
  have y7 := HY.out.2.2.2.2.2.2.2
  have HZ0 := hid z0
  have HZ1 := hid z1
  have HB := hid hbW
  have HL := hid (show w.heap.size + 1 < W.heap.size from by omega)
  have H8A := hid (h8a.on hbW)
  have H8B := hid (h8b.on hbW)
  have HT := hid (ht.on hbW)
  have hcm' : cc ≤ 9223372036854775807 := hcm
  clear z0 z1 hbW hzW h8a h8b ht
  go_enter Tryd.func9, Tryd.ntmps9
  go_wp2_with fail
  go_cut [5, 6] from 17 to 24 (fun u5 u6 wx => ∃ p q : Nat, u5 = .pointer (some ⟨p, 0, none⟩) ∧ u6 = .pointer (some ⟨q, 0, none⟩) ∧ Hid (Mid W p q #[.int .i64 k1, .int .i64 op1, .string (str8 tb1), .string (str8 nm1), .int .i64 vk1, .int .i64 vn1, .string (str8 vs1), .slice aa1 nn1 cc1] #[.int .i64 k2, .int .i64 op2, .string (str8 tb2), .string (str8 nm2), .int .i64 vk2, .int .i64 vn2, .string (str8 vs2), .slice aa2 nn2 cc2] wx))
  case first =>
    have HSN := hid (fun (V : World) (hb : Below W.heap.size W V) => (show (fun V : World => V.cell? ⟨w.heap.size, 7, none⟩ = some (.slice (some ⟨b, off, none⟩) 2 cc) ∧ (V.cell? ⟨b, off, none⟩ = some (.int .i64 k1) ∧ V.cell? ⟨b, off + 1, none⟩ = some (.int .i64 op1) ∧ V.cell? ⟨b, off + 2, none⟩ = some (.string (str8 tb1)) ∧ V.cell? ⟨b, off + 3, none⟩ = some (.string (str8 nm1)) ∧ V.cell? ⟨b, off + 4, none⟩ = some (.int .i64 vk1) ∧ V.cell? ⟨b, off + 5, none⟩ = some (.int .i64 vn1) ∧ V.cell? ⟨b, off + 6, none⟩ = some (.string (str8 vs1)) ∧ V.cell? ⟨b, off + 7, none⟩ = some (.slice aa1 nn1 cc1)) ∧ (V.cell? ⟨b, off + 8, none⟩ = some (.int .i64 k2) ∧ V.cell? ⟨b, off + 8 + 1, none⟩ = some (.int .i64 op2) ∧ V.cell? ⟨b, off + 8 + 2, none⟩ = some (.string (str8 tb2)) ∧ V.cell? ⟨b, off + 8 + 3, none⟩ = some (.string (str8 nm2)) ∧ V.cell? ⟨b, off + 8 + 4, none⟩ = some (.int .i64 vk2) ∧ V.cell? ⟨b, off + 8 + 5, none⟩ = some (.int .i64 vn2) ∧ V.cell? ⟨b, off + 8 + 6, none⟩ = some (.string (str8 vs2)) ∧ V.cell? ⟨b, off + 8 + 7, none⟩ = some (.slice aa2 nn2 cc2))) V from ⟨(hb.cell (p := ⟨w.heap.size, 7, none⟩) (by have := HL.out; show w.heap.size < _; omega)).trans y7, (H8A.out.on hb), (H8B.out.on hb)⟩))
    obtain ⟨W1, hW1, hbW1, hzW1, hcW1⟩ := box8 W.drew (.cells noEC 26)
    have hz1 : W1.heap.size = W.drew.heap.size + 1 := by rw [← hW1]; exact World.size_alloc _ _
    obtain ⟨W2, hW2, hbW2, hzW2, hcW2⟩ := box8 W1 (.cells noEC 26)
    obtain ⟨m1, m2, m3, m4, m5⟩ := mid_one (L := #[.int .i64 k1, .int .i64 op1, .string (str8 tb1), .string (str8 nm1), .int .i64 vk1, .int .i64 vn1, .string (str8 vs1), .slice aa1 nn1 cc1]) (R := #[.int .i64 k2, .int .i64 op2, .string (str8 tb2), .string (str8 nm2), .int .i64 vk2, .int .i64 vn2, .string (str8 vs2), .slice aa2 nn2 cc2]) hbW1 hz1 hcW1 hbW2 hcW2
    obtain ⟨l1, l2, l3⟩ := mid_two (L := #[.int .i64 k1, .int .i64 op1, .string (str8 tb1), .string (str8 nm1), .int .i64 vk1, .int .i64 vn1, .string (str8 vs1), .slice aa1 nn1 cc1]) (R := #[.int .i64 k2, .int .i64 op2, .string (str8 tb2), .string (str8 nm2), .int .i64 vk2, .int .i64 vn2, .string (str8 vs2), .slice aa2 nn2 cc2]) hbW1 hz1 hcW1 hbW2 hcW2
    have hd : Below W.heap.size W W.drew := (Below.refl _ W).drew
    have hS0 := HSN.out _ hd
    have hS1 := HSN.out _ (hd.trans hbW1)
    have hS2 := HSN.out _ (hd.trans m2)
    have hS3 := HSN.out _ (hd.trans m4)
    have hS4 := HSN.out _ (hd.trans l2)
    have HM1 := hid (show Mid W W.drew.heap.size W1.heap.size _ _ _ from ⟨hd.trans m5.1, m5.2⟩)
    have HM2 := hid (show Mid W W1.heap.size W.drew.heap.size _ _ _ from ⟨hd.trans l3.1, l3.2⟩)
    have hz1' : W1.heap.size = W.heap.size + 1 := hz1
    rw [hz1'] at HM1 HM2
    clear m5 l3 m2 m4 l2 hbW1 hbW2
    refine last_region (fun V : World => V.cell? ⟨w.heap.size, 7, none⟩ = some (.slice (some ⟨b, off, none⟩) 2 cc) ∧ (V.cell? ⟨b, off, none⟩ = some (.int .i64 k1) ∧ V.cell? ⟨b, off + 1, none⟩ = some (.int .i64 op1) ∧ V.cell? ⟨b, off + 2, none⟩ = some (.string (str8 tb1)) ∧ V.cell? ⟨b, off + 3, none⟩ = some (.string (str8 nm1)) ∧ V.cell? ⟨b, off + 4, none⟩ = some (.int .i64 vk1) ∧ V.cell? ⟨b, off + 5, none⟩ = some (.int .i64 vn1) ∧ V.cell? ⟨b, off + 6, none⟩ = some (.string (str8 vs1)) ∧ V.cell? ⟨b, off + 7, none⟩ = some (.slice aa1 nn1 cc1)) ∧ (V.cell? ⟨b, off + 8, none⟩ = some (.int .i64 k2) ∧ V.cell? ⟨b, off + 8 + 1, none⟩ = some (.int .i64 op2) ∧ V.cell? ⟨b, off + 8 + 2, none⟩ = some (.string (str8 tb2)) ∧ V.cell? ⟨b, off + 8 + 3, none⟩ = some (.string (str8 nm2)) ∧ V.cell? ⟨b, off + 8 + 4, none⟩ = some (.int .i64 vk2) ∧ V.cell? ⟨b, off + 8 + 5, none⟩ = some (.int .i64 vn2) ∧ V.cell? ⟨b, off + 8 + 6, none⟩ = some (.string (str8 vs2)) ∧ V.cell? ⟨b, off + 8 + 7, none⟩ = some (.slice aa2 nn2 cc2))) 11 (by kernel_rfl) ?_
    refine tkE (i := 0) rfl (by assumption) ?_
    refine tkE (i := 1) rfl (by assumption) ?_
    refine tkE (i := 2) rfl (by assumption) ?_
    refine tkE (i := 3) rfl (by assumption) ?_
    refine tkE (i := 4) rfl (by assumption) ?_
    refine tkE (i := 5) rfl (by assumption) ?_
    refine tkE (i := 6) rfl (by assumption) ?_
    refine tkE (i := 7) rfl (by assumption) ?_
    refine takeE_twoC (i := 8) (j := 9) (by kernel_rfl) rfl rfl rfl rfl ?_ ?_
    · refine wp_valueC (exec_alX _ _ rfl _) ?_
      rw [hW1]
      refine ⟨.inl hS1, ?_⟩
      simp only [Act.put, List.getElem_toArray, List.getElem_cons_zero, List.getElem_cons_succ, List.setIfInBounds_toArray, List.set_cons_zero, List.set_cons_succ]
      refine takeE_one (i := 9) (by kernel_rfl) rfl rfl (wp_valueC (exec_alX _ _ rfl _) ?_)
      rw [hW2]
      refine ⟨.inl hS2, ?_⟩
      simp only [Act.put, List.getElem_toArray, List.getElem_cons_zero, List.getElem_cons_succ, List.setIfInBounds_toArray, List.set_cons_zero, List.set_cons_succ]
      refine takeE_storerowC (i := 10) (by kernel_rfl) rfl rfl 26 (.tmp 5) (.tmp 20) rfl W.drew.heap.size #[.int .i64 k1, .int .i64 op1, .string (str8 tb1), .string (str8 nm1), .int .i64 vk1, .int .i64 vn1, .string (str8 vs1), .slice aa1 nn1 cc1] (by rfl) (by rfl) 26 _ m1 Tryd.infoExpr8 rfl (one8 _ _ _ _ _ _ _ _ _ _) (.inl hS3) ?_
      refine takeE_storerowC (i := 11) (by kernel_rfl) rfl rfl 26 (.tmp 6) (.tmp 24) rfl W1.heap.size #[.int .i64 k2, .int .i64 op2, .string (str8 tb2), .string (str8 nm2), .int .i64 vk2, .int .i64 vn2, .string (str8 vs2), .slice aa2 nn2 cc2] (by rfl) (by rfl) 26 _ m3 Tryd.infoExpr8 rfl (one8 _ _ _ _ _ _ _ _ _ _) (.inr rfl) ?_
      refine wpAnyE_done (by kernel_rfl) ?_ _
      show Only _ .normal _ _
      unfold Only
      go_wp2_with fail
      go_meet
      exact ⟨_, _, rfl, rfl, HM1⟩
    · refine wp_valueC (exec_alX _ _ rfl _) ?_
      rw [hW1]
      refine ⟨.inl hS1, ?_⟩
      simp only [Act.put, List.getElem_toArray, List.getElem_cons_zero, List.getElem_cons_succ, List.setIfInBounds_toArray, List.set_cons_zero, List.set_cons_succ]
      refine takeE_one (i := 8) (by kernel_rfl) rfl rfl (wp_valueC (exec_alX _ _ rfl _) ?_)
      rw [hW2]
      refine ⟨.inl hS2, ?_⟩
      simp only [Act.put, List.getElem_toArray, List.getElem_cons_zero, List.getElem_cons_succ, List.setIfInBounds_toArray, List.set_cons_zero, List.set_cons_succ]
      refine takeE_storerowC (i := 10) (by kernel_rfl) rfl rfl 26 (.tmp 5) (.tmp 20) rfl W1.heap.size #[.int .i64 k1, .int .i64 op1, .string (str8 tb1), .string (str8 nm1), .int .i64 vk1, .int .i64 vn1, .string (str8 vs1), .slice aa1 nn1 cc1] (by rfl) (by rfl) 26 _ hcW2 Tryd.infoExpr8 rfl (one8 _ _ _ _ _ _ _ _ _ _) (.inl hS4) ?_
      refine takeE_storerowC (i := 11) (by kernel_rfl) rfl rfl 26 (.tmp 6) (.tmp 24) rfl W.drew.heap.size #[.int .i64 k2, .int .i64 op2, .string (str8 tb2), .string (str8 nm2), .int .i64 vk2, .int .i64 vn2, .string (str8 vs2), .slice aa2 nn2 cc2] (by rfl) (by rfl) 26 _ l1 Tryd.infoExpr8 rfl (one8 _ _ _ _ _ _ _ _ _ _) (.inr rfl) ?_
      refine wpAnyE_done (by kernel_rfl) ?_ _
      show Only _ .normal _ _
      unfold Only
      go_wp2_with fail
      go_meet
      exact ⟨_, _, rfl, rfl, HM2⟩
  case rest =>
    obtain ⟨p, q, rfl, rfl, HM⟩ := hcut
    obtain ⟨HMB, HMP, HMQ⟩ := HM.out
    have hwp : w.heap.size + 1 < wc.heap.size := Nat.lt_of_lt_of_le HL.out HMB.size
    have HP := hid (block_lt HMP)
    have HQ := hid (block_lt HMQ)
    have HMPQ := hid (And.intro HMP HMQ)
    have kp := cells8 HMP
    have kq := cells8 HMQ
    have y1c := (HMB.cell (p := ⟨w.heap.size, 1, none⟩) (by have := HL.out; show w.heap.size < _; omega)).trans y1
    have HZC := hid ((HMB.block (w.heap.size + 1) HL.out).trans HZ1.out)
    have HTC := hid (HT.out.below HMB HT.out.lt)
    have HBC := htr HB HMB
    have HLC := hid hwp
    clear HMB HMP HMQ hwp y0 y1 y7 HY HZ0 HZ1 HM H8A H8B HT HB
    have HTST := ptest_any op wc HTC.out
    rw [htst] at HTST
    have HC1 := pcol_any k1 op1 tb1 nm1 vk1 vn1 vs1 ys1 aa1 nn1 cc1 col wc
    rw [hc1] at HC1
    have HCB := hid (fun V => pcol_any k2 op2 tb2 nm2 vk2 vn2 vs2 ys2 aa2 nn2 cc2 col V)
    rw [hc2] at HCB
    go_wp2_with (first
      | (go_at_call 24; refine HTST.mono ?_; clear HTST; rintro e wt ⟨rfl, hwt⟩; replace hwt := hwt.symm; subst hwt)
      | (go_at_call 25; refine HC1.mono ?_; clear HC1; rintro e w1 ⟨rfl, hb1⟩
         have kp1 := cells8 ((hb1.block p HP.out).trans HMPQ.out.1)
         have kq1 := cells8 ((hb1.block q HQ.out).trans HMPQ.out.2)
         have y11 := (hb1.cell (p := ⟨w.heap.size, 1, none⟩) (by have := HLC.out; show w.heap.size < _; omega)).trans y1c
         have HB1 := hid hb1
         have HC2 := HCB.out w1
         clear hb1 kp kq y1c)
      | (go_at_call 25; refine HC2.mono ?_; clear HC2; rintro e w2 ⟨rfl, hb2⟩
         have HB2 := htr HB1 hb2
         have kp2 := cells8 ((HB2.out.block p HP.out).trans HMPQ.out.1)
         have kq2 := cells8 ((HB2.out.block q HQ.out).trans HMPQ.out.2)
         have y12 := (hb2.cell (p := ⟨w.heap.size, 1, none⟩) (by have := HLC.out; have := HB1.out.size; show w.heap.size < _; omega)).trans y11
         clear hb2 kp1 kq1 y11)
      | (go_at_call 18; refine (pall_any _).mono ?_; rintro e w3 ⟨rfl, hb3⟩
         have HB3 := htr HB2 hb3
         have HZ3 := hid ((HB3.out.block (w.heap.size + 1) HLC.out).trans HZC.out)
         obtain ⟨m0, m1, m2, m3, m4, m5⟩ := row3 HZ3.out
         clear hb3))
    exact bodyPost_ret (v := .agg #[.slice none 0 0, .slice none 0 0, .bool false]) (results_cell_row (p := 4) (ty := 31) rfl _ _ (w.heap.size + 1) 31 _ (0, 0) _ rfl (set3 HZ3.out _ _ _) Tryd.underlying31 rfl Tryd.infoSpan) rfl ⟨_, _, rfl, World.ownsRow_nil _ _ _ _, World.ownsRow_nil _ _ _ _, apart_nil rfl, below3 (HBC.out.trans (HB3.out.mono HBC.out.size)) (by omega) _ _ _⟩


end Go.Proofs.YthjgbcbgkafgjaaDoor
