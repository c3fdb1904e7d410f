/- The program's Meet, walks (tools/plmeet.py). -/
import Derived.Test.YthjgbcbgkafgjaaDoorPlPH
namespace Go.Proofs.YthjgbcbgkafgjaaDoor
open Go.RowKit Go.Shelf
set_option linter.unusedVariables false
set_option linter.unusedSimpArgs false
set_option maxRecDepth 20000

set_option maxHeartbeats 2000000 in
theorem pmeet_000 (x1 x2 x3 x4 : Option Addr) (c1 c2 c3 c4 : Nat) (a1 b1 a2 b2 : List UInt8) (w : World) (h1 : Says w (.slice x1 a1.length c1) a1) (h2 : Says w (.slice x2 b1.length c2) b1) (h3 : Says w (.slice x3 a2.length c3) a2) (h4 : Says w (.slice x4 b2.length c4) b2)
    (l1 : a1.length ≤ 140737488351232) (l2 : b1.length ≤ 140737488351232) (l3 : a2.length ≤ 140737488351232) (l4 : b2.length ≤ 140737488351232) (c : Int) (r1 : Lib.compareBytes a2 a1 = c) (q1 : ¬ 0 < c) :
    Calls Tryd.prog 14 #[.agg #[.slice x1 a1.length c1, .slice x2 b1.length c2, .bool false], .agg #[.slice x3 a2.length c3, .slice x4 b2.length c4, .bool false]] w fun e w' => ∃ fv tv, e = .returned (.agg #[fv, tv, .bool false]) ∧ Copy w.heap.size w' fv a1 ∧ Copy w.heap.size w' tv [] ∧ (∀ g, fv.ownBlock = some g → tv.ownBlock ≠ some g) ∧ Below w.heap.size w w' := by
  obtain ⟨z0, z1, z2, hbW, hzW⟩ := alloc3 w (.cells #[.slice x1 a1.length c1, .slice x2 b1.length c2, .bool false] 31) (.cells #[.slice x3 a2.length c3, .slice x4 b2.length c4, .bool false] 31) (.cells #[.slice none 0 0, .slice none 0 0, .bool false] 31)
  generalize hW3 : ((w.alloc (.cells #[.slice x1 a1.length c1, .slice x2 b1.length c2, .bool false] 31)).alloc (.cells #[.slice x3 a2.length c3, .slice x4 b2.length c4, .bool false] 31)).alloc (.cells #[.slice none 0 0, .slice none 0 0, .bool false] 31) = W at *
  obtain ⟨y0, y1, y2, _⟩ := row3 z0
  obtain ⟨y3, y4, y5, _⟩ := row3 z1
  replace h1 := h1.new hbW
  replace h2 := h2.new hbW
  replace h3 := h3.new hbW
  replace h4 := h4.new hbW
  have HCM := hid (fun V (hb : Below W.heap.size W V) => bcompare_any _ _ (.slice x3 a2.length c3) (.slice x1 a1.length c1) a2 a1 V (h3.new hb) (h1.new hb))
  rw [r1] at HCM
  have HC1 := hid (fun V (hb : Below W.heap.size W V) => pclone_any (.slice x1 a1.length c1) a1 V (h1.new hb) l1)
  have HC2 := hid (fun V (hb : Below W.heap.size W V) => pclone_any (.slice none 0 0) [] V (says_nil _) (by simp))
  have HZ := hid z2
  have HB := hid hbW
  have HL := hid (show w.heap.size + 1 + 1 < W.heap.size from by omega)
  have hS0 := hid (And.intro y2 y5)
  clear h1 h2 h3 h4 l1 l2 l3 l4 r1 z0 z1 z2 hbW hzW
  go_enter Tryd.func14, Tryd.ntmps14
  go_wp2_with fail
  go_quiet (fail)
  go_wp2_with (go_at_call 31; first
    | (refine (HCM.out _ (below_drewN _ _ _)).mono ?_; clear HCM; rintro e w1 ⟨rfl, rfl⟩))
  have HBV := hid (show Below W.heap.size W (W.drewN nq).drew from (below_drewN _ _ _).drew)
  have HSN := hid (fun (V : World) (hb : Below W.heap.size W V) => (show (fun V : World => V.cell? ⟨w.heap.size, 2, none⟩ = some (.bool false) ∧ V.cell? ⟨w.heap.size + 1, 2, none⟩ = some (.bool false) ∧ True) V from ⟨(hb.cell (p := ⟨w.heap.size, 2, none⟩) (by have := HL.out; show w.heap.size < _; omega)).trans hS0.out.1, (hb.cell (p := ⟨w.heap.size + 1, 2, none⟩) (by have := HL.out; show w.heap.size + 1 < _; omega)).trans hS0.out.2, trivial⟩))
  have hS2 := HSN.out _ HBV.out
  refine last_region (fun V : World => V.cell? ⟨w.heap.size, 2, none⟩ = some (.bool false) ∧ V.cell? ⟨w.heap.size + 1, 2, none⟩ = some (.bool false) ∧ True) 11 (by kernel_rfl) ?_
  refine tkE (i := 0) rfl (by assumption) ?_
  refine tkE (i := 2) rfl (by assumption) ?_
  refine tkE (i := 4) rfl (by assumption) ?_
  refine tkE (i := 5) rfl (by assumption) ?_
  refine takeE_callw (i := 1) #[.slice x1 a1.length c1] (fun u w' => ∃ a3 k3, u = .slice a3 a1.length k3 ∧ Copy W.heap.size w' u a1 ∧ Below W.heap.size W w') (by kernel_rfl) rfl (by rfl) rfl (by kernel_rfl) (enters_of Tryd.func32 (by kernel_rfl) rfl) ((HC1.out _ HBV.out).mono fun e w' ⟨v', h1, h2, h3⟩ => ?_) ?_
  · obtain ⟨a3, k3, rfl⟩ := h2.form
    exact ⟨_, h1, a3, k3, rfl, owns_lower h2 (fun g hg => Nat.le_trans HBV.out.size (h2.lt g hg).1), HBV.out.trans (h3.mono HBV.out.size)⟩
  rintro u3 w3 ⟨a3, k3, rfl, hf3, hb3⟩
  have hS3 := HSN.out _ hb3
  have HF3 := hid hf3
  have HB3 := hid hb3
  refine ⟨hS3, ?_⟩
  simp only [Act.put, List.getElem_toArray, List.getElem_cons_zero, List.getElem_cons_succ, List.setIfInBounds_toArray, List.set_cons_zero, List.set_cons_succ]
  clear hf3 hb3 HC1
  refine takeE_callw (i := 3) #[.slice none 0 0] (fun u w' => ∃ a4 k4, u = .slice a4 ([] : List UInt8).length k4 ∧ Copy w3.heap.size w' u ([] : List UInt8) ∧ Below w3.heap.size w3 w') (by kernel_rfl) rfl (by rfl) rfl (by kernel_rfl) (enters_of Tryd.func32 (by kernel_rfl) rfl) ((HC2.out _ HB3.out).mono fun e w' ⟨v', h1, h2, h3⟩ => ?_) ?_
  · obtain ⟨a4, k4, rfl⟩ := h2.form
    exact ⟨_, h1, a4, k4, rfl, h2, h3⟩
  rintro u4 w4 ⟨a4, k4, rfl, ht4, hb4⟩
  have hS4 := HSN.out _ (HB3.out.trans (hb4.mono HB3.out.size))
  have H4 := hid ((hb4.block _ (by have := HL.out; have := HB3.out.size; omega)).trans ((HB3.out.block _ (by have := HL.out; omega)).trans HZ.out))
  have HF4 := hid (HF3.out.new hb4)
  have HT4 := hid ht4
  have HB4 := htr HB3 hb4
  refine ⟨hS4, ?_⟩
  simp only [Act.put, List.getElem_toArray, List.getElem_cons_zero, List.getElem_cons_succ, List.setIfInBounds_toArray, List.set_cons_zero, List.set_cons_succ]
  clear ht4 hb4 HC2
  refine tkE (i := 6) rfl (by assumption) ?_
  refine tkE (i := 7) rfl (by assumption) ?_
  refine tkE (i := 8) rfl (by assumption) ?_
  refine tkE (i := 9) rfl (by assumption) ?_
  refine tkE (i := 10) rfl (by assumption) ?_
  refine takeE_storerowC (i := 11) (by kernel_rfl) rfl rfl 31 (.tmp 4) (.tmp 54) rfl (w.heap.size + 1 + 1) #[.slice a3 a1.length k3, .slice a4 ([] : List UInt8).length k4, .bool false] (by rfl) (by rfl) 31 _ H4.out Tryd.infoSpan rfl (by simp [Value.oneCell']) (.inr rfl) ?_
  refine wpAnyE_done (by kernel_rfl) ?_ _
  show Only _ .normal _ _
  unfold Only
  have HZ4 := hid (setRow_heap w4 (w.heap.size + 1 + 1) _ #[.slice a3 a1.length k3, .slice a4 ([] : List UInt8).length k4, .bool false] _ _ H4.out)
  have HSP := hid (Spares.setRow (S := fun k => k = w.heap.size + 1 + 1) (Spares.refl _ w4) (p := w.heap.size + 1 + 1) (.inl rfl) #[.slice a3 a1.length k3, .slice a4 ([] : List UInt8).length k4, .bool false])
  generalize w4.setRow (w.heap.size + 1 + 1) #[.slice a3 a1.length k3, .slice a4 ([] : List UInt8).length k4, .bool false] = Z at *
  clear hS2 hS3 hS4 hS0 HSN
  go_wp2_with fail
  refine bodyPost_ret (v := .agg #[.slice a3 a1.length k3, .slice a4 ([] : List UInt8).length k4, .bool false]) (results_cell_row (p := 4) (ty := 31) rfl _ _ (w.heap.size + 1 + 1) 31 _ (0, 0) _ rfl HZ4.out Tryd.underlying31 rfl Tryd.infoSpan) rfl ⟨_, _, rfl, ?_, ?_, ?_, ?_⟩
  · exact HF4.out.spares HSP.out (fun i hi => by have := HL.out; omega) (by have := HL.out; omega)
  · exact HT4.out.spares HSP.out (fun i hi => by have := HL.out; have := HB3.out.size; omega) (by have := HL.out; have := HB3.out.size; omega)
  · intro g hg hg'
    have h1 := (HF3.out.lt g hg).2
    have h2 := (HT4.out.lt g hg').1
    omega
  · exact (HB.out.trans (HB4.out.mono HB.out.size)).trans (HSP.out.below (fun i hi => by have h : i = w.heap.size + 1 + 1 := hi; omega) (Nat.le_trans HB.out.size HB4.out.size))

set_option maxHeartbeats 2000000 in
theorem pmeet_001 (x1 x2 x3 x4 : Option Addr) (c1 c2 c3 c4 : Nat) (a1 b1 a2 b2 : List UInt8) (w : World) (h1 : Says w (.slice x1 a1.length c1) a1) (h2 : Says w (.slice x2 b1.length c2) b1) (h3 : Says w (.slice x3 a2.length c3) a2) (h4 : Says w (.slice x4 b2.length c4) b2)
    (l1 : a1.length ≤ 140737488351232) (l2 : b1.length ≤ 140737488351232) (l3 : a2.length ≤ 140737488351232) (l4 : b2.length ≤ 140737488351232) (c : Int) (r1 : Lib.compareBytes a2 a1 = c) (q1 : 0 < c) :
    Calls Tryd.prog 14 #[.agg #[.slice x1 a1.length c1, .slice x2 b1.length c2, .bool false], .agg #[.slice x3 a2.length c3, .slice x4 b2.length c4, .bool false]] w fun e w' => ∃ fv tv, e = .returned (.agg #[fv, tv, .bool false]) ∧ Copy w.heap.size w' fv a2 ∧ Copy w.heap.size w' tv [] ∧ (∀ g, fv.ownBlock = some g → tv.ownBlock ≠ some g) ∧ Below w.heap.size w w' := by
  obtain ⟨z0, z1, z2, hbW, hzW⟩ := alloc3 w (.cells #[.slice x1 a1.length c1, .slice x2 b1.length c2, .bool false] 31) (.cells #[.slice x3 a2.length c3, .slice x4 b2.length c4, .bool false] 31) (.cells #[.slice none 0 0, .slice none 0 0, .bool false] 31)
  generalize hW3 : ((w.alloc (.cells #[.slice x1 a1.length c1, .slice x2 b1.length c2, .bool false] 31)).alloc (.cells #[.slice x3 a2.length c3, .slice x4 b2.length c4, .bool false] 31)).alloc (.cells #[.slice none 0 0, .slice none 0 0, .bool false] 31) = W at *
  obtain ⟨y0, y1, y2, _⟩ := row3 z0
  obtain ⟨y3, y4, y5, _⟩ := row3 z1
  replace h1 := h1.new hbW
  replace h2 := h2.new hbW
  replace h3 := h3.new hbW
  replace h4 := h4.new hbW
  have HCM := hid (fun V (hb : Below W.heap.size W V) => bcompare_any _ _ (.slice x3 a2.length c3) (.slice x1 a1.length c1) a2 a1 V (h3.new hb) (h1.new hb))
  rw [r1] at HCM
  have HC1 := hid (fun V (hb : Below W.heap.size W V) => pclone_any (.slice x3 a2.length c3) a2 V (h3.new hb) l3)
  have HC2 := hid (fun V (hb : Below W.heap.size W V) => pclone_any (.slice none 0 0) [] V (says_nil _) (by simp))
  have HZ := hid z2
  have HB := hid hbW
  have HL := hid (show w.heap.size + 1 + 1 < W.heap.size from by omega)
  have hS0 := hid (And.intro y2 y5)
  clear h1 h2 h3 h4 l1 l2 l3 l4 r1 z0 z1 z2 hbW hzW
  go_enter Tryd.func14, Tryd.ntmps14
  go_wp2_with fail
  go_quiet (fail)
  go_wp2_with (go_at_call 31; first
    | (refine (HCM.out _ (below_drewN _ _ _)).mono ?_; clear HCM; rintro e w1 ⟨rfl, rfl⟩))
  have HBV := hid (show Below W.heap.size W (W.drewN nq).drew from (below_drewN _ _ _).drew)
  have HSN := hid (fun (V : World) (hb : Below W.heap.size W V) => (show (fun V : World => V.cell? ⟨w.heap.size, 2, none⟩ = some (.bool false) ∧ V.cell? ⟨w.heap.size + 1, 2, none⟩ = some (.bool false) ∧ True) V from ⟨(hb.cell (p := ⟨w.heap.size, 2, none⟩) (by have := HL.out; show w.heap.size < _; omega)).trans hS0.out.1, (hb.cell (p := ⟨w.heap.size + 1, 2, none⟩) (by have := HL.out; show w.heap.size + 1 < _; omega)).trans hS0.out.2, trivial⟩))
  have hS2 := HSN.out _ HBV.out
  refine last_region (fun V : World => V.cell? ⟨w.heap.size, 2, none⟩ = some (.bool false) ∧ V.cell? ⟨w.heap.size + 1, 2, none⟩ = some (.bool false) ∧ True) 11 (by kernel_rfl) ?_
  refine tkE (i := 0) rfl (by assumption) ?_
  refine tkE (i := 2) rfl (by assumption) ?_
  refine tkE (i := 4) rfl (by assumption) ?_
  refine tkE (i := 5) rfl (by assumption) ?_
  refine takeE_callw (i := 1) #[.slice x3 a2.length c3] (fun u w' => ∃ a3 k3, u = .slice a3 a2.length k3 ∧ Copy W.heap.size w' u a2 ∧ Below W.heap.size W w') (by kernel_rfl) rfl (by rfl) rfl (by kernel_rfl) (enters_of Tryd.func32 (by kernel_rfl) rfl) ((HC1.out _ HBV.out).mono fun e w' ⟨v', h1, h2, h3⟩ => ?_) ?_
  · obtain ⟨a3, k3, rfl⟩ := h2.form
    exact ⟨_, h1, a3, k3, rfl, owns_lower h2 (fun g hg => Nat.le_trans HBV.out.size (h2.lt g hg).1), HBV.out.trans (h3.mono HBV.out.size)⟩
  rintro u3 w3 ⟨a3, k3, rfl, hf3, hb3⟩
  have hS3 := HSN.out _ hb3
  have HF3 := hid hf3
  have HB3 := hid hb3
  refine ⟨hS3, ?_⟩
  simp only [Act.put, List.getElem_toArray, List.getElem_cons_zero, List.getElem_cons_succ, List.setIfInBounds_toArray, List.set_cons_zero, List.set_cons_succ]
  clear hf3 hb3 HC1
  refine takeE_callw (i := 3) #[.slice none 0 0] (fun u w' => ∃ a4 k4, u = .slice a4 ([] : List UInt8).length k4 ∧ Copy w3.heap.size w' u ([] : List UInt8) ∧ Below w3.heap.size w3 w') (by kernel_rfl) rfl (by rfl) rfl (by kernel_rfl) (enters_of Tryd.func32 (by kernel_rfl) rfl) ((HC2.out _ HB3.out).mono fun e w' ⟨v', h1, h2, h3⟩ => ?_) ?_
  · obtain ⟨a4, k4, rfl⟩ := h2.form
    exact ⟨_, h1, a4, k4, rfl, h2, h3⟩
  rintro u4 w4 ⟨a4, k4, rfl, ht4, hb4⟩
  have hS4 := HSN.out _ (HB3.out.trans (hb4.mono HB3.out.size))
  have H4 := hid ((hb4.block _ (by have := HL.out; have := HB3.out.size; omega)).trans ((HB3.out.block _ (by have := HL.out; omega)).trans HZ.out))
  have HF4 := hid (HF3.out.new hb4)
  have HT4 := hid ht4
  have HB4 := htr HB3 hb4
  refine ⟨hS4, ?_⟩
  simp only [Act.put, List.getElem_toArray, List.getElem_cons_zero, List.getElem_cons_succ, List.setIfInBounds_toArray, List.set_cons_zero, List.set_cons_succ]
  clear ht4 hb4 HC2
  refine tkE (i := 6) rfl (by assumption) ?_
  refine tkE (i := 7) rfl (by assumption) ?_
  refine tkE (i := 8) rfl (by assumption) ?_
  refine tkE (i := 9) rfl (by assumption) ?_
  refine tkE (i := 10) rfl (by assumption) ?_
  refine takeE_storerowC (i := 11) (by kernel_rfl) rfl rfl 31 (.tmp 4) (.tmp 54) rfl (w.heap.size + 1 + 1) #[.slice a3 a2.length k3, .slice a4 ([] : List UInt8).length k4, .bool false] (by rfl) (by rfl) 31 _ H4.out Tryd.infoSpan rfl (by simp [Value.oneCell']) (.inr rfl) ?_
  refine wpAnyE_done (by kernel_rfl) ?_ _
  show Only _ .normal _ _
  unfold Only
  have HZ4 := hid (setRow_heap w4 (w.heap.size + 1 + 1) _ #[.slice a3 a2.length k3, .slice a4 ([] : List UInt8).length k4, .bool false] _ _ H4.out)
  have HSP := hid (Spares.setRow (S := fun k => k = w.heap.size + 1 + 1) (Spares.refl _ w4) (p := w.heap.size + 1 + 1) (.inl rfl) #[.slice a3 a2.length k3, .slice a4 ([] : List UInt8).length k4, .bool false])
  generalize w4.setRow (w.heap.size + 1 + 1) #[.slice a3 a2.length k3, .slice a4 ([] : List UInt8).length k4, .bool false] = Z at *
  clear hS2 hS3 hS4 hS0 HSN
  go_wp2_with fail
  refine bodyPost_ret (v := .agg #[.slice a3 a2.length k3, .slice a4 ([] : List UInt8).length k4, .bool false]) (results_cell_row (p := 4) (ty := 31) rfl _ _ (w.heap.size + 1 + 1) 31 _ (0, 0) _ rfl HZ4.out Tryd.underlying31 rfl Tryd.infoSpan) rfl ⟨_, _, rfl, ?_, ?_, ?_, ?_⟩
  · exact HF4.out.spares HSP.out (fun i hi => by have := HL.out; omega) (by have := HL.out; omega)
  · exact HT4.out.spares HSP.out (fun i hi => by have := HL.out; have := HB3.out.size; omega) (by have := HL.out; have := HB3.out.size; omega)
  · intro g hg hg'
    have h1 := (HF3.out.lt g hg).2
    have h2 := (HT4.out.lt g hg').1
    omega
  · exact (HB.out.trans (HB4.out.mono HB.out.size)).trans (HSP.out.below (fun i hi => by have h : i = w.heap.size + 1 + 1 := hi; omega) (Nat.le_trans HB.out.size HB4.out.size))

set_option maxHeartbeats 2000000 in
theorem pmeet_010 (x1 x2 x3 x4 : Option Addr) (c1 c2 c3 c4 : Nat) (a1 b1 a2 b2 : List UInt8) (w : World) (h1 : Says w (.slice x1 a1.length c1) a1) (h2 : Says w (.slice x2 b1.length c2) b1) (h3 : Says w (.slice x3 a2.length c3) a2) (h4 : Says w (.slice x4 b2.length c4) b2)
    (l1 : a1.length ≤ 140737488351232) (l2 : b1.length ≤ 140737488351232) (l3 : a2.length ≤ 140737488351232) (l4 : b2.length ≤ 140737488351232) (c : Int) (r1 : Lib.compareBytes a2 a1 = c) (q1 : ¬ 0 < c) :
    Calls Tryd.prog 14 #[.agg #[.slice x1 a1.length c1, .slice x2 b1.length c2, .bool false], .agg #[.slice x3 a2.length c3, .slice x4 b2.length c4, .bool true]] w fun e w' => ∃ fv tv, e = .returned (.agg #[fv, tv, .bool true]) ∧ Copy w.heap.size w' fv a1 ∧ Copy w.heap.size w' tv b2 ∧ (∀ g, fv.ownBlock = some g → tv.ownBlock ≠ some g) ∧ Below w.heap.size w w' := by
  obtain ⟨z0, z1, z2, hbW, hzW⟩ := alloc3 w (.cells #[.slice x1 a1.length c1, .slice x2 b1.length c2, .bool false] 31) (.cells #[.slice x3 a2.length c3, .slice x4 b2.length c4, .bool true] 31) (.cells #[.slice none 0 0, .slice none 0 0, .bool false] 31)
  generalize hW3 : ((w.alloc (.cells #[.slice x1 a1.length c1, .slice x2 b1.length c2, .bool false] 31)).alloc (.cells #[.slice x3 a2.length c3, .slice x4 b2.length c4, .bool true] 31)).alloc (.cells #[.slice none 0 0, .slice none 0 0, .bool false] 31) = W at *
  obtain ⟨y0, y1, y2, _⟩ := row3 z0
  obtain ⟨y3, y4, y5, _⟩ := row3 z1
  replace h1 := h1.new hbW
  replace h2 := h2.new hbW
  replace h3 := h3.new hbW
  replace h4 := h4.new hbW
  have HCM := hid (fun V (hb : Below W.heap.size W V) => bcompare_any _ _ (.slice x3 a2.length c3) (.slice x1 a1.length c1) a2 a1 V (h3.new hb) (h1.new hb))
  rw [r1] at HCM
  have HC1 := hid (fun V (hb : Below W.heap.size W V) => pclone_any (.slice x1 a1.length c1) a1 V (h1.new hb) l1)
  have HC2 := hid (fun V (hb : Below W.heap.size W V) => pclone_any (.slice x4 b2.length c4) b2 V (h4.new hb) l4)
  have HZ := hid z2
  have HB := hid hbW
  have HL := hid (show w.heap.size + 1 + 1 < W.heap.size from by omega)
  have hS0 := hid (And.intro y2 y5)
  clear h1 h2 h3 h4 l1 l2 l3 l4 r1 z0 z1 z2 hbW hzW
  go_enter Tryd.func14, Tryd.ntmps14
  go_wp2_with fail
  go_quiet (fail)
  go_wp2_with (go_at_call 31; first
    | (refine (HCM.out _ (below_drewN _ _ _)).mono ?_; clear HCM; rintro e w1 ⟨rfl, rfl⟩))
  have HBV := hid (show Below W.heap.size W (W.drewN nq).drew from (below_drewN _ _ _).drew)
  have HSN := hid (fun (V : World) (hb : Below W.heap.size W V) => (show (fun V : World => V.cell? ⟨w.heap.size, 2, none⟩ = some (.bool false) ∧ V.cell? ⟨w.heap.size + 1, 2, none⟩ = some (.bool true) ∧ True) V from ⟨(hb.cell (p := ⟨w.heap.size, 2, none⟩) (by have := HL.out; show w.heap.size < _; omega)).trans hS0.out.1, (hb.cell (p := ⟨w.heap.size + 1, 2, none⟩) (by have := HL.out; show w.heap.size + 1 < _; omega)).trans hS0.out.2, trivial⟩))
  have hS2 := HSN.out _ HBV.out
  refine last_region (fun V : World => V.cell? ⟨w.heap.size, 2, none⟩ = some (.bool false) ∧ V.cell? ⟨w.heap.size + 1, 2, none⟩ = some (.bool true) ∧ True) 11 (by kernel_rfl) ?_
  refine tkE (i := 0) rfl (by assumption) ?_
  refine tkE (i := 2) rfl (by assumption) ?_
  refine tkE (i := 4) rfl (by assumption) ?_
  refine tkE (i := 5) rfl (by assumption) ?_
  refine takeE_callw (i := 1) #[.slice x1 a1.length c1] (fun u w' => ∃ a3 k3, u = .slice a3 a1.length k3 ∧ Copy W.heap.size w' u a1 ∧ Below W.heap.size W w') (by kernel_rfl) rfl (by rfl) rfl (by kernel_rfl) (enters_of Tryd.func32 (by kernel_rfl) rfl) ((HC1.out _ HBV.out).mono fun e w' ⟨v', h1, h2, h3⟩ => ?_) ?_
  · obtain ⟨a3, k3, rfl⟩ := h2.form
    exact ⟨_, h1, a3, k3, rfl, owns_lower h2 (fun g hg => Nat.le_trans HBV.out.size (h2.lt g hg).1), HBV.out.trans (h3.mono HBV.out.size)⟩
  rintro u3 w3 ⟨a3, k3, rfl, hf3, hb3⟩
  have hS3 := HSN.out _ hb3
  have HF3 := hid hf3
  have HB3 := hid hb3
  refine ⟨hS3, ?_⟩
  simp only [Act.put, List.getElem_toArray, List.getElem_cons_zero, List.getElem_cons_succ, List.setIfInBounds_toArray, List.set_cons_zero, List.set_cons_succ]
  clear hf3 hb3 HC1
  refine takeE_callw (i := 3) #[.slice x4 b2.length c4] (fun u w' => ∃ a4 k4, u = .slice a4 b2.length k4 ∧ Copy w3.heap.size w' u b2 ∧ Below w3.heap.size w3 w') (by kernel_rfl) rfl (by rfl) rfl (by kernel_rfl) (enters_of Tryd.func32 (by kernel_rfl) rfl) ((HC2.out _ HB3.out).mono fun e w' ⟨v', h1, h2, h3⟩ => ?_) ?_
  · obtain ⟨a4, k4, rfl⟩ := h2.form
    exact ⟨_, h1, a4, k4, rfl, h2, h3⟩
  rintro u4 w4 ⟨a4, k4, rfl, ht4, hb4⟩
  have hS4 := HSN.out _ (HB3.out.trans (hb4.mono HB3.out.size))
  have H4 := hid ((hb4.block _ (by have := HL.out; have := HB3.out.size; omega)).trans ((HB3.out.block _ (by have := HL.out; omega)).trans HZ.out))
  have HF4 := hid (HF3.out.new hb4)
  have HT4 := hid ht4
  have HB4 := htr HB3 hb4
  refine ⟨hS4, ?_⟩
  simp only [Act.put, List.getElem_toArray, List.getElem_cons_zero, List.getElem_cons_succ, List.setIfInBounds_toArray, List.set_cons_zero, List.set_cons_succ]
  clear ht4 hb4 HC2
  refine tkE (i := 6) rfl (by assumption) ?_
  refine tkE (i := 7) rfl (by assumption) ?_
  refine tkE (i := 8) rfl (by assumption) ?_
  refine tkE (i := 9) rfl (by assumption) ?_
  refine tkE (i := 10) rfl (by assumption) ?_
  refine takeE_storerowC (i := 11) (by kernel_rfl) rfl rfl 31 (.tmp 4) (.tmp 54) rfl (w.heap.size + 1 + 1) #[.slice a3 a1.length k3, .slice a4 b2.length k4, .bool true] (by rfl) (by rfl) 31 _ H4.out Tryd.infoSpan rfl (by simp [Value.oneCell']) (.inr rfl) ?_
  refine wpAnyE_done (by kernel_rfl) ?_ _
  show Only _ .normal _ _
  unfold Only
  have HZ4 := hid (setRow_heap w4 (w.heap.size + 1 + 1) _ #[.slice a3 a1.length k3, .slice a4 b2.length k4, .bool true] _ _ H4.out)
  have HSP := hid (Spares.setRow (S := fun k => k = w.heap.size + 1 + 1) (Spares.refl _ w4) (p := w.heap.size + 1 + 1) (.inl rfl) #[.slice a3 a1.length k3, .slice a4 b2.length k4, .bool true])
  generalize w4.setRow (w.heap.size + 1 + 1) #[.slice a3 a1.length k3, .slice a4 b2.length k4, .bool true] = Z at *
  clear hS2 hS3 hS4 hS0 HSN
  go_wp2_with fail
  refine bodyPost_ret (v := .agg #[.slice a3 a1.length k3, .slice a4 b2.length k4, .bool true]) (results_cell_row (p := 4) (ty := 31) rfl _ _ (w.heap.size + 1 + 1) 31 _ (0, 0) _ rfl HZ4.out Tryd.underlying31 rfl Tryd.infoSpan) rfl ⟨_, _, rfl, ?_, ?_, ?_, ?_⟩
  · exact HF4.out.spares HSP.out (fun i hi => by have := HL.out; omega) (by have := HL.out; omega)
  · exact HT4.out.spares HSP.out (fun i hi => by have := HL.out; have := HB3.out.size; omega) (by have := HL.out; have := HB3.out.size; omega)
  · intro g hg hg'
    have h1 := (HF3.out.lt g hg).2
    have h2 := (HT4.out.lt g hg').1
    omega
  · exact (HB.out.trans (HB4.out.mono HB.out.size)).trans (HSP.out.below (fun i hi => by have h : i = w.heap.size + 1 + 1 := hi; omega) (Nat.le_trans HB.out.size HB4.out.size))

set_option maxHeartbeats 2000000 in
theorem pmeet_011 (x1 x2 x3 x4 : Option Addr) (c1 c2 c3 c4 : Nat) (a1 b1 a2 b2 : List UInt8) (w : World) (h1 : Says w (.slice x1 a1.length c1) a1) (h2 : Says w (.slice x2 b1.length c2) b1) (h3 : Says w (.slice x3 a2.length c3) a2) (h4 : Says w (.slice x4 b2.length c4) b2)
    (l1 : a1.length ≤ 140737488351232) (l2 : b1.length ≤ 140737488351232) (l3 : a2.length ≤ 140737488351232) (l4 : b2.length ≤ 140737488351232) (c : Int) (r1 : Lib.compareBytes a2 a1 = c) (q1 : 0 < c) :
    Calls Tryd.prog 14 #[.agg #[.slice x1 a1.length c1, .slice x2 b1.length c2, .bool false], .agg #[.slice x3 a2.length c3, .slice x4 b2.length c4, .bool true]] w fun e w' => ∃ fv tv, e = .returned (.agg #[fv, tv, .bool true]) ∧ Copy w.heap.size w' fv a2 ∧ Copy w.heap.size w' tv b2 ∧ (∀ g, fv.ownBlock = some g → tv.ownBlock ≠ some g) ∧ Below w.heap.size w w' := by
  obtain ⟨z0, z1, z2, hbW, hzW⟩ := alloc3 w (.cells #[.slice x1 a1.length c1, .slice x2 b1.length c2, .bool false] 31) (.cells #[.slice x3 a2.length c3, .slice x4 b2.length c4, .bool true] 31) (.cells #[.slice none 0 0, .slice none 0 0, .bool false] 31)
  generalize hW3 : ((w.alloc (.cells #[.slice x1 a1.length c1, .slice x2 b1.length c2, .bool false] 31)).alloc (.cells #[.slice x3 a2.length c3, .slice x4 b2.length c4, .bool true] 31)).alloc (.cells #[.slice none 0 0, .slice none 0 0, .bool false] 31) = W at *
  obtain ⟨y0, y1, y2, _⟩ := row3 z0
  obtain ⟨y3, y4, y5, _⟩ := row3 z1
  replace h1 := h1.new hbW
  replace h2 := h2.new hbW
  replace h3 := h3.new hbW
  replace h4 := h4.new hbW
  have HCM := hid (fun V (hb : Below W.heap.size W V) => bcompare_any _ _ (.slice x3 a2.length c3) (.slice x1 a1.length c1) a2 a1 V (h3.new hb) (h1.new hb))
  rw [r1] at HCM
  have HC1 := hid (fun V (hb : Below W.heap.size W V) => pclone_any (.slice x3 a2.length c3) a2 V (h3.new hb) l3)
  have HC2 := hid (fun V (hb : Below W.heap.size W V) => pclone_any (.slice x4 b2.length c4) b2 V (h4.new hb) l4)
  have HZ := hid z2
  have HB := hid hbW
  have HL := hid (show w.heap.size + 1 + 1 < W.heap.size from by omega)
  have hS0 := hid (And.intro y2 y5)
  clear h1 h2 h3 h4 l1 l2 l3 l4 r1 z0 z1 z2 hbW hzW
  go_enter Tryd.func14, Tryd.ntmps14
  go_wp2_with fail
  go_quiet (fail)
  go_wp2_with (go_at_call 31; first
    | (refine (HCM.out _ (below_drewN _ _ _)).mono ?_; clear HCM; rintro e w1 ⟨rfl, rfl⟩))
  have HBV := hid (show Below W.heap.size W (W.drewN nq).drew from (below_drewN _ _ _).drew)
  have HSN := hid (fun (V : World) (hb : Below W.heap.size W V) => (show (fun V : World => V.cell? ⟨w.heap.size, 2, none⟩ = some (.bool false) ∧ V.cell? ⟨w.heap.size + 1, 2, none⟩ = some (.bool true) ∧ True) V from ⟨(hb.cell (p := ⟨w.heap.size, 2, none⟩) (by have := HL.out; show w.heap.size < _; omega)).trans hS0.out.1, (hb.cell (p := ⟨w.heap.size + 1, 2, none⟩) (by have := HL.out; show w.heap.size + 1 < _; omega)).trans hS0.out.2, trivial⟩))
  have hS2 := HSN.out _ HBV.out
  refine last_region (fun V : World => V.cell? ⟨w.heap.size, 2, none⟩ = some (.bool false) ∧ V.cell? ⟨w.heap.size + 1, 2, none⟩ = some (.bool true) ∧ True) 11 (by kernel_rfl) ?_
  refine tkE (i := 0) rfl (by assumption) ?_
  refine tkE (i := 2) rfl (by assumption) ?_
  refine tkE (i := 4) rfl (by assumption) ?_
  refine tkE (i := 5) rfl (by assumption) ?_
  refine takeE_callw (i := 1) #[.slice x3 a2.length c3] (fun u w' => ∃ a3 k3, u = .slice a3 a2.length k3 ∧ Copy W.heap.size w' u a2 ∧ Below W.heap.size W w') (by kernel_rfl) rfl (by rfl) rfl (by kernel_rfl) (enters_of Tryd.func32 (by kernel_rfl) rfl) ((HC1.out _ HBV.out).mono fun e w' ⟨v', h1, h2, h3⟩ => ?_) ?_
  · obtain ⟨a3, k3, rfl⟩ := h2.form
    exact ⟨_, h1, a3, k3, rfl, owns_lower h2 (fun g hg => Nat.le_trans HBV.out.size (h2.lt g hg).1), HBV.out.trans (h3.mono HBV.out.size)⟩
  rintro u3 w3 ⟨a3, k3, rfl, hf3, hb3⟩
  have hS3 := HSN.out _ hb3
  have HF3 := hid hf3
  have HB3 := hid hb3
  refine ⟨hS3, ?_⟩
  simp only [Act.put, List.getElem_toArray, List.getElem_cons_zero, List.getElem_cons_succ, List.setIfInBounds_toArray, List.set_cons_zero, List.set_cons_succ]
  clear hf3 hb3 HC1
  refine takeE_callw (i := 3) #[.slice x4 b2.length c4] (fun u w' => ∃ a4 k4, u = .slice a4 b2.length k4 ∧ Copy w3.heap.size w' u b2 ∧ Below w3.heap.size w3 w') (by kernel_rfl) rfl (by rfl) rfl (by kernel_rfl) (enters_of Tryd.func32 (by kernel_rfl) rfl) ((HC2.out _ HB3.out).mono fun e w' ⟨v', h1, h2, h3⟩ => ?_) ?_
  · obtain ⟨a4, k4, rfl⟩ := h2.form
    exact ⟨_, h1, a4, k4, rfl, h2, h3⟩
  rintro u4 w4 ⟨a4, k4, rfl, ht4, hb4⟩
  have hS4 := HSN.out _ (HB3.out.trans (hb4.mono HB3.out.size))
  have H4 := hid ((hb4.block _ (by have := HL.out; have := HB3.out.size; omega)).trans ((HB3.out.block _ (by have := HL.out; omega)).trans HZ.out))
  have HF4 := hid (HF3.out.new hb4)
  have HT4 := hid ht4
  have HB4 := htr HB3 hb4
  refine ⟨hS4, ?_⟩
  simp only [Act.put, List.getElem_toArray, List.getElem_cons_zero, List.getElem_cons_succ, List.setIfInBounds_toArray, List.set_cons_zero, List.set_cons_succ]
  clear ht4 hb4 HC2
  refine tkE (i := 6) rfl (by assumption) ?_
  refine tkE (i := 7) rfl (by assumption) ?_
  refine tkE (i := 8) rfl (by assumption) ?_
  refine tkE (i := 9) rfl (by assumption) ?_
  refine tkE (i := 10) rfl (by assumption) ?_
  refine takeE_storerowC (i := 11) (by kernel_rfl) rfl rfl 31 (.tmp 4) (.tmp 54) rfl (w.heap.size + 1 + 1) #[.slice a3 a2.length k3, .slice a4 b2.length k4, .bool true] (by rfl) (by rfl) 31 _ H4.out Tryd.infoSpan rfl (by simp [Value.oneCell']) (.inr rfl) ?_
  refine wpAnyE_done (by kernel_rfl) ?_ _
  show Only _ .normal _ _
  unfold Only
  have HZ4 := hid (setRow_heap w4 (w.heap.size + 1 + 1) _ #[.slice a3 a2.length k3, .slice a4 b2.length k4, .bool true] _ _ H4.out)
  have HSP := hid (Spares.setRow (S := fun k => k = w.heap.size + 1 + 1) (Spares.refl _ w4) (p := w.heap.size + 1 + 1) (.inl rfl) #[.slice a3 a2.length k3, .slice a4 b2.length k4, .bool true])
  generalize w4.setRow (w.heap.size + 1 + 1) #[.slice a3 a2.length k3, .slice a4 b2.length k4, .bool true] = Z at *
  clear hS2 hS3 hS4 hS0 HSN
  go_wp2_with fail
  refine bodyPost_ret (v := .agg #[.slice a3 a2.length k3, .slice a4 b2.length k4, .bool true]) (results_cell_row (p := 4) (ty := 31) rfl _ _ (w.heap.size + 1 + 1) 31 _ (0, 0) _ rfl HZ4.out Tryd.underlying31 rfl Tryd.infoSpan) rfl ⟨_, _, rfl, ?_, ?_, ?_, ?_⟩
  · exact HF4.out.spares HSP.out (fun i hi => by have := HL.out; omega) (by have := HL.out; omega)
  · exact HT4.out.spares HSP.out (fun i hi => by have := HL.out; have := HB3.out.size; omega) (by have := HL.out; have := HB3.out.size; omega)
  · intro g hg hg'
    have h1 := (HF3.out.lt g hg).2
    have h2 := (HT4.out.lt g hg').1
    omega
  · exact (HB.out.trans (HB4.out.mono HB.out.size)).trans (HSP.out.below (fun i hi => by have h : i = w.heap.size + 1 + 1 := hi; omega) (Nat.le_trans HB.out.size HB4.out.size))

set_option maxHeartbeats 2000000 in
theorem pmeet_100 (x1 x2 x3 x4 : Option Addr) (c1 c2 c3 c4 : Nat) (a1 b1 a2 b2 : List UInt8) (w : World) (h1 : Says w (.slice x1 a1.length c1) a1) (h2 : Says w (.slice x2 b1.length c2) b1) (h3 : Says w (.slice x3 a2.length c3) a2) (h4 : Says w (.slice x4 b2.length c4) b2)
    (l1 : a1.length ≤ 140737488351232) (l2 : b1.length ≤ 140737488351232) (l3 : a2.length ≤ 140737488351232) (l4 : b2.length ≤ 140737488351232) (c : Int) (r1 : Lib.compareBytes a2 a1 = c) (q1 : ¬ 0 < c) :
    Calls Tryd.prog 14 #[.agg #[.slice x1 a1.length c1, .slice x2 b1.length c2, .bool true], .agg #[.slice x3 a2.length c3, .slice x4 b2.length c4, .bool false]] w fun e w' => ∃ fv tv, e = .returned (.agg #[fv, tv, .bool true]) ∧ Copy w.heap.size w' fv a1 ∧ Copy w.heap.size w' tv b1 ∧ (∀ g, fv.ownBlock = some g → tv.ownBlock ≠ some g) ∧ Below w.heap.size w w' := by
  obtain ⟨z0, z1, z2, hbW, hzW⟩ := alloc3 w (.cells #[.slice x1 a1.length c1, .slice x2 b1.length c2, .bool true] 31) (.cells #[.slice x3 a2.length c3, .slice x4 b2.length c4, .bool false] 31) (.cells #[.slice none 0 0, .slice none 0 0, .bool false] 31)
  generalize hW3 : ((w.alloc (.cells #[.slice x1 a1.length c1, .slice x2 b1.length c2, .bool true] 31)).alloc (.cells #[.slice x3 a2.length c3, .slice x4 b2.length c4, .bool false] 31)).alloc (.cells #[.slice none 0 0, .slice none 0 0, .bool false] 31) = W at *
  obtain ⟨y0, y1, y2, _⟩ := row3 z0
  obtain ⟨y3, y4, y5, _⟩ := row3 z1
  replace h1 := h1.new hbW
  replace h2 := h2.new hbW
  replace h3 := h3.new hbW
  replace h4 := h4.new hbW
  have HCM := hid (fun V (hb : Below W.heap.size W V) => bcompare_any _ _ (.slice x3 a2.length c3) (.slice x1 a1.length c1) a2 a1 V (h3.new hb) (h1.new hb))
  rw [r1] at HCM
  have HC1 := hid (fun V (hb : Below W.heap.size W V) => pclone_any (.slice x1 a1.length c1) a1 V (h1.new hb) l1)
  have HC2 := hid (fun V (hb : Below W.heap.size W V) => pclone_any (.slice x2 b1.length c2) b1 V (h2.new hb) l2)
  have HZ := hid z2
  have HB := hid hbW
  have HL := hid (show w.heap.size + 1 + 1 < W.heap.size from by omega)
  have hS0 := hid (And.intro y2 y5)
  clear h1 h2 h3 h4 l1 l2 l3 l4 r1 z0 z1 z2 hbW hzW
  go_enter Tryd.func14, Tryd.ntmps14
  go_wp2_with fail
  go_quiet (fail)
  go_wp2_with (go_at_call 31; first
    | (refine (HCM.out _ (below_drewN _ _ _)).mono ?_; clear HCM; rintro e w1 ⟨rfl, rfl⟩))
  have HBV := hid (show Below W.heap.size W (W.drewN nq).drew from (below_drewN _ _ _).drew)
  have HSN := hid (fun (V : World) (hb : Below W.heap.size W V) => (show (fun V : World => V.cell? ⟨w.heap.size, 2, none⟩ = some (.bool true) ∧ V.cell? ⟨w.heap.size + 1, 2, none⟩ = some (.bool false) ∧ True) V from ⟨(hb.cell (p := ⟨w.heap.size, 2, none⟩) (by have := HL.out; show w.heap.size < _; omega)).trans hS0.out.1, (hb.cell (p := ⟨w.heap.size + 1, 2, none⟩) (by have := HL.out; show w.heap.size + 1 < _; omega)).trans hS0.out.2, trivial⟩))
  have hS2 := HSN.out _ HBV.out
  refine last_region (fun V : World => V.cell? ⟨w.heap.size, 2, none⟩ = some (.bool true) ∧ V.cell? ⟨w.heap.size + 1, 2, none⟩ = some (.bool false) ∧ True) 11 (by kernel_rfl) ?_
  refine tkE (i := 0) rfl (by assumption) ?_
  refine tkE (i := 2) rfl (by assumption) ?_
  refine tkE (i := 4) rfl (by assumption) ?_
  refine tkE (i := 5) rfl (by assumption) ?_
  refine takeE_callw (i := 1) #[.slice x1 a1.length c1] (fun u w' => ∃ a3 k3, u = .slice a3 a1.length k3 ∧ Copy W.heap.size w' u a1 ∧ Below W.heap.size W w') (by kernel_rfl) rfl (by rfl) rfl (by kernel_rfl) (enters_of Tryd.func32 (by kernel_rfl) rfl) ((HC1.out _ HBV.out).mono fun e w' ⟨v', h1, h2, h3⟩ => ?_) ?_
  · obtain ⟨a3, k3, rfl⟩ := h2.form
    exact ⟨_, h1, a3, k3, rfl, owns_lower h2 (fun g hg => Nat.le_trans HBV.out.size (h2.lt g hg).1), HBV.out.trans (h3.mono HBV.out.size)⟩
  rintro u3 w3 ⟨a3, k3, rfl, hf3, hb3⟩
  have hS3 := HSN.out _ hb3
  have HF3 := hid hf3
  have HB3 := hid hb3
  refine ⟨hS3, ?_⟩
  simp only [Act.put, List.getElem_toArray, List.getElem_cons_zero, List.getElem_cons_succ, List.setIfInBounds_toArray, List.set_cons_zero, List.set_cons_succ]
  clear hf3 hb3 HC1
  refine takeE_callw (i := 3) #[.slice x2 b1.length c2] (fun u w' => ∃ a4 k4, u = .slice a4 b1.length k4 ∧ Copy w3.heap.size w' u b1 ∧ Below w3.heap.size w3 w') (by kernel_rfl) rfl (by rfl) rfl (by kernel_rfl) (enters_of Tryd.func32 (by kernel_rfl) rfl) ((HC2.out _ HB3.out).mono fun e w' ⟨v', h1, h2, h3⟩ => ?_) ?_
  · obtain ⟨a4, k4, rfl⟩ := h2.form
    exact ⟨_, h1, a4, k4, rfl, h2, h3⟩
  rintro u4 w4 ⟨a4, k4, rfl, ht4, hb4⟩
  have hS4 := HSN.out _ (HB3.out.trans (hb4.mono HB3.out.size))
  have H4 := hid ((hb4.block _ (by have := HL.out; have := HB3.out.size; omega)).trans ((HB3.out.block _ (by have := HL.out; omega)).trans HZ.out))
  have HF4 := hid (HF3.out.new hb4)
  have HT4 := hid ht4
  have HB4 := htr HB3 hb4
  refine ⟨hS4, ?_⟩
  simp only [Act.put, List.getElem_toArray, List.getElem_cons_zero, List.getElem_cons_succ, List.setIfInBounds_toArray, List.set_cons_zero, List.set_cons_succ]
  clear ht4 hb4 HC2
  refine tkE (i := 6) rfl (by assumption) ?_
  refine wpAnyE_take (i := 7) (v := undef) rfl (by kernel_rfl) (by kernel_rfl) (by kernel_rfl) (by kernel_rfl) (by kernel_rfl) (fun _ _ _ h => h) (Or.inr ⟨by rfl, rfl⟩) (by assumption) ?_; (try simp only [Act.put, List.getElem_toArray, List.getElem_cons_zero, List.getElem_cons_succ, List.setIfInBounds_toArray, List.set_cons_zero, List.set_cons_succ])
  refine wpAnyE_take (i := 8) (v := undef) rfl (by kernel_rfl) (by kernel_rfl) (by kernel_rfl) (by kernel_rfl) (by kernel_rfl) (fun _ _ _ h => h) (Or.inr ⟨by rfl, rfl⟩) (by assumption) ?_; (try simp only [Act.put, List.getElem_toArray, List.getElem_cons_zero, List.getElem_cons_succ, List.setIfInBounds_toArray, List.set_cons_zero, List.set_cons_succ])
  refine tkE (i := 9) rfl (by assumption) ?_
  refine tkE (i := 10) rfl (by assumption) ?_
  refine takeE_storerowC (i := 11) (by kernel_rfl) rfl rfl 31 (.tmp 4) (.tmp 54) rfl (w.heap.size + 1 + 1) #[.slice a3 a1.length k3, .slice a4 b1.length k4, .bool true] (by rfl) (by rfl) 31 _ H4.out Tryd.infoSpan rfl (by simp [Value.oneCell']) (.inr rfl) ?_
  refine wpAnyE_done (by kernel_rfl) ?_ _
  show Only _ .normal _ _
  unfold Only
  have HZ4 := hid (setRow_heap w4 (w.heap.size + 1 + 1) _ #[.slice a3 a1.length k3, .slice a4 b1.length k4, .bool true] _ _ H4.out)
  have HSP := hid (Spares.setRow (S := fun k => k = w.heap.size + 1 + 1) (Spares.refl _ w4) (p := w.heap.size + 1 + 1) (.inl rfl) #[.slice a3 a1.length k3, .slice a4 b1.length k4, .bool true])
  generalize w4.setRow (w.heap.size + 1 + 1) #[.slice a3 a1.length k3, .slice a4 b1.length k4, .bool true] = Z at *
  clear hS2 hS3 hS4 hS0 HSN
  go_wp2_with fail
  refine bodyPost_ret (v := .agg #[.slice a3 a1.length k3, .slice a4 b1.length k4, .bool true]) (results_cell_row (p := 4) (ty := 31) rfl _ _ (w.heap.size + 1 + 1) 31 _ (0, 0) _ rfl HZ4.out Tryd.underlying31 rfl Tryd.infoSpan) rfl ⟨_, _, rfl, ?_, ?_, ?_, ?_⟩
  · exact HF4.out.spares HSP.out (fun i hi => by have := HL.out; omega) (by have := HL.out; omega)
  · exact HT4.out.spares HSP.out (fun i hi => by have := HL.out; have := HB3.out.size; omega) (by have := HL.out; have := HB3.out.size; omega)
  · intro g hg hg'
    have h1 := (HF3.out.lt g hg).2
    have h2 := (HT4.out.lt g hg').1
    omega
  · exact (HB.out.trans (HB4.out.mono HB.out.size)).trans (HSP.out.below (fun i hi => by have h : i = w.heap.size + 1 + 1 := hi; omega) (Nat.le_trans HB.out.size HB4.out.size))

end Go.Proofs.YthjgbcbgkafgjaaDoor
