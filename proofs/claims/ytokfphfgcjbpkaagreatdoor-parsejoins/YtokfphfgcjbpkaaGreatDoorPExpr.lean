/- Contracts of expr, and, sum, term, not, test, factor: every level. -/
import Derived.Test.YtokfphfgcjbpkaaGreatDoorPRowL
import Derived.Test.YtokfphfgcjbpkaaGreatDoorPLit
namespace Go.Proofs.YtokfphfgcjbpkaaGreatDoor
open Go.RowKit Go.Shelf
set_option linter.unusedVariables false
set_option linter.unusedSimpArgs false
set_option maxRecDepth 20000

theorem row_new (F : Nat) (n fb : Nat) (p : Pa Ex) (hp : RdsE F (Enough n) fb p) (hN : Nice false F p) (eg : ∀ args w, (callFunc fb args).run Tryz.prog w = .ok (.enter fb args) w)
    (ops : List (List UInt8 × Int)) (ho : ∀ c ∈ ops, c.2 ≠ 0) (hl : ops.length ≤ 1000) (g : Nat) (r : Rd) (W : World) (h : RdAt F W g r) (hE : Enough n r) :
    Calls Tryz.prog 78 #[.pointer (some ⟨g, 0, none⟩), .func (.func fb) #[.pointer (some ⟨g, 0, none⟩)] #[], .slice (some ⟨W.heap.size, 0, none⟩) ops.length ops.length] (W.alloc (.cells (ops.flatMap fun t => [Value.string (str8 t.1), .int .i64 t.2]).toArray 89)) fun e w' => ∃ u, e = .returned u ∧ ExV (fun b => W.heap.size ≤ b) w' (rowP F p ops r).1 u ∧ RdAt F w' g (rowP F p ops r).2 ∧ Fr g W w' := by
  have hb : Below W.heap.size W (W.alloc (.cells (ops.flatMap fun t => [Value.string (str8 t.1), .int .i64 t.2]).toArray 89)) := (Below.refl _ _).alloc (Nat.le_refl _) _
  refine (row_any F n fb p hp hN eg ops ho g r _ (h.below hb) hE _ ⟨_, _, rfl, hl, fun _ => ⟨_, rfl, h.lt, fun j t ht => ?_⟩⟩).mono ?_
  · rw [cell_of_row _ _ _ _ _ _ (heap_alloc_new W _), cell_of_row _ _ _ _ _ _ (heap_alloc_new W _)]
    have := flat_at ops j t ht
    simpa using this
  · rintro e w' ⟨u, rfl, h0, h1, h2⟩
    exact ⟨u, rfl, h0.to (R := fun _ => False) (Spares.refl _ _) (fun b hb' _ => ⟨id, Nat.le_trans hb.size hb'⟩), h1, (Spares.of_new (S := fun k => k = g) hb).then h2⟩

set_option maxHeartbeats 1000000 in
theorem term_any (F n : Nat) (p : Pa Ex) (hp : RdsE F (Enough n) 183 p) (hN : Nice false F p) : RdsE F (Enough n) 177 (rowP F p mulsB) := fun g r w h hE => by
  have hgw := h.lt
  obtain ⟨W, hW, hbW, hzW, hcW⟩ := box8 w zBox
  have HCW := hid hcW
  have HF := hid (Spares.of_new (S := fun k => k = g) hbW)
  have HR : Hid (Calls Tryz.prog 78 #[.pointer (some ⟨g, 0, none⟩), .func (.func 183) #[.pointer (some ⟨g, 0, none⟩)] #[], .slice (some ⟨W.heap.size, 0, none⟩) 3 3] (W.alloc (.cells #[.string ⟨#[42]⟩, .int .i64 11, .string ⟨#[47]⟩, .int .i64 12, .string ⟨#[37]⟩, .int .i64 13] 89)) fun e w' => ∃ u, e = .returned u ∧ ExV (fun b => W.heap.size ≤ b) w' (rowP F p mulsB r).1 u ∧ RdAt F w' g (rowP F p mulsB r).2 ∧ Fr g W w') :=
    hid (row_new F n 183 p hp hN (enters_of Tryz.func183 (by kernel_rfl) rfl) mulsB (by decide) (by decide) g r W (h.below hbW) hE)
  generalize (rowP F p mulsB r).1 = y1 at HR ⊢
  generalize (rowP F p mulsB r).2 = y2 at HR ⊢
  clear h hcW hbW hp hN hE
  go_enter Tryz.func177, Tryz.ntmps177
  go_wp2_with fail
  try rw [hW]
  clear hW
  refine HR.out.mono ?_
  rintro e w1 ⟨u, rfl, hu, hr1, hf1⟩
  have HU := hid hu
  obtain ⟨k3, op3, tb3, nm3, vk3, vn3, vs3, ys3, aa3, nn3, cc3, _, rfl, _⟩ := hu
  have HB := hid ((hf1.block w.heap.size hzW (by omega)).trans HCW.out)
  have HR1 := hid hr1
  have HF1 := hid (HF.out.then hf1)
  clear hr1 hf1 HR
  go_wp2_with (first
    | (refine wpList_store_box rfl (.tmp 2) (.tmp 10) rfl w.heap.size rfl k3 op3 vk3 vn3 (str8 tb3) (str8 nm3) (str8 vs3) aa3 nn3 cc3 rfl HB.out (Nat.le_refl _) hgw HR1.out HF1.out ?_
       intro Y hYB hYs hYR hYF
       have HYB := hid hYB
       have HUY := hid (HU.out.to (T := fun b => w.heap.size ≤ b) hYs (fun b hb _ => ⟨by omega, by omega⟩))
       have HYR := hid hYR
       have HYF := hid hYF
       clear hYB hYs hYR hYF)
    | fail)
  have kc := cells8 HYB.out
  exact bodyPost_ret (v := .agg #[.int .i64 k3, .int .i64 op3, .string (str8 tb3), .string (str8 nm3), .int .i64 vk3, .int .i64 vn3, .string (str8 vs3), .slice aa3 nn3 cc3]) (by simp [results, Tryz.results177, go_sem, kc]) rfl ⟨_, rfl, HUY.out, HYR.out, HYF.out⟩

set_option maxHeartbeats 1000000 in
theorem sum_any (F n : Nat) (p : Pa Ex) (hp : RdsE F (Enough n) 177 p) (hN : Nice false F p) : RdsE F (Enough n) 160 (rowP F p addsB) := fun g r w h hE => by
  have hgw := h.lt
  obtain ⟨W, hW, hbW, hzW, hcW⟩ := box8 w zBox
  have HCW := hid hcW
  have HF := hid (Spares.of_new (S := fun k => k = g) hbW)
  have HR : Hid (Calls Tryz.prog 78 #[.pointer (some ⟨g, 0, none⟩), .func (.func 177) #[.pointer (some ⟨g, 0, none⟩)] #[], .slice (some ⟨W.heap.size, 0, none⟩) 2 2] (W.alloc (.cells #[.string ⟨#[43]⟩, .int .i64 9, .string ⟨#[45]⟩, .int .i64 10] 89)) fun e w' => ∃ u, e = .returned u ∧ ExV (fun b => W.heap.size ≤ b) w' (rowP F p addsB r).1 u ∧ RdAt F w' g (rowP F p addsB r).2 ∧ Fr g W w') :=
    hid (row_new F n 177 p hp hN (enters_of Tryz.func177 (by kernel_rfl) rfl) addsB (by decide) (by decide) g r W (h.below hbW) hE)
  generalize (rowP F p addsB r).1 = y1 at HR ⊢
  generalize (rowP F p addsB r).2 = y2 at HR ⊢
  clear h hcW hbW hp hN hE
  go_enter Tryz.func160, Tryz.ntmps160
  go_wp2_with fail
  try rw [hW]
  clear hW
  refine HR.out.mono ?_
  rintro e w1 ⟨u, rfl, hu, hr1, hf1⟩
  have HU := hid hu
  obtain ⟨k3, op3, tb3, nm3, vk3, vn3, vs3, ys3, aa3, nn3, cc3, _, rfl, _⟩ := hu
  have HB := hid ((hf1.block w.heap.size hzW (by omega)).trans HCW.out)
  have HR1 := hid hr1
  have HF1 := hid (HF.out.then hf1)
  clear hr1 hf1 HR
  go_wp2_with (first
    | (refine wpList_store_box rfl (.tmp 2) (.tmp 9) rfl w.heap.size rfl k3 op3 vk3 vn3 (str8 tb3) (str8 nm3) (str8 vs3) aa3 nn3 cc3 rfl HB.out (Nat.le_refl _) hgw HR1.out HF1.out ?_
       intro Y hYB hYs hYR hYF
       have HYB := hid hYB
       have HUY := hid (HU.out.to (T := fun b => w.heap.size ≤ b) hYs (fun b hb _ => ⟨by omega, by omega⟩))
       have HYR := hid hYR
       have HYF := hid hYF
       clear hYB hYs hYR hYF)
    | fail)
  have kc := cells8 HYB.out
  exact bodyPost_ret (v := .agg #[.int .i64 k3, .int .i64 op3, .string (str8 tb3), .string (str8 nm3), .int .i64 vk3, .int .i64 vn3, .string (str8 vs3), .slice aa3 nn3 cc3]) (by simp [results, Tryz.results160, go_sem, kc]) rfl ⟨_, rfl, HUY.out, HYR.out, HYF.out⟩

set_option maxHeartbeats 1000000 in
theorem and_any (F n : Nat) (p : Pa Ex) (hp : RdsE F (Enough n) 118 p) (hN : Nice false F p) : RdsE F (Enough n) 79 (rowP F p andsB) := fun g r w h hE => by
  have hgw := h.lt
  obtain ⟨W, hW, hbW, hzW, hcW⟩ := box8 w zBox
  have HCW := hid hcW
  have HF := hid (Spares.of_new (S := fun k => k = g) hbW)
  have HR : Hid (Calls Tryz.prog 78 #[.pointer (some ⟨g, 0, none⟩), .func (.func 118) #[.pointer (some ⟨g, 0, none⟩)] #[], .slice (some ⟨W.heap.size, 0, none⟩) 1 1] (W.alloc (.cells #[.string ⟨#[65, 78, 68]⟩, .int .i64 2] 89)) fun e w' => ∃ u, e = .returned u ∧ ExV (fun b => W.heap.size ≤ b) w' (rowP F p andsB r).1 u ∧ RdAt F w' g (rowP F p andsB r).2 ∧ Fr g W w') :=
    hid (row_new F n 118 p hp hN (enters_of Tryz.func118 (by kernel_rfl) rfl) andsB (by decide) (by decide) g r W (h.below hbW) hE)
  generalize (rowP F p andsB r).1 = y1 at HR ⊢
  generalize (rowP F p andsB r).2 = y2 at HR ⊢
  clear h hcW hbW hp hN hE
  go_enter Tryz.func79, Tryz.ntmps79
  go_wp2_with fail
  try rw [hW]
  clear hW
  refine HR.out.mono ?_
  rintro e w1 ⟨u, rfl, hu, hr1, hf1⟩
  have HU := hid hu
  obtain ⟨k3, op3, tb3, nm3, vk3, vn3, vs3, ys3, aa3, nn3, cc3, _, rfl, _⟩ := hu
  have HB := hid ((hf1.block w.heap.size hzW (by omega)).trans HCW.out)
  have HR1 := hid hr1
  have HF1 := hid (HF.out.then hf1)
  clear hr1 hf1 HR
  go_wp2_with (first
    | (refine wpList_store_box rfl (.tmp 2) (.tmp 8) rfl w.heap.size rfl k3 op3 vk3 vn3 (str8 tb3) (str8 nm3) (str8 vs3) aa3 nn3 cc3 rfl HB.out (Nat.le_refl _) hgw HR1.out HF1.out ?_
       intro Y hYB hYs hYR hYF
       have HYB := hid hYB
       have HUY := hid (HU.out.to (T := fun b => w.heap.size ≤ b) hYs (fun b hb _ => ⟨by omega, by omega⟩))
       have HYR := hid hYR
       have HYF := hid hYF
       clear hYB hYs hYR hYF)
    | fail)
  have kc := cells8 HYB.out
  exact bodyPost_ret (v := .agg #[.int .i64 k3, .int .i64 op3, .string (str8 tb3), .string (str8 nm3), .int .i64 vk3, .int .i64 vn3, .string (str8 vs3), .slice aa3 nn3 cc3]) (by simp [results, Tryz.results79, go_sem, kc]) rfl ⟨_, rfl, HUY.out, HYR.out, HYF.out⟩

set_option maxHeartbeats 1000000 in
theorem expr_any (F n : Nat) (p : Pa Ex) (hp : RdsE F (Enough n) 79 p) (hN : Nice false F p) : RdsE F (Enough n) 34 (rowP F p orsB) := fun g r w h hE => by
  have hgw := h.lt
  obtain ⟨W, hW, hbW, hzW, hcW⟩ := box8 w zBox
  have HCW := hid hcW
  have HF := hid (Spares.of_new (S := fun k => k = g) hbW)
  have HR : Hid (Calls Tryz.prog 78 #[.pointer (some ⟨g, 0, none⟩), .func (.func 79) #[.pointer (some ⟨g, 0, none⟩)] #[], .slice (some ⟨W.heap.size, 0, none⟩) 1 1] (W.alloc (.cells #[.string ⟨#[79, 82]⟩, .int .i64 1] 89)) fun e w' => ∃ u, e = .returned u ∧ ExV (fun b => W.heap.size ≤ b) w' (rowP F p orsB r).1 u ∧ RdAt F w' g (rowP F p orsB r).2 ∧ Fr g W w') :=
    hid (row_new F n 79 p hp hN (enters_of Tryz.func79 (by kernel_rfl) rfl) orsB (by decide) (by decide) g r W (h.below hbW) hE)
  generalize (rowP F p orsB r).1 = y1 at HR ⊢
  generalize (rowP F p orsB r).2 = y2 at HR ⊢
  clear h hcW hbW hp hN hE
  go_enter Tryz.func34, Tryz.ntmps34
  go_wp2_with fail
  try rw [hW]
  clear hW
  refine HR.out.mono ?_
  rintro e w1 ⟨u, rfl, hu, hr1, hf1⟩
  have HU := hid hu
  obtain ⟨k3, op3, tb3, nm3, vk3, vn3, vs3, ys3, aa3, nn3, cc3, _, rfl, _⟩ := hu
  have HB := hid ((hf1.block w.heap.size hzW (by omega)).trans HCW.out)
  have HR1 := hid hr1
  have HF1 := hid (HF.out.then hf1)
  clear hr1 hf1 HR
  go_wp2_with (first
    | (refine wpList_store_box rfl (.tmp 2) (.tmp 8) rfl w.heap.size rfl k3 op3 vk3 vn3 (str8 tb3) (str8 nm3) (str8 vs3) aa3 nn3 cc3 rfl HB.out (Nat.le_refl _) hgw HR1.out HF1.out ?_
       intro Y hYB hYs hYR hYF
       have HYB := hid hYB
       have HUY := hid (HU.out.to (T := fun b => w.heap.size ≤ b) hYs (fun b hb _ => ⟨by omega, by omega⟩))
       have HYR := hid hYR
       have HYF := hid hYF
       clear hYB hYs hYR hYF)
    | fail)
  have kc := cells8 HYB.out
  exact bodyPost_ret (v := .agg #[.int .i64 k3, .int .i64 op3, .string (str8 tb3), .string (str8 nm3), .int .i64 vk3, .int .i64 vn3, .string (str8 vs3), .slice aa3 nn3 cc3]) (by simp [results, Tryz.results34, go_sem, kc]) rfl ⟨_, rfl, HUY.out, HYR.out, HYF.out⟩

theorem not_yes {nt test : Pa Ex} {r : Rd} (h : isR [78, 79, 84] r = true) : notP nt test r = (exOf 4 (deepP nt (nextR r)).1, (deepP nt (nextR r)).2) := by
  unfold notP ifP bindP retP
  rw [if_pos h]

theorem not_no {nt test : Pa Ex} {r : Rd} (h : isR [78, 79, 84] r = false) : notP nt test r = test r := by
  unfold notP ifP
  rw [if_neg (by rw [h]; exact Bool.false_ne_true)]

set_option maxHeartbeats 1000000 in
theorem not_any (F n : Nat) (pn pt : Pa Ex) (hn : RdsE F (Enough n) 118 pn) (hNn : Nice false F pn) (ht : RdsE F (Enough (n + 1)) 141 pt) : RdsE F (Enough (n + 1)) 118 (notP pn pt) := fun g r w h hE => by
  have hgw := h.lt
  have hG := h.good
  obtain ⟨W, hW, hbW, hzW, hcW⟩ := box8 w zBox
  have HCW := hid hcW
  have HF := hid (Spares.of_new (S := fun k => k = g) hbW)
  have HH := hid (h.below hbW)
  cases hi : isR [78, 79, 84] r with
  | false =>
    rw [not_no hi]
    have HS : Hid (Calls Tryz.prog 56 #[.pointer (some ⟨g, 0, none⟩), .string ⟨#[78, 79, 84]⟩] W fun e w' => e = .returned (.bool false) ∧ RdAt F w' g r ∧ Fr g W w') := hid (skip_no F g r W HH.out [78, 79, 84] hi)
    have HT := hid (fun V (hV : RdAt F V g r) => ht g r V hV hE)
    generalize (pt r).1 = y1 at HT ⊢
    generalize (pt r).2 = y2 at HT ⊢
    clear h hcW hbW hn hNn ht hE hi hG
    go_enter Tryz.func118, Tryz.ntmps118
    go_wp2_with fail
    try rw [hW]
    clear hW
    refine HS.out.mono ?_
    rintro e w1 ⟨rfl, hr1, hf1⟩
    have hz1 := hf1.size
    have HB1 := hid ((hf1.block w.heap.size hzW (by omega)).trans HCW.out)
    have HT1 := hid (HT.out w1 hr1)
    have HF1 := hid (HF.out.then hf1)
    clear hr1 hf1 HS HT
    go_wp2_with fail
    refine HT1.out.mono ?_
    rintro e w2 ⟨u, rfl, hu, hr2, hf2⟩
    have HU := hid hu
    obtain ⟨k3, op3, tb3, nm3, vk3, vn3, vs3, ys3, aa3, nn3, cc3, _, rfl, _⟩ := hu
    have HB := hid ((hf2.block w.heap.size (by omega) (by omega)).trans HB1.out)
    have HR2 := hid hr2
    have HF2 := hid (HF1.out.then hf2)
    clear hr2 hf2 HT1
    go_wp2_with (first
      | (refine wpList_store_box rfl (.tmp 2) (.tmp 11) rfl w.heap.size rfl k3 op3 vk3 vn3 (str8 tb3) (str8 nm3) (str8 vs3) aa3 nn3 cc3 rfl HB.out (Nat.le_refl _) hgw HR2.out HF2.out ?_
         intro Y hYB hYs hYR hYF
         have HYB := hid hYB
         have HUY := hid (HU.out.to (T := fun b => w.heap.size ≤ b) hYs (fun b hb _ => ⟨by omega, by omega⟩))
         have HYR := hid hYR
         have HYF := hid hYF
         clear hYB hYs hYR hYF)
      | fail)
    have kc := cells8 HYB.out
    exact bodyPost_ret (v := .agg #[.int .i64 k3, .int .i64 op3, .string (str8 tb3), .string (str8 nm3), .int .i64 vk3, .int .i64 vn3, .string (str8 vs3), .slice aa3 nn3 cc3]) (by simp [results, Tryz.results118, go_sem, kc]) rfl ⟨_, rfl, HUY.out, HYR.out, HYF.out⟩
  | true =>
    rw [not_yes hi]
    have hb := is_ok hi
    have hE1 : Enough (n + 1) (nextR r) := hE.next
    have HS : Hid (Calls Tryz.prog 56 #[.pointer (some ⟨g, 0, none⟩), .string ⟨#[78, 79, 84]⟩] W fun e w' => e = .returned (.bool true) ∧ RdAt F w' g (nextR r) ∧ Fr g W w') := hid (skip_yes F g r W HH.out [78, 79, 84] hi)
    have HD := hid (fun V (hV : RdAt F V g (nextR r)) => deeper_any F n 118 pn hn hNn (enters_of Tryz.func118 (by kernel_rfl) rfl) g (nextR r) V hV hE1 hb)
    dsimp only
    generalize (deepP pn (nextR r)).1 = y1 at HD ⊢
    generalize (deepP pn (nextR r)).2 = y2 at HD ⊢
    clear h hcW hbW hn hNn ht hE hE1 hi hG hb
    go_enter Tryz.func118, Tryz.ntmps118
    go_wp2_with fail
    try rw [hW]
    clear hW
    refine HS.out.mono ?_
    rintro e w1 ⟨rfl, hr1, hf1⟩
    have hz1 := hf1.size
    have HB1 := hid ((hf1.block w.heap.size hzW (by omega)).trans HCW.out)
    have HD1 := hid (HD.out w1 hr1)
    have HF1 := hid (HF.out.then hf1)
    clear hr1 hf1 HS HD
    go_wp2_with fail
    refine HD1.out.mono ?_
    rintro e w2 ⟨u, rfl, hu, hr2, hf2⟩
    have hz2 := hf2.size
    have HO := hid (of_any (fun b => w1.heap.size ≤ b) 4 y1 u w2 (fun b hb => by omega) hu)
    obtain ⟨k2, op2, tb2, nm2, vk2, vn2, vs2, ys2, aa2, nn2, cc2, _, rfl, _⟩ := hu
    have HB2 := hid ((hf2.block w.heap.size (by omega) (by omega)).trans HB1.out)
    have HR2 := hid hr2
    have HF2 := hid (HF1.out.then hf2)
    clear hr2 hf2 HD1
    go_wp2_with fail
    refine HO.out.mono ?_
    rintro e w3 ⟨u, rfl, hu, hb3⟩
    have HU := hid hu
    obtain ⟨k3, op3, tb3, nm3, vk3, vn3, vs3, ys3, aa3, nn3, cc3, _, rfl, _⟩ := hu
    have HB := hid ((hb3.block w.heap.size (by omega)).trans HB2.out)
    have HR3 := hid (HR2.out.below hb3)
    have HF3 := hid (HF2.out.thenNew hb3)
    clear hb3 HO
    go_wp2_with (first
      | (refine wpList_store_box rfl (.tmp 2) (.tmp 9) rfl w.heap.size rfl k3 op3 vk3 vn3 (str8 tb3) (str8 nm3) (str8 vs3) aa3 nn3 cc3 rfl HB.out (Nat.le_refl _) hgw HR3.out HF3.out ?_
         intro Y hYB hYs hYR hYF
         have HYB := hid hYB
         have HUY := hid (HU.out.to (T := fun b => w.heap.size ≤ b) hYs (fun b hb _ => ⟨by omega, by omega⟩))
         have HYR := hid hYR
         have HYF := hid hYF
         clear hYB hYs hYR hYF)
      | fail)
    have kc := cells8 HYB.out
    exact bodyPost_ret (v := .agg #[.int .i64 k3, .int .i64 op3, .string (str8 tb3), .string (str8 nm3), .int .i64 vk3, .int .i64 vn3, .string (str8 vs3), .slice aa3 nn3 cc3]) (by simp [results, Tryz.results118, go_sem, kc]) rfl ⟨_, rfl, HUY.out, HYR.out, HYF.out⟩


end Go.Proofs.YtokfphfgcjbpkaaGreatDoor
