/- Contracts of deeper, row. -/
import Derived.Test.YtokfphfgcjbpkaaGreatDoorPCol
namespace Go.Proofs.YtokfphfgcjbpkaaGreatDoor
open Go.RowKit Go.Shelf
set_option linter.unusedVariables false
set_option linter.unusedSimpArgs false
set_option maxRecDepth 20000

/-- How many tokens the reader in block g has. -/
def lenAt (g : Nat) (w : World) : Nat := match w.cell? ⟨g, 0, none⟩ with
  | some (.slice _ n _) => n
  | _ => 0

theorem RdAt.len {F : Nat} {w : World} {g : Nat} {r : Rd} (h : RdAt F w g r) : lenAt g w = r.ts.length := by
  obtain ⟨v, hv, a, c, rfl, _⟩ := h.lie
  unfold lenAt
  rw [(cells4 hv).1]

/-- Another depth. -/
theorem RdL.setD {w : World} {g : Nat} {r : Rd} (h : RdL w g r) (d : Int) : ∃ W, w.setCell ⟨g, 1, none⟩ (.int .i64 d) = W ∧ RdL W g { r with d := d } ∧ Fr g w W := by
  refine ⟨_, rfl, ?_, (Spares.refl (fun k => k = g) w).own _ _⟩
  obtain ⟨v, hv, ht⟩ := h.lie
  rw [setCell_eq_setRow w g 1 _ _ _ _ hv]
  refine ⟨h.any, v, ?_, ?_⟩
  · rw [setRow_heap w g _ _ _ _ hv]
    rfl
  · exact ht.keeps (R := fun k => k = g) (Spares.setRow (S := fun k => k = g) (Spares.refl _ w) (p := g) (.inl rfl) _) (fun i hi e => by omega)

set_option maxHeartbeats 1000000 in
theorem deeper_any (F : Nat) (n fb : Nat) (p : Pa Ex) (hp : RdsE F (Enough n) fb p) (hN : Nice false F p) (eg : ∀ args w, (callFunc fb args).run Tryz.prog w = .ok (.enter fb args) w)
    (g : Nat) (r : Rd) (w : World) (h : RdAt F w g r) (hE : Enough (n + 1) r) (hb : r.bad = 0) :
    Calls Tryz.prog 140 #[.pointer (some ⟨g, 0, none⟩), .func (.func fb) #[.pointer (some ⟨g, 0, none⟩)] #[]] w fun e w' => ∃ u, e = .returned u ∧ ExV (fun b => w.heap.size ≤ b) w' (deepP p r).1 u ∧ RdAt F w' g (deepP p r).2 ∧ Fr g w w' := by
  have hgw := h.lt
  have hG := h.good
  obtain ⟨W, hW, hbW, hzW, hcW⟩ := box8 w zBox
  have HH := h.below hbW
  obtain ⟨v, hv, ht⟩ := HH.lie
  have kg := cells4 hv
  have d0 := hG.d0
  have d2 := hG.d2 hb
  obtain ⟨hGd, hdd, hdt⟩ := hG.down hb
  have hEd := hE.down hG hb
  have HFI := hid ((nice_deep hN).fine r hb hG)
  have HPF := hid (hN.fine (downR r) trivial hGd)
  obtain ⟨W1, hW1, hL1, hF1⟩ := HH.toL.setD (r.d + 1)
  obtain ⟨v1, hv1, _⟩ := hL1.lie
  have kg1 := cells4 hv1
  have hz1 := hF1.size
  have HB1 := hid ((hF1.block w.heap.size hzW (by omega)).trans hcW)
  have HF1 := hid ((Spares.of_new (S := fun k => k = g) hbW).then hF1)
  have HP := hid (fun V (hV : RdAt F V g (downR r)) => hp g (downR r) V hV hEd)
  have HG2 : Hid (Good F (deepP p r).2) := hid HFI.out.1
  have hd3 : (p (downR r)).2.d = r.d + 1 := HPF.out.2.1.trans hdd
  have HUP : Hid ((deepP p r).2 = upR (p (downR r)).2) := hid rfl
  have HX1 : Hid ((deepP p r).1 = (p (downR r)).1) := hid rfl
  obtain ⟨x2, hx2⟩ : ∃ x, (p (downR r)).1 = x := ⟨_, rfl⟩
  obtain ⟨r2, hr2⟩ : ∃ x, (p (downR r)).2 = x := ⟨_, rfl⟩
  rw [hx2] at HX1 HP
  rw [hr2] at HUP HP hd3
  generalize (deepP p r).1 = y1 at HX1 ⊢
  generalize (deepP p r).2 = y2 at HUP HG2 ⊢
  clear hx2 hr2 HPF HFI hEd hE hv hv1 hcW hF1 h ht
  by_cases hd : 10 < r.d + 1
  · have hd' : (10 : Int) < r.d + 1 := hd
    have HFL := hid (fail_anyL g { r with d := r.d + 1 } W1 hL1 10 (by decide))
    have eD : failR 10 { r with d := r.d + 1 } = downR r := by unfold downR; rw [if_pos hd]
    rw [eD] at HFL
    have HGD := hid hGd
    clear eD hd hGd hL1 HH
    go_enter Tryz.func140, Tryz.ntmps140
    go_wp2_with fail
    clear hW1 hW
    refine HFL.out.mono ?_
    rintro e w1 ⟨rfl, hl1, hf1⟩
    have HRD : Hid (RdAt F w1 g (downR r)) := hid ⟨HGD.out, hl1.lie⟩
    have hz1' := hf1.size
    have HBD := hid ((hf1.block w.heap.size (by omega) (by omega)).trans HB1.out)
    have HFD := hid (HF1.out.then hf1)
    clear hl1 hf1 HFL
    go_wp2_with fail
    refine (HP.out w1 HRD.out).mono ?_
    rintro e w2 ⟨u, rfl, hu, hr2, hf2⟩
    have HU := hid hu
    obtain ⟨k3, op3, tb3, nm3, vk3, vn3, vs3, ys3, aa3, nn3, cc3, _, rfl, _⟩ := hu
    have hz2 := hf2.size
    have hgz2 : g < w2.heap.size := hr2.lt
    obtain ⟨U, hU, hbU, hzU, hcU⟩ := box8 w2 (.cells #[.int .i64 k3, .int .i64 op3, .string (str8 tb3), .string (str8 nm3), .int .i64 vk3, .int .i64 vn3, .string (str8 vs3), .slice aa3 nn3 cc3] 40)
    have hLU := (hr2.below hbU).toL
    obtain ⟨vU, hvU, _⟩ := hLU.lie
    rw [hd3] at hvU
    have kU := cells4 hvU
    obtain ⟨V, hV, hLV, hFV⟩ := hLU.setD r.d
    have kV := cells8f ((hFV.block w2.heap.size hzU (by omega)).trans hcU)
    have HRV : Hid (RdAt F V g y2) := hid (by
      rw [HUP.out] at HG2 ⊢
      have e : upR r2 = { r2 with d := r.d } := by unfold upR; rw [hd3]; congr 1; omega
      rw [e] at HG2 ⊢
      exact ⟨HG2.out, hLV.lie⟩)
    have HBV := hid ((hFV.block w.heap.size (by omega) (by omega)).trans ((hbU.block w.heap.size (by omega)).trans ((hf2.block w.heap.size (by omega) (by omega)).trans HBD.out)))
    have HFV : Hid (Fr g w V) := hid (((HFD.out.then hf2).thenNew hbU).then hFV)
    have HUV : Hid (ExV (fun b => w.heap.size ≤ b ∧ b ≠ w.heap.size) V y1 _) := hid (by
      rw [HX1.out]
      exact (HU.out.to (T := fun b => w.heap.size ≤ b ∧ b ≠ w.heap.size ∧ b ≠ g) (R := fun _ => False) (Spares.of_new hbU) (fun b hb _ => ⟨id, by omega, by omega, by omega⟩)).to hFV (fun b hb _ => ⟨hb.2.2, hb.1, hb.2.1⟩))
    clear hr2 hf2 HP hvU hLU hbU hcU hLV hFV HU HX1
    go_wp2_with (first
      | (refine wpList_store_box rfl (.tmp 4) (.tmp 29) rfl w.heap.size rfl k3 op3 vk3 vn3 (str8 tb3) (str8 nm3) (str8 vs3) aa3 nn3 cc3 rfl HBV.out (Nat.le_refl _) hgw HRV.out HFV.out ?_
         intro Y hYB hYs hYR hYF
         have HYB := hid hYB
         have HUY := hid (HUV.out.to (T := fun b => w.heap.size ≤ b) hYs (fun b hb _ => ⟨hb.2, hb.1⟩))
         have HYR := hid hYR
         have HYF := hid hYF
         clear hYB hYs hYR hYF)
      | fail)
    have kc := cells8 HYB.out
    exact bodyPost_ret (v := .agg #[.int .i64 k3, .int .i64 op3, .string (str8 tb3), .string (str8 nm3), .int .i64 vk3, .int .i64 vn3, .string (str8 vs3), .slice aa3 nn3 cc3]) (by simp [results, Tryz.results140, go_sem, kc]) rfl ⟨_, rfl, HUY.out, HYR.out, HYF.out⟩
  · have hd' : ¬ (10 : Int) < r.d + 1 := hd
    have HRD : Hid (RdAt F W1 g (downR r)) := hid (by
      have e : downR r = { r with d := r.d + 1 } := by unfold downR; rw [if_neg hd]
      rw [e] at hGd ⊢
      exact ⟨hGd, hL1.lie⟩)
    have HBD := hid HB1.out
    have HFD := hid HF1.out
    clear hd hGd hL1 HH
    go_enter Tryz.func140, Tryz.ntmps140
    go_wp2_with fail
    clear hW1 hW
    refine (HP.out W1 HRD.out).mono ?_
    rintro e w2 ⟨u, rfl, hu, hr2, hf2⟩
    have HU := hid hu
    obtain ⟨k3, op3, tb3, nm3, vk3, vn3, vs3, ys3, aa3, nn3, cc3, _, rfl, _⟩ := hu
    have hz2 := hf2.size
    have hgz2 : g < w2.heap.size := hr2.lt
    obtain ⟨U, hU, hbU, hzU, hcU⟩ := box8 w2 (.cells #[.int .i64 k3, .int .i64 op3, .string (str8 tb3), .string (str8 nm3), .int .i64 vk3, .int .i64 vn3, .string (str8 vs3), .slice aa3 nn3 cc3] 40)
    have hLU := (hr2.below hbU).toL
    obtain ⟨vU, hvU, _⟩ := hLU.lie
    rw [hd3] at hvU
    have kU := cells4 hvU
    obtain ⟨V, hV, hLV, hFV⟩ := hLU.setD r.d
    have kV := cells8f ((hFV.block w2.heap.size hzU (by omega)).trans hcU)
    have HRV : Hid (RdAt F V g y2) := hid (by
      rw [HUP.out] at HG2 ⊢
      have e : upR r2 = { r2 with d := r.d } := by unfold upR; rw [hd3]; congr 1; omega
      rw [e] at HG2 ⊢
      exact ⟨HG2.out, hLV.lie⟩)
    have HBV := hid ((hFV.block w.heap.size (by omega) (by omega)).trans ((hbU.block w.heap.size (by omega)).trans ((hf2.block w.heap.size (by omega) (by omega)).trans HBD.out)))
    have HFV : Hid (Fr g w V) := hid (((HFD.out.then hf2).thenNew hbU).then hFV)
    have HUV : Hid (ExV (fun b => w.heap.size ≤ b ∧ b ≠ w.heap.size) V y1 _) := hid (by
      rw [HX1.out]
      exact (HU.out.to (T := fun b => w.heap.size ≤ b ∧ b ≠ w.heap.size ∧ b ≠ g) (R := fun _ => False) (Spares.of_new hbU) (fun b hb _ => ⟨id, by omega, by omega, by omega⟩)).to hFV (fun b hb _ => ⟨hb.2.2, hb.1, hb.2.1⟩))
    clear hr2 hf2 HP hvU hLU hbU hcU hLV hFV HU HX1
    go_wp2_with (first
      | (refine wpList_store_box rfl (.tmp 4) (.tmp 29) rfl w.heap.size rfl k3 op3 vk3 vn3 (str8 tb3) (str8 nm3) (str8 vs3) aa3 nn3 cc3 rfl HBV.out (Nat.le_refl _) hgw HRV.out HFV.out ?_
         intro Y hYB hYs hYR hYF
         have HYB := hid hYB
         have HUY := hid (HUV.out.to (T := fun b => w.heap.size ≤ b) hYs (fun b hb _ => ⟨hb.2, hb.1⟩))
         have HYR := hid hYR
         have HYF := hid hYF
         clear hYB hYs hYR hYF)
      | fail)
    have kc := cells8 HYB.out
    exact bodyPost_ret (v := .agg #[.int .i64 k3, .int .i64 op3, .string (str8 tb3), .string (str8 nm3), .int .i64 vk3, .int .i64 vn3, .string (str8 vs3), .slice aa3 nn3 cc3]) (by simp [results, Tryz.results140, go_sem, kc]) rfl ⟨_, rfl, HUY.out, HYR.out, HYF.out⟩

end Go.Proofs.YtokfphfgcjbpkaaGreatDoor
