/- Contracts of proof.stepBytes, Bytes. -/
import Derived.Test.YtmafaioohiaenaaDoorCheckG
namespace Go.Proofs.YtmafaioohiaenaaDoor
open Go.RowKit Go.Shelf
set_option linter.unusedVariables false
set_option linter.unusedSimpArgs false
set_option maxRecDepth 20000

/-- A step in bytes. -/
def sideZ (b : Bool) : UInt8 := if b then 1 else 0
def stepB (s : Zst) : List UInt8 := be (u64of s.1) 8 ++ sideZ s.2.1 :: s.2.2

theorem stepB_length {s : Zst} (h : ZOk s) : (stepB s).length = 41 := by simp [stepB, be_length, h.len]

theorem wp_value_of {P : Program} {o : Oper} {a : Act} {w w' : World} {K : Act → World → Prop} {Q : Exit → Act → World → Prop} {v : Value} (hr : (execOp a.eval o).run P w = .ok (.value v) w') (h : K (a.put o.dst v) w') : o.wp P a w K Q := by
  unfold Oper.wp
  rw [hr]
  exact h

theorem run_load_int (w : World) {ad : Addr} {n : Int} (hc : w.cell? ad = some (.int .i64 n)) : (loadVar 3 ad).run Tryd.prog w = .ok (.int .i64 n) w := by
  simp [loadVar, isAgg, Sem.run_bind, run_underlying Tryd.underlying3, hc]

theorem other_cells {w : World} {g : Nat} {s : Zst} (h : w.heap[g]? = some (.cells (zc s).toArray 66 (0, 0))) : ∀ (j : Nat) (u : Value), (s.2.2.map by8)[j]? = some u → w.cell? ((⟨g, 2, none⟩ : Addr).add j) = some u := fun j u hu => by
  have hadd : (⟨g, 2, none⟩ : Addr).add j = ⟨g, 2 + j, none⟩ := by unfold Addr.add; split <;> simp_all
  rw [hadd, cell_of_row _ _ _ _ _ _ h, List.getElem?_toArray, show 2 + j = j + 1 + 1 by omega]
  simpa [zc] using hu

set_option maxHeartbeats 8000000 in
theorem stepBytes_any (s : Zst) (w : World) (hok : ZOk s) :
    Calls Tryd.prog 56 #[.agg (zc s).toArray] w fun e w' => ∃ v', e = .returned v' ∧ w'.ownsRow w.heap.size 5 1 v' 41 ((stepB s).map by8) ∧ Below w.heap.size w w' := by
  have hnew := World.alloc_heap_new w (.cells (zc s).toArray 66)
  have hbn : Below w.heap.size w (w.alloc (.cells (zc s).toArray 66)) := (Below.refl _ _).alloc (Nat.le_refl _) _
  have hsn : (w.alloc (.cells (zc s).toArray 66)).heap.size = w.heap.size + 1 := World.size_alloc _ _
  obtain ⟨hc0, hc1⟩ := boxed_cells hnew
  cases hsd : s.2.1 with
  | false =>
    rw [hsd] at hc1
    go_enter Tryd.func56, Tryd.ntmps56
    go_wp2_with fail
    generalize w.alloc (.cells (zc s).toArray 66) = W at *
    have hS0 : (fun W' : World => W'.heap[w.heap.size]? = some (.cells (zc s).toArray 66 (0, 0))) W.drew := hnew
    refine last_region (fun W' : World => W'.heap[w.heap.size]? = some (.cells (zc s).toArray 66 (0, 0))) 9 (by kernel_rfl) ?_
    refine wpAnyE_take (i := 0) (v := ?_) rfl (by kernel_rfl) (by kernel_rfl) (by kernel_rfl) (by kernel_rfl) (by kernel_rfl) (fun _ _ _ h => h) (Or.inl ⟨by rfl, ?_⟩) (by assumption) ?_; rotate_left; (focus (intro w hSw; (try dsimp only at hSw); (try obtain ⟨hSw1, hSw2, hSw3⟩ := hSw); go_simp <;> with_reducible rfl)); (try simp only [Act.put, List.getElem_toArray, List.getElem_cons_zero, List.getElem_cons_succ, List.setIfInBounds_toArray, List.set_cons_zero, List.set_cons_succ])
    refine wpAnyE_take (i := 1) (v := .int .i64 s.1) rfl (by kernel_rfl) (by kernel_rfl) (by kernel_rfl) (by kernel_rfl) (by kernel_rfl) (fun _ _ _ h => h) (yields_val 3 (.tmp 6) rfl ⟨w.heap.size, 0, none⟩ (by kernel_rfl) _ (by rfl) (fun W hW => run_load_int W (boxed_cells hW).1)) hS0 ?_
    simp only [Act.put, List.getElem_toArray, List.getElem_cons_zero, List.getElem_cons_succ, List.setIfInBounds_toArray, List.set_cons_zero, List.set_cons_succ]
    refine wpAnyE_take (i := 3) (v := ?_) rfl (by kernel_rfl) (by kernel_rfl) (by kernel_rfl) (by kernel_rfl) (by kernel_rfl) (fun _ _ _ h => h) (Or.inl ⟨by rfl, ?_⟩) (by assumption) ?_; rotate_left; (focus (intro w hSw; (try dsimp only at hSw); (try obtain ⟨hSw1, hSw2, hSw3⟩ := hSw); go_simp <;> with_reducible rfl)); (try simp only [Act.put, List.getElem_toArray, List.getElem_cons_zero, List.getElem_cons_succ, List.setIfInBounds_toArray, List.set_cons_zero, List.set_cons_succ])
    refine wpAnyE_take (i := 6) (v := ?_) rfl (by kernel_rfl) (by kernel_rfl) (by kernel_rfl) (by kernel_rfl) (by kernel_rfl) (fun _ _ _ h => h) (Or.inl ⟨by rfl, ?_⟩) (by assumption) ?_; rotate_left; (focus (intro w hSw; (try dsimp only at hSw); (try obtain ⟨hSw1, hSw2, hSw3⟩ := hSw); go_simp <;> with_reducible rfl)); (try simp only [Act.put, List.getElem_toArray, List.getElem_cons_zero, List.getElem_cons_succ, List.setIfInBounds_toArray, List.set_cons_zero, List.set_cons_succ])
    refine wpAnyE_take (i := 7) (v := ?_) rfl (by kernel_rfl) (by kernel_rfl) (by kernel_rfl) (by kernel_rfl) (by kernel_rfl) (fun _ _ _ h => h) (Or.inl ⟨by rfl, ?_⟩) (by assumption) ?_; rotate_left; (focus (intro w hSw; (try dsimp only at hSw); (try obtain ⟨hSw1, hSw2, hSw3⟩ := hSw); go_simp <;> with_reducible rfl)); (try simp only [Act.put, List.getElem_toArray, List.getElem_cons_zero, List.getElem_cons_succ, List.setIfInBounds_toArray, List.set_cons_zero, List.set_cons_succ])
    have hbd : Below w.heap.size w W.drew := hbn.trans (below_drewN _ _ 1)
    have hzd : W.drew.heap.size = w.heap.size + 1 := hsn
    refine takeE_two (i := 2) (j := 4) (by kernel_rfl) rfl rfl rfl rfl ?_ ?_
    · refine wp_call_of #[.int .i64 s.1] (fun u w' => ∃ an cn, u = .slice an 8 cn ∧ w'.ownsRow (w.heap.size + 1) 5 1 (.slice an 8 cn) 8 ((be (u64of s.1) 8).map by8) ∧ Below W.drew.heap.size W.drew w') rfl (by kernel_rfl) (enters_of Tryd.func55 (by kernel_rfl) rfl) ((num_any s.1 W.drew).mono fun e w' ⟨v', h1, h2, h3⟩ => by
        obtain ⟨an, cn, rfl⟩ := row_form h2
        exact ⟨_, h1, an, cn, rfl, by rw [hzd] at h2; exact h2, h3⟩) ?_
      rintro _ W1 ⟨an, cn, rfl, hon1, hb1⟩
      have hbx1 := (hb1.block _ (by omega)).trans hS0
      refine ⟨.inl hbx1, ?_⟩
      simp only [Act.put, List.getElem_toArray, List.getElem_cons_zero, List.getElem_cons_succ, List.setIfInBounds_toArray, List.set_cons_zero, List.set_cons_succ]
      have hz1 := hb1.size
      have hb2 : Below W1.heap.size W1 (W1.alloc (.cells #[.int .u8 0] 5)) := (Below.refl _ _).alloc (Nat.le_refl _) _
      have hbx := (hb2.block _ (block_lt hbx1)).trans hbx1
      refine takeE_value (i := 4) (v := .slice (some ⟨W1.heap.size, 0, none⟩) 1 1) (w' := W1.alloc (.cells #[.int .u8 0] 5)) (by kernel_rfl) rfl rfl (by go_simp <;> with_reducible rfl) hbx ?_
      simp only [Act.put, List.getElem_toArray, List.getElem_cons_zero, List.getElem_cons_succ, List.setIfInBounds_toArray, List.set_cons_zero, List.set_cons_succ]
      have hgs := World.alloc_heap_new W1 (.cells #[.int .u8 0] 5)
      have hon := ownsRow_below hon1 hb2
      have hBW : Below w.heap.size w (W1.alloc (.cells #[.int .u8 0] 5)) := (hbd.trans (hb1.mono (by omega))).trans (hb2.mono (by omega))
      have hzz := hb2.size
      generalize W1.alloc (.cells #[.int .u8 0] 5) = W2 at *
      generalize W1.heap.size = gs at *

      -- both at hand
      obtain ⟨i0, hi, hz0, hz1, hz2⟩ := info_parts Tryd.infoU8
      refine takeE_append (i := 5) (s := .tmp 8) (x := .tmp 10) (t := 24) (by kernel_rfl) rfl rfl rfl (w.heap.size + 1) 5 i0 _ 1 1 Tryd.underlying24 hi hz0 hz1 hz2 rfl (by decide) (.slice an 8 cn) 8 ((be (u64of s.1) 8).map by8) (by kernel_rfl) hon ⟨gs, 0, none⟩ 1 1 [.int .u8 0] (by kernel_rfl) rfl (by have := World.news_of_block hgs; simpa using this) (by intro u hu; simp at hu; subst hu; rfl) (by decide) (by decide) (by decide) (by omega) ?_
      intro g cap W3 hown3 hgrow3 hat3 hgl3
      have hlow3 : ∀ i, Value.ownBlock (.slice an 8 cn) = some i → w.heap.size + 1 ≤ i := fun i hi => (hon.lt i hi).1
      have hbx3 : W3.heap[w.heap.size]? = some (.cells (zc s).toArray 66 (0, 0)) := (hgrow3.block _ (by omega) (fun e => by have := hlow3 _ e.symm; omega)).trans hbx
      have hB3 : Below w.heap.size w W3 := hBW.trans ((Spares.of_grown (S := fun i => Value.ownBlock (.slice an 8 cn) = some i) hgrow3 (fun k e => e)).below (fun i hi => by have := hlow3 i hi; omega) (by omega))
      have hz3 := hgrow3.size
      refine ⟨hbx3, ?_⟩
      simp only [Act.put, List.getElem_toArray, List.getElem_cons_zero, List.getElem_cons_succ, List.setIfInBounds_toArray, List.set_cons_zero, List.set_cons_succ]
      refine takeE_append (i := 8) (s := .tmp 11) (x := .tmp 13) (t := 24) (by kernel_rfl) rfl rfl rfl (w.heap.size + 1) 5 i0 _ 1 1 Tryd.underlying24 hi hz0 hz1 hz2 rfl (by decide) (.slice (some ⟨g, 0, none⟩) (8 + 1) cap) (8 + 1) ((be (u64of s.1) 8).map by8 ++ [.int .u8 0]) (by kernel_rfl) hown3 ⟨w.heap.size, 2, none⟩ 32 32 (s.2.2.map by8) (by kernel_rfl) (by simp [hok.len]) (other_cells hbx3) (by8_one _) (by decide) (by decide) (by decide) (by omega) ?_
      intro g' cap' W4 hown4 hgrow4 hat4 hgl4
      have hg3 : w.heap.size + 1 ≤ g := (hown3.lt g rfl).1
      have hbx4 : W4.heap[w.heap.size]? = some (.cells (zc s).toArray 66 (0, 0)) := (hgrow4.block _ (by omega) (fun e => by simp only [Value.ownBlock, Option.some.injEq] at e; omega)).trans hbx3
      have hB4 : Below w.heap.size w W4 := hB3.trans ((Spares.of_grown (S := fun i => i = g) hgrow4 (fun k e => by simp only [Value.ownBlock, Option.some.injEq] at e; exact e.symm)).below (fun i hi => by omega) (by omega))
      refine ⟨hbx4, ?_⟩
      simp only [Act.put, List.getElem_toArray, List.getElem_cons_zero, List.getElem_cons_succ, List.setIfInBounds_toArray, List.set_cons_zero, List.set_cons_succ]
      refine takeE_value (i := 9) (v := .slice (some ⟨g', 0, none⟩) (8 + 1 + 32) cap') (by kernel_rfl) rfl rfl (by rfl) hbx4 ?_
      simp only [Act.put, List.getElem_toArray, List.getElem_cons_zero, List.getElem_cons_succ, List.setIfInBounds_toArray, List.set_cons_zero, List.set_cons_succ]
      refine wpAnyE_done (by kernel_rfl) ?_ _
      simp only [only_normal]
      have HO : Hid (W4.ownsRow w.heap.size 5 1 (.slice (some ⟨g', 0, none⟩) 41 cap') 41 ((stepB s).map by8)) := hid (by
        have e : (stepB s).map by8 = (be (u64of s.1) 8).map by8 ++ [Value.int .u8 0] ++ s.2.2.map by8 := by simp [stepB, hsd, sideZ, by8]
        rw [e]
        exact owns_lower hown4 (fun q hq => by have := (hown4.lt q hq).1; omega))
      have HB := hid hB4
      clear hown4 hgrow4 hat4 hown3 hgrow3 hat3 hon hgs hbx hbx3 hbx4 hB3 hB4 hBW
      go_wp2
      go_ret
      exact ⟨_, rfl, HO.out, HB.out⟩
    · have hb1 : Below W.drew.heap.size W.drew (W.drew.alloc (.cells #[.int .u8 0] 5)) := Below.alloc (Below.refl _ W.drew) (Nat.le_refl _) _
      have hbx1 := (hb1.block _ (block_lt hS0)).trans hS0
      refine wp_value_of (v := .slice (some ⟨W.drew.heap.size, 0, none⟩) 1 1) (w' := W.drew.alloc (.cells #[.int .u8 0] 5)) (by go_simp <;> with_reducible rfl) ⟨.inl hbx1, ?_⟩
      simp only [Act.put, List.getElem_toArray, List.getElem_cons_zero, List.getElem_cons_succ, List.setIfInBounds_toArray, List.set_cons_zero, List.set_cons_succ]
      have hgs1 := World.alloc_heap_new W.drew (.cells #[.int .u8 0] 5)
      have hz1 : (W.drew.alloc (.cells #[.int .u8 0] 5)).heap.size = w.heap.size + 2 := by rw [World.size_alloc, hzd]
      have hBW1 : Below w.heap.size w (W.drew.alloc (.cells #[.int .u8 0] 5)) := hbd.trans (hb1.mono (by omega))
      generalize W.drew.alloc (.cells #[.int .u8 0] 5) = W1 at *
      rw [hzd] at hgs1 ⊢
      refine takeE_call (i := 2) #[.int .i64 s.1] (fun u w' => ∃ an cn, u = .slice an 8 cn ∧ w'.ownsRow (w.heap.size + 2) 5 1 (.slice an 8 cn) 8 ((be (u64of s.1) 8).map by8) ∧ Below W1.heap.size W1 w') (by kernel_rfl) rfl rfl rfl (by kernel_rfl) (enters_of Tryd.func55 (by kernel_rfl) rfl) ((num_any s.1 W1).mono fun e w' ⟨v', h1, h2, h3⟩ => by
        obtain ⟨an, cn, rfl⟩ := row_form h2
        exact ⟨_, h1, an, cn, rfl, by rw [hz1] at h2; exact h2, h3⟩) ?_
      rintro _ W2 ⟨an, cn, rfl, hon2, hb2⟩
      have hbx := (hb2.block _ (by omega)).trans hbx1
      refine ⟨hbx, ?_⟩
      simp only [Act.put, List.getElem_toArray, List.getElem_cons_zero, List.getElem_cons_succ, List.setIfInBounds_toArray, List.set_cons_zero, List.set_cons_succ]
      have hgs := (hb2.block _ (by omega)).trans hgs1
      have hon : W2.ownsRow (w.heap.size + 1) 5 1 (.slice an 8 cn) 8 ((be (u64of s.1) 8).map by8) := owns_lower hon2 (fun g hg => by have := (hon2.lt g hg).1; omega)
      have hBW : Below w.heap.size w W2 := hBW1.trans (hb2.mono (by omega))
      have hzz := hb2.size
      obtain ⟨gs, hgse⟩ : ∃ gs, w.heap.size + 1 = gs := ⟨_, rfl⟩
      rw [hgse] at hgs ⊢

      -- both at hand
      obtain ⟨i0, hi, hz0, hz1, hz2⟩ := info_parts Tryd.infoU8
      refine takeE_append (i := 5) (s := .tmp 8) (x := .tmp 10) (t := 24) (by kernel_rfl) rfl rfl rfl (w.heap.size + 1) 5 i0 _ 1 1 Tryd.underlying24 hi hz0 hz1 hz2 rfl (by decide) (.slice an 8 cn) 8 ((be (u64of s.1) 8).map by8) (by kernel_rfl) hon ⟨gs, 0, none⟩ 1 1 [.int .u8 0] (by kernel_rfl) rfl (by have := World.news_of_block hgs; simpa using this) (by intro u hu; simp at hu; subst hu; rfl) (by decide) (by decide) (by decide) (by omega) ?_
      intro g cap W3 hown3 hgrow3 hat3 hgl3
      have hlow3 : ∀ i, Value.ownBlock (.slice an 8 cn) = some i → w.heap.size + 1 ≤ i := fun i hi => (hon.lt i hi).1
      have hbx3 : W3.heap[w.heap.size]? = some (.cells (zc s).toArray 66 (0, 0)) := (hgrow3.block _ (by omega) (fun e => by have := hlow3 _ e.symm; omega)).trans hbx
      have hB3 : Below w.heap.size w W3 := hBW.trans ((Spares.of_grown (S := fun i => Value.ownBlock (.slice an 8 cn) = some i) hgrow3 (fun k e => e)).below (fun i hi => by have := hlow3 i hi; omega) (by omega))
      have hz3 := hgrow3.size
      refine ⟨hbx3, ?_⟩
      simp only [Act.put, List.getElem_toArray, List.getElem_cons_zero, List.getElem_cons_succ, List.setIfInBounds_toArray, List.set_cons_zero, List.set_cons_succ]
      refine takeE_append (i := 8) (s := .tmp 11) (x := .tmp 13) (t := 24) (by kernel_rfl) rfl rfl rfl (w.heap.size + 1) 5 i0 _ 1 1 Tryd.underlying24 hi hz0 hz1 hz2 rfl (by decide) (.slice (some ⟨g, 0, none⟩) (8 + 1) cap) (8 + 1) ((be (u64of s.1) 8).map by8 ++ [.int .u8 0]) (by kernel_rfl) hown3 ⟨w.heap.size, 2, none⟩ 32 32 (s.2.2.map by8) (by kernel_rfl) (by simp [hok.len]) (other_cells hbx3) (by8_one _) (by decide) (by decide) (by decide) (by omega) ?_
      intro g' cap' W4 hown4 hgrow4 hat4 hgl4
      have hg3 : w.heap.size + 1 ≤ g := (hown3.lt g rfl).1
      have hbx4 : W4.heap[w.heap.size]? = some (.cells (zc s).toArray 66 (0, 0)) := (hgrow4.block _ (by omega) (fun e => by simp only [Value.ownBlock, Option.some.injEq] at e; omega)).trans hbx3
      have hB4 : Below w.heap.size w W4 := hB3.trans ((Spares.of_grown (S := fun i => i = g) hgrow4 (fun k e => by simp only [Value.ownBlock, Option.some.injEq] at e; exact e.symm)).below (fun i hi => by omega) (by omega))
      refine ⟨hbx4, ?_⟩
      simp only [Act.put, List.getElem_toArray, List.getElem_cons_zero, List.getElem_cons_succ, List.setIfInBounds_toArray, List.set_cons_zero, List.set_cons_succ]
      refine takeE_value (i := 9) (v := .slice (some ⟨g', 0, none⟩) (8 + 1 + 32) cap') (by kernel_rfl) rfl rfl (by rfl) hbx4 ?_
      simp only [Act.put, List.getElem_toArray, List.getElem_cons_zero, List.getElem_cons_succ, List.setIfInBounds_toArray, List.set_cons_zero, List.set_cons_succ]
      refine wpAnyE_done (by kernel_rfl) ?_ _
      simp only [only_normal]
      have HO : Hid (W4.ownsRow w.heap.size 5 1 (.slice (some ⟨g', 0, none⟩) 41 cap') 41 ((stepB s).map by8)) := hid (by
        have e : (stepB s).map by8 = (be (u64of s.1) 8).map by8 ++ [Value.int .u8 0] ++ s.2.2.map by8 := by simp [stepB, hsd, sideZ, by8]
        rw [e]
        exact owns_lower hown4 (fun q hq => by have := (hown4.lt q hq).1; omega))
      have HB := hid hB4
      clear hown4 hgrow4 hat4 hown3 hgrow3 hat3 hon hgs hbx hbx3 hbx4 hB3 hB4 hBW
      go_wp2
      go_ret
      exact ⟨_, rfl, HO.out, HB.out⟩
  | true =>
    rw [hsd] at hc1
    go_enter Tryd.func56, Tryd.ntmps56
    go_wp2_with fail
    generalize w.alloc (.cells (zc s).toArray 66) = W at *
    have hS0 : (fun W' : World => W'.heap[w.heap.size]? = some (.cells (zc s).toArray 66 (0, 0))) W.drew := hnew
    refine last_region (fun W' : World => W'.heap[w.heap.size]? = some (.cells (zc s).toArray 66 (0, 0))) 9 (by kernel_rfl) ?_
    refine wpAnyE_take (i := 0) (v := ?_) rfl (by kernel_rfl) (by kernel_rfl) (by kernel_rfl) (by kernel_rfl) (by kernel_rfl) (fun _ _ _ h => h) (Or.inl ⟨by rfl, ?_⟩) (by assumption) ?_; rotate_left; (focus (intro w hSw; (try dsimp only at hSw); (try obtain ⟨hSw1, hSw2, hSw3⟩ := hSw); go_simp <;> with_reducible rfl)); (try simp only [Act.put, List.getElem_toArray, List.getElem_cons_zero, List.getElem_cons_succ, List.setIfInBounds_toArray, List.set_cons_zero, List.set_cons_succ])
    refine wpAnyE_take (i := 1) (v := .int .i64 s.1) rfl (by kernel_rfl) (by kernel_rfl) (by kernel_rfl) (by kernel_rfl) (by kernel_rfl) (fun _ _ _ h => h) (yields_val 3 (.tmp 6) rfl ⟨w.heap.size, 0, none⟩ (by kernel_rfl) _ (by rfl) (fun W hW => run_load_int W (boxed_cells hW).1)) hS0 ?_
    simp only [Act.put, List.getElem_toArray, List.getElem_cons_zero, List.getElem_cons_succ, List.setIfInBounds_toArray, List.set_cons_zero, List.set_cons_succ]
    refine wpAnyE_take (i := 3) (v := ?_) rfl (by kernel_rfl) (by kernel_rfl) (by kernel_rfl) (by kernel_rfl) (by kernel_rfl) (fun _ _ _ h => h) (Or.inl ⟨by rfl, ?_⟩) (by assumption) ?_; rotate_left; (focus (intro w hSw; (try dsimp only at hSw); (try obtain ⟨hSw1, hSw2, hSw3⟩ := hSw); go_simp <;> with_reducible rfl)); (try simp only [Act.put, List.getElem_toArray, List.getElem_cons_zero, List.getElem_cons_succ, List.setIfInBounds_toArray, List.set_cons_zero, List.set_cons_succ])
    refine wpAnyE_take (i := 6) (v := ?_) rfl (by kernel_rfl) (by kernel_rfl) (by kernel_rfl) (by kernel_rfl) (by kernel_rfl) (fun _ _ _ h => h) (Or.inl ⟨by rfl, ?_⟩) (by assumption) ?_; rotate_left; (focus (intro w hSw; (try dsimp only at hSw); (try obtain ⟨hSw1, hSw2, hSw3⟩ := hSw); go_simp <;> with_reducible rfl)); (try simp only [Act.put, List.getElem_toArray, List.getElem_cons_zero, List.getElem_cons_succ, List.setIfInBounds_toArray, List.set_cons_zero, List.set_cons_succ])
    refine wpAnyE_take (i := 7) (v := ?_) rfl (by kernel_rfl) (by kernel_rfl) (by kernel_rfl) (by kernel_rfl) (by kernel_rfl) (fun _ _ _ h => h) (Or.inl ⟨by rfl, ?_⟩) (by assumption) ?_; rotate_left; (focus (intro w hSw; (try dsimp only at hSw); (try obtain ⟨hSw1, hSw2, hSw3⟩ := hSw); go_simp <;> with_reducible rfl)); (try simp only [Act.put, List.getElem_toArray, List.getElem_cons_zero, List.getElem_cons_succ, List.setIfInBounds_toArray, List.set_cons_zero, List.set_cons_succ])
    have hbd : Below w.heap.size w W.drew := hbn.trans (below_drewN _ _ 1)
    have hzd : W.drew.heap.size = w.heap.size + 1 := hsn
    refine takeE_two (i := 2) (j := 4) (by kernel_rfl) rfl rfl rfl rfl ?_ ?_
    · refine wp_call_of #[.int .i64 s.1] (fun u w' => ∃ an cn, u = .slice an 8 cn ∧ w'.ownsRow (w.heap.size + 1) 5 1 (.slice an 8 cn) 8 ((be (u64of s.1) 8).map by8) ∧ Below W.drew.heap.size W.drew w') rfl (by kernel_rfl) (enters_of Tryd.func55 (by kernel_rfl) rfl) ((num_any s.1 W.drew).mono fun e w' ⟨v', h1, h2, h3⟩ => by
        obtain ⟨an, cn, rfl⟩ := row_form h2
        exact ⟨_, h1, an, cn, rfl, by rw [hzd] at h2; exact h2, h3⟩) ?_
      rintro _ W1 ⟨an, cn, rfl, hon1, hb1⟩
      have hbx1 := (hb1.block _ (by omega)).trans hS0
      refine ⟨.inl hbx1, ?_⟩
      simp only [Act.put, List.getElem_toArray, List.getElem_cons_zero, List.getElem_cons_succ, List.setIfInBounds_toArray, List.set_cons_zero, List.set_cons_succ]
      have hz1 := hb1.size
      have hb2 : Below W1.heap.size W1 (W1.alloc (.cells #[.int .u8 1] 5)) := (Below.refl _ _).alloc (Nat.le_refl _) _
      have hbx := (hb2.block _ (block_lt hbx1)).trans hbx1
      refine takeE_value (i := 4) (v := .slice (some ⟨W1.heap.size, 0, none⟩) 1 1) (w' := W1.alloc (.cells #[.int .u8 1] 5)) (by kernel_rfl) rfl rfl (by go_simp <;> with_reducible rfl) hbx ?_
      simp only [Act.put, List.getElem_toArray, List.getElem_cons_zero, List.getElem_cons_succ, List.setIfInBounds_toArray, List.set_cons_zero, List.set_cons_succ]
      have hgs := World.alloc_heap_new W1 (.cells #[.int .u8 1] 5)
      have hon := ownsRow_below hon1 hb2
      have hBW : Below w.heap.size w (W1.alloc (.cells #[.int .u8 1] 5)) := (hbd.trans (hb1.mono (by omega))).trans (hb2.mono (by omega))
      have hzz := hb2.size
      generalize W1.alloc (.cells #[.int .u8 1] 5) = W2 at *
      generalize W1.heap.size = gs at *

      -- both at hand
      obtain ⟨i0, hi, hz0, hz1, hz2⟩ := info_parts Tryd.infoU8
      refine takeE_append (i := 5) (s := .tmp 8) (x := .tmp 10) (t := 24) (by kernel_rfl) rfl rfl rfl (w.heap.size + 1) 5 i0 _ 1 1 Tryd.underlying24 hi hz0 hz1 hz2 rfl (by decide) (.slice an 8 cn) 8 ((be (u64of s.1) 8).map by8) (by kernel_rfl) hon ⟨gs, 0, none⟩ 1 1 [.int .u8 1] (by kernel_rfl) rfl (by have := World.news_of_block hgs; simpa using this) (by intro u hu; simp at hu; subst hu; rfl) (by decide) (by decide) (by decide) (by omega) ?_
      intro g cap W3 hown3 hgrow3 hat3 hgl3
      have hlow3 : ∀ i, Value.ownBlock (.slice an 8 cn) = some i → w.heap.size + 1 ≤ i := fun i hi => (hon.lt i hi).1
      have hbx3 : W3.heap[w.heap.size]? = some (.cells (zc s).toArray 66 (0, 0)) := (hgrow3.block _ (by omega) (fun e => by have := hlow3 _ e.symm; omega)).trans hbx
      have hB3 : Below w.heap.size w W3 := hBW.trans ((Spares.of_grown (S := fun i => Value.ownBlock (.slice an 8 cn) = some i) hgrow3 (fun k e => e)).below (fun i hi => by have := hlow3 i hi; omega) (by omega))
      have hz3 := hgrow3.size
      refine ⟨hbx3, ?_⟩
      simp only [Act.put, List.getElem_toArray, List.getElem_cons_zero, List.getElem_cons_succ, List.setIfInBounds_toArray, List.set_cons_zero, List.set_cons_succ]
      refine takeE_append (i := 8) (s := .tmp 11) (x := .tmp 13) (t := 24) (by kernel_rfl) rfl rfl rfl (w.heap.size + 1) 5 i0 _ 1 1 Tryd.underlying24 hi hz0 hz1 hz2 rfl (by decide) (.slice (some ⟨g, 0, none⟩) (8 + 1) cap) (8 + 1) ((be (u64of s.1) 8).map by8 ++ [.int .u8 1]) (by kernel_rfl) hown3 ⟨w.heap.size, 2, none⟩ 32 32 (s.2.2.map by8) (by kernel_rfl) (by simp [hok.len]) (other_cells hbx3) (by8_one _) (by decide) (by decide) (by decide) (by omega) ?_
      intro g' cap' W4 hown4 hgrow4 hat4 hgl4
      have hg3 : w.heap.size + 1 ≤ g := (hown3.lt g rfl).1
      have hbx4 : W4.heap[w.heap.size]? = some (.cells (zc s).toArray 66 (0, 0)) := (hgrow4.block _ (by omega) (fun e => by simp only [Value.ownBlock, Option.some.injEq] at e; omega)).trans hbx3
      have hB4 : Below w.heap.size w W4 := hB3.trans ((Spares.of_grown (S := fun i => i = g) hgrow4 (fun k e => by simp only [Value.ownBlock, Option.some.injEq] at e; exact e.symm)).below (fun i hi => by omega) (by omega))
      refine ⟨hbx4, ?_⟩
      simp only [Act.put, List.getElem_toArray, List.getElem_cons_zero, List.getElem_cons_succ, List.setIfInBounds_toArray, List.set_cons_zero, List.set_cons_succ]
      refine takeE_value (i := 9) (v := .slice (some ⟨g', 0, none⟩) (8 + 1 + 32) cap') (by kernel_rfl) rfl rfl (by rfl) hbx4 ?_
      simp only [Act.put, List.getElem_toArray, List.getElem_cons_zero, List.getElem_cons_succ, List.setIfInBounds_toArray, List.set_cons_zero, List.set_cons_succ]
      refine wpAnyE_done (by kernel_rfl) ?_ _
      simp only [only_normal]
      have HO : Hid (W4.ownsRow w.heap.size 5 1 (.slice (some ⟨g', 0, none⟩) 41 cap') 41 ((stepB s).map by8)) := hid (by
        have e : (stepB s).map by8 = (be (u64of s.1) 8).map by8 ++ [Value.int .u8 1] ++ s.2.2.map by8 := by simp [stepB, hsd, sideZ, by8]
        rw [e]
        exact owns_lower hown4 (fun q hq => by have := (hown4.lt q hq).1; omega))
      have HB := hid hB4
      clear hown4 hgrow4 hat4 hown3 hgrow3 hat3 hon hgs hbx hbx3 hbx4 hB3 hB4 hBW
      go_wp2
      go_ret
      exact ⟨_, rfl, HO.out, HB.out⟩
    · have hb1 : Below W.drew.heap.size W.drew (W.drew.alloc (.cells #[.int .u8 1] 5)) := Below.alloc (Below.refl _ W.drew) (Nat.le_refl _) _
      have hbx1 := (hb1.block _ (block_lt hS0)).trans hS0
      refine wp_value_of (v := .slice (some ⟨W.drew.heap.size, 0, none⟩) 1 1) (w' := W.drew.alloc (.cells #[.int .u8 1] 5)) (by go_simp <;> with_reducible rfl) ⟨.inl hbx1, ?_⟩
      simp only [Act.put, List.getElem_toArray, List.getElem_cons_zero, List.getElem_cons_succ, List.setIfInBounds_toArray, List.set_cons_zero, List.set_cons_succ]
      have hgs1 := World.alloc_heap_new W.drew (.cells #[.int .u8 1] 5)
      have hz1 : (W.drew.alloc (.cells #[.int .u8 1] 5)).heap.size = w.heap.size + 2 := by rw [World.size_alloc, hzd]
      have hBW1 : Below w.heap.size w (W.drew.alloc (.cells #[.int .u8 1] 5)) := hbd.trans (hb1.mono (by omega))
      generalize W.drew.alloc (.cells #[.int .u8 1] 5) = W1 at *
      rw [hzd] at hgs1 ⊢
      refine takeE_call (i := 2) #[.int .i64 s.1] (fun u w' => ∃ an cn, u = .slice an 8 cn ∧ w'.ownsRow (w.heap.size + 2) 5 1 (.slice an 8 cn) 8 ((be (u64of s.1) 8).map by8) ∧ Below W1.heap.size W1 w') (by kernel_rfl) rfl rfl rfl (by kernel_rfl) (enters_of Tryd.func55 (by kernel_rfl) rfl) ((num_any s.1 W1).mono fun e w' ⟨v', h1, h2, h3⟩ => by
        obtain ⟨an, cn, rfl⟩ := row_form h2
        exact ⟨_, h1, an, cn, rfl, by rw [hz1] at h2; exact h2, h3⟩) ?_
      rintro _ W2 ⟨an, cn, rfl, hon2, hb2⟩
      have hbx := (hb2.block _ (by omega)).trans hbx1
      refine ⟨hbx, ?_⟩
      simp only [Act.put, List.getElem_toArray, List.getElem_cons_zero, List.getElem_cons_succ, List.setIfInBounds_toArray, List.set_cons_zero, List.set_cons_succ]
      have hgs := (hb2.block _ (by omega)).trans hgs1
      have hon : W2.ownsRow (w.heap.size + 1) 5 1 (.slice an 8 cn) 8 ((be (u64of s.1) 8).map by8) := owns_lower hon2 (fun g hg => by have := (hon2.lt g hg).1; omega)
      have hBW : Below w.heap.size w W2 := hBW1.trans (hb2.mono (by omega))
      have hzz := hb2.size
      obtain ⟨gs, hgse⟩ : ∃ gs, w.heap.size + 1 = gs := ⟨_, rfl⟩
      rw [hgse] at hgs ⊢

      -- both at hand
      obtain ⟨i0, hi, hz0, hz1, hz2⟩ := info_parts Tryd.infoU8
      refine takeE_append (i := 5) (s := .tmp 8) (x := .tmp 10) (t := 24) (by kernel_rfl) rfl rfl rfl (w.heap.size + 1) 5 i0 _ 1 1 Tryd.underlying24 hi hz0 hz1 hz2 rfl (by decide) (.slice an 8 cn) 8 ((be (u64of s.1) 8).map by8) (by kernel_rfl) hon ⟨gs, 0, none⟩ 1 1 [.int .u8 1] (by kernel_rfl) rfl (by have := World.news_of_block hgs; simpa using this) (by intro u hu; simp at hu; subst hu; rfl) (by decide) (by decide) (by decide) (by omega) ?_
      intro g cap W3 hown3 hgrow3 hat3 hgl3
      have hlow3 : ∀ i, Value.ownBlock (.slice an 8 cn) = some i → w.heap.size + 1 ≤ i := fun i hi => (hon.lt i hi).1
      have hbx3 : W3.heap[w.heap.size]? = some (.cells (zc s).toArray 66 (0, 0)) := (hgrow3.block _ (by omega) (fun e => by have := hlow3 _ e.symm; omega)).trans hbx
      have hB3 : Below w.heap.size w W3 := hBW.trans ((Spares.of_grown (S := fun i => Value.ownBlock (.slice an 8 cn) = some i) hgrow3 (fun k e => e)).below (fun i hi => by have := hlow3 i hi; omega) (by omega))
      have hz3 := hgrow3.size
      refine ⟨hbx3, ?_⟩
      simp only [Act.put, List.getElem_toArray, List.getElem_cons_zero, List.getElem_cons_succ, List.setIfInBounds_toArray, List.set_cons_zero, List.set_cons_succ]
      refine takeE_append (i := 8) (s := .tmp 11) (x := .tmp 13) (t := 24) (by kernel_rfl) rfl rfl rfl (w.heap.size + 1) 5 i0 _ 1 1 Tryd.underlying24 hi hz0 hz1 hz2 rfl (by decide) (.slice (some ⟨g, 0, none⟩) (8 + 1) cap) (8 + 1) ((be (u64of s.1) 8).map by8 ++ [.int .u8 1]) (by kernel_rfl) hown3 ⟨w.heap.size, 2, none⟩ 32 32 (s.2.2.map by8) (by kernel_rfl) (by simp [hok.len]) (other_cells hbx3) (by8_one _) (by decide) (by decide) (by decide) (by omega) ?_
      intro g' cap' W4 hown4 hgrow4 hat4 hgl4
      have hg3 : w.heap.size + 1 ≤ g := (hown3.lt g rfl).1
      have hbx4 : W4.heap[w.heap.size]? = some (.cells (zc s).toArray 66 (0, 0)) := (hgrow4.block _ (by omega) (fun e => by simp only [Value.ownBlock, Option.some.injEq] at e; omega)).trans hbx3
      have hB4 : Below w.heap.size w W4 := hB3.trans ((Spares.of_grown (S := fun i => i = g) hgrow4 (fun k e => by simp only [Value.ownBlock, Option.some.injEq] at e; exact e.symm)).below (fun i hi => by omega) (by omega))
      refine ⟨hbx4, ?_⟩
      simp only [Act.put, List.getElem_toArray, List.getElem_cons_zero, List.getElem_cons_succ, List.setIfInBounds_toArray, List.set_cons_zero, List.set_cons_succ]
      refine takeE_value (i := 9) (v := .slice (some ⟨g', 0, none⟩) (8 + 1 + 32) cap') (by kernel_rfl) rfl rfl (by rfl) hbx4 ?_
      simp only [Act.put, List.getElem_toArray, List.getElem_cons_zero, List.getElem_cons_succ, List.setIfInBounds_toArray, List.set_cons_zero, List.set_cons_succ]
      refine wpAnyE_done (by kernel_rfl) ?_ _
      simp only [only_normal]
      have HO : Hid (W4.ownsRow w.heap.size 5 1 (.slice (some ⟨g', 0, none⟩) 41 cap') 41 ((stepB s).map by8)) := hid (by
        have e : (stepB s).map by8 = (be (u64of s.1) 8).map by8 ++ [Value.int .u8 1] ++ s.2.2.map by8 := by simp [stepB, hsd, sideZ, by8]
        rw [e]
        exact owns_lower hown4 (fun q hq => by have := (hown4.lt q hq).1; omega))
      have HB := hid hB4
      clear hown4 hgrow4 hat4 hown3 hgrow3 hat3 hon hgs hbx hbx3 hbx4 hB3 hB4 hBW
      go_wp2
      go_ret
      exact ⟨_, rfl, HO.out, HB.out⟩

theorem new_allocZ (w : World) (o : Obj) : Below w.heap.size w (w.alloc o) := (Below.refl _ w).alloc (Nat.le_refl _) _

/-- The blobs of a proof. -/
def Prf.blobs (p : Prf) : List (List UInt8) := if p.no then [be (u64of 1) 8] else be (u64of 0) 8 :: p.k :: p.v :: p.st.map stepB

theorem blobs_fit (p : Prf) (h : p.may = true) (hok : ∀ s ∈ p.st, ZOk s) : p.blobs.length ≤ 4096 ∧ fits p.blobs := by
  have hl := may_length p h
  unfold Prf.blobs
  split
  · exact ⟨by simp, fun r hr => by simp at hr; subst hr; simp [be_length]⟩
  · rename_i hn
    simp only [Prf.may, hn, Bool.false_eq_true, if_false, Bool.and_eq_true, decide_eq_true_eq] at h
    refine ⟨by simp; omega, fun r hr => ?_⟩
    simp only [List.mem_cons, List.mem_map] at hr
    rcases hr with rfl | rfl | rfl | ⟨s, hs, rfl⟩
    · simp [be_length]
    · omega
    · omega
    · rw [stepB_length (hok s hs)]; omega

theorem rowOf_fit (rows : List (List UInt8)) (h1 : rows.length ≤ 4096) (h2 : fits rows) : rowOf rows = (0, rowBytes rows) := by
  unfold rowOf
  rw [if_neg]
  rintro (h | ⟨m, hm, hl⟩)
  · omega
  · rw [List.getElem?_eq_getElem hm] at hl
    have := h2 _ (List.getElem_mem hm)
    simp only [Option.getD_some] at hl
    omega

theorem lists_one (w : World) (g B : Nat) (u : Value) (a : List UInt8) (hg : w.heap[g]? = some (.cells #[u] 24 (0, 0))) (hB : g < B) (hu : Shows B w u a) : Lists B w (.slice (some ⟨g, 0, none⟩) 1 1) [a] := by
  refine ⟨_, 1, [u], rfl, by simp, by decide, rfl, fun _ => ⟨g, 0, rfl, hB, fun j x hx => ?_⟩, fun j x r hx hr => ?_⟩
  · rw [Nat.zero_add, cell_of_row _ _ _ _ _ _ hg]
    match j, hx with
    | 0, hx => simpa using hx
  · match j, hx, hr with
    | 0, hx, hr => simp at hx hr; subst hx hr; exact hu

/-- What Bytes' loop has in hand. -/
structure ByI (w : World) (p : Prf) (kv vv : Value) (k : Nat) (W : World) (u vn : Value) (ss : List Value) : Prop where
  row : W.ownsRow (w.heap.size + 1) 24 1 u (3 + k) (vn :: kv :: vv :: ss)
  num : W.ownsRow (w.heap.size + 1) 5 1 vn 8 ((be (u64of 0) 8).map by8)
  rows : RowsOwn W (w.heap.size + 1) ss ((p.st.take k).map stepB)
  below : Below w.heap.size w W
  big : w.heap.size + 1 ≤ W.heap.size

theorem ByI.lists {w : World} {p : Prf} {kv vv sv : Value} {W : World} {u vn : Value} {ss : List Value} {k : Nat} (h : ByI w p kv vv k W u vn ss) (hp : PAt w.heap.size w p kv vv sv) (hk : k = p.st.length) : Lists W.heap.size W u (be (u64of 0) 8 :: p.k :: p.v :: p.st.map stepB) := by
  have hlen : (be (u64of 0) 8 :: p.k :: p.v :: p.st.map stepB).length = 3 + k := by simp [hk]; omega
  refine lists_of_owns (vs := vn :: kv :: vv :: ss) (by rw [hlen]; exact h.row) (by rw [hlen]; have := h.rows.len; simp at this ⊢; omega) (fun j x r hx hr => ?_)
  match j, hx, hr with
  | 0, hx, hr => simp at hx hr; subst hx hr; exact (shows_of_owns (by simpa [be_length] using h.num)).2
  | 1, hx, hr => simp at hx hr; subst hx hr; exact (hp.hk.below h.below).mono h.below.size
  | 2, hx, hr => simp at hx hr; subst hx hr; exact (hp.hv.below h.below).mono h.below.size
  | j + 3, hx, hr =>
    simp only [List.getElem?_cons_succ] at hx hr
    have := h.rows
    rw [hk, List.take_length] at this
    exact (shows_of_owns (this.own j x r hx hr).1).2

theorem ByI.new {w : World} {p : Prf} {kv vv : Value} {W W' : World} {u vn : Value} {ss : List Value} {k : Nat} (h : ByI w p kv vv k W u vn ss) (hb : Below W.heap.size W W') : ByI w p kv vv k W' u vn ss :=
  ⟨ownsRow_below h.row hb, ownsRow_below h.num hb, h.rows.below hb, h.below.trans (hb.mono h.below.size), Nat.le_trans h.big hb.size⟩

theorem by_step {w : World} {p : Prf} {kv vv : Value} {W W1 W2 W3 : World} {u vn v' : Value} {ss : List Value} {k g cap : Nat} {s : Zst} (h : ByI w p kv vv k W u vn ss) (hs : p.st[k]? = some s) (hok : ZOk s)
    (h1 : Below W.heap.size W W1) (ho : W1.ownsRow W.heap.size 5 1 v' 41 ((stepB s).map by8)) (h2 : Below W1.heap.size W1 W2) (hg : W2.grownBy W3 u.ownBlock)
    (hown : W3.ownsRow (w.heap.size + 1) 24 1 (.slice (some ⟨g, 0, none⟩) (3 + k + 1) cap) (3 + k + 1) (vn :: kv :: vv :: ss ++ [v'])) : ByI w p kv vv (k + 1) W3 (.slice (some ⟨g, 0, none⟩) (3 + k + 1) cap) vn (ss ++ [v']) := by
  have hb2 : Below W.heap.size W W2 := h1.trans (h2.mono h1.size)
  have r2 := ownsRow_below h.row hb2
  have hl : (stepB s).length = 41 := stepB_length hok
  have hlow : ∀ i, u.ownBlock = some i → w.heap.size + 1 ≤ i ∧ i < W.heap.size := fun i hi => h.row.lt i hi
  have sg : Spares (fun i => u.ownBlock = some i) W2 W3 := Spares.of_grown hg (fun k e => e)
  have hne : ∀ (B n : Nat) (x : Value) (xs : List Value), W2.ownsRow B 5 1 x n xs → ∀ i, x.ownBlock = some i → u.ownBlock ≠ some i := fun B n x xs hx i hi e => by
    obtain ⟨cs, hc⟩ := row_type hx hi
    obtain ⟨cs', hc'⟩ := row_type r2 e
    rw [hc'] at hc; cases hc
  have n2 := ownsRow_below h.num hb2
  have o2 := ownsRow_below ho h2
  have htk : (p.st.take (k + 1)).map stepB = (p.st.take k).map stepB ++ [stepB s] := by rw [List.take_add_one, hs]; simp
  have hbz := h.big
  refine ⟨by simpa [Nat.add_assoc] using hown, sg.row n2 (fun i hi e => hne _ _ _ _ n2 i hi e), ?_, h.below.trans (hb2.mono h.below.size |>.trans (sg.below (fun i hi => by have := (hlow i hi).1; omega) (Nat.le_trans h.below.size hb2.size))), Nat.le_trans hbz (Nat.le_trans hb2.size sg.size)⟩
  rw [htk]
  have o3 : W3.ownsRow W.heap.size 5 1 v' (stepB s).length ((stepB s).map by8) := by rw [hl]; exact sg.row o2 (fun i hi e => hne _ _ _ _ o2 i hi e)
  refine ((h.rows.below hb2).kept r2 hg).snoc (C := W.heap.size) hbz o3 (own_shape o3 (fun e => ?_)) (fun x hx i hi => (h.rows.lt x hx i hi).2)
  rcases o3.2 with ⟨_, h0⟩ | ⟨g', cap', cur, h0, _⟩
  · omega
  · rw [e] at h0; cases h0

set_option maxHeartbeats 8000000 in
theorem bytes_in (p : Prf) (kv vv sv : Value) (w : World) (hp : PAt w.heap.size w p kv vv sv) (hm : p.may = true) :
    Calls Tryd.prog 21 #[.agg #[.bool p.no, kv, vv, sv]] w fun e w' => ∃ v', e = .returned (.tuple #[v', .int .i64 0]) ∧ w'.ownsRow w.heap.size 5 1 v' (rowBytes p.blobs).length ((rowBytes p.blobs).map by8) ∧ Below w.heap.size w w' := by
  obtain ⟨ka, kc, rfl, hk1, hk2, _⟩ := id hp.hk
  obtain ⟨va, vc, rfl, hv1, hv2, _⟩ := id hp.hv
  obtain ⟨sa, sc, rfl, hs1, hs2⟩ := hp.hs.form
  unfold maxLen at hk2 hv2 hs2
  have hbn : Below w.heap.size w (w.alloc (.cells #[.bool p.no, .slice ka p.k.length kc, .slice va p.v.length vc, .slice sa p.st.length sc] 29)) := (Below.refl _ _).alloc (Nat.le_refl _) _
  have hnew := World.alloc_heap_new w (.cells #[.bool p.no, .slice ka p.k.length kc, .slice va p.v.length vc, .slice sa p.st.length sc] 29)
  have hsn : (w.alloc (.cells #[.bool p.no, .slice ka p.k.length kc, .slice va p.v.length vc, .slice sa p.st.length sc] 29)).heap.size = w.heap.size + 1 := World.size_alloc _ _
  have HM := may_any w.heap.size p _ _ _ _ hbn.size (hp.below hbn)
  rw [hm] at HM
  obtain ⟨hf1, hf2⟩ := blobs_fit p hm hp.hs.ok
  have HRO := hid (rowOf_fit _ hf1 hf2)
  have hml := may_length p hm
  have HP := hid hp
  have HOK := hid hp.hs.ok
  clear hp
  go_enter Tryd.func21, Tryd.ntmps21
  go_wp2_with fail
  generalize w.alloc (.cells #[.bool p.no, .slice ka p.k.length kc, .slice va p.v.length vc, .slice sa p.st.length sc] 29) = w0 at *
  refine HM.mono ?_
  clear HM
  rintro e w1 ⟨rfl, hb1⟩
  have hB1 : Below w.heap.size w w1 := hbn.trans (hb1.mono hbn.size)
  have hbx := (hb1.block _ (by omega)).trans hnew
  obtain ⟨c0, c1, c2, c3⟩ := proof_cells hbx
  have hz1 := hb1.size
  clear hb1 hnew hbn
  cases hn : p.no with
  | true =>
    rw [hn] at c0
    have HBL : Hid (p.blobs = [be (u64of 1) 8]) := hid (by simp [Prf.blobs, hn])
    rw [HBL.out] at HRO
    have HB1 := hid hB1
    clear hbx hB1
    go_wp2_with (first
      | (go_at_call 55; refine (num_any 1 _).mono ?_; rintro e w2 ⟨vn, rfl, hon, hb2⟩
         obtain ⟨an, cn, rfl⟩ := row_form hon
         have hsay : Says w2 (.slice an 8 cn) (be (u64of 1) 8) := (shows_of_owns hon).2
         have hB2 := HB1.out.trans (hb2.mono HB1.out.size)
         have hbA := new_allocZ w2 (.cells #[.slice an 8 cn] 24)
         have HR := row_any _ _ [be (u64of 1) 8] _ (Nat.le_refl _) (lists_one (w2.alloc (.cells #[.slice an 8 cn] 24)) w2.heap.size _ _ _ (World.alloc_heap_new _ _) (by rw [World.size_alloc]; exact Nat.lt_succ_self _) (hsay.new hbA))
         rw [HRO.out] at HR
         have HB2 := hid (hB2.trans (hbA.mono hB2.size))
         clear hon hsay hb2 hB2 hbA)
      | (go_at_call 54; refine HR.mono ?_; clear HR; rintro e w3 ⟨v3, rfl, ho3, hb3⟩
         obtain ⟨ra, rc, rfl⟩ := row_form ho3
         have HO := hid ho3
         have HB3 := hid (HB2.out.trans (hb3.mono HB2.out.size))
         clear ho3 hb3))
    go_ret2
    exact ⟨_, rfl, by rw [HBL.out]; exact owns_lower HO.out (fun g hg => Nat.le_trans HB2.out.size (HO.out.lt g hg).1), HB3.out⟩
  | false =>
    rw [hn] at c0
    have HBL : Hid (p.blobs = be (u64of 0) 8 :: p.k :: p.v :: p.st.map stepB) := hid (by simp [Prf.blobs, hn])
    rw [HBL.out] at HRO
    have hS1 : w1.drew.cell? ⟨w.heap.size, 1, none⟩ = some (.slice ka p.k.length kc) ∧ w1.drew.cell? ⟨w.heap.size, 2, none⟩ = some (.slice va p.v.length vc) := ⟨c1, c2⟩
    have hwl : w.heap.size < w1.heap.size := block_lt hbx
    have HB1 := hid hB1
    have HBX := hid hbx
    clear hB1
    go_wp2_with fail
    go_region_held3 (fun w' => w'.cell? ⟨w.heap.size, 1, none⟩ = some (.slice ka p.k.length kc) ∧ w'.cell? ⟨w.heap.size, 2, none⟩ = some (.slice va p.v.length vc))
      (first | assumption | exact ⟨((by assumption : Below w1.heap.size w1 _).alloc (by assumption) _).cell (p := ⟨w.heap.size, 1, none⟩) hwl |>.trans c1, ((by assumption : Below w1.heap.size w1 _).alloc (by assumption) _).cell (p := ⟨w.heap.size, 2, none⟩) hwl |>.trans c2⟩)
      (first
        | (go_at_call 55; refine (num_any 0 _).mono ?_; rintro e w2 ⟨vn, rfl, hon, hb2⟩
           obtain ⟨an, cn, rfl⟩ := row_form hon
           have d2 : Below w1.heap.size w1 w2 := (below_drewN _ _ 1).trans hb2
           have hz2 : w1.heap.size ≤ w2.heap.size := d2.size
           have hS2 : w2.cell? ⟨w.heap.size, 1, none⟩ = some (.slice ka p.k.length kc) ∧ w2.cell? ⟨w.heap.size, 2, none⟩ = some (.slice va p.v.length vc) := ⟨(d2.cell (p := ⟨w.heap.size, 1, none⟩) hwl).trans c1, (d2.cell (p := ⟨w.heap.size, 2, none⟩) hwl).trans c2⟩
           have HON := hid hon
           clear hon hb2))
    have d3 : Below w1.heap.size w1 (w2.alloc (.cells #[.slice an 8 cn, .slice ka p.k.length kc, .slice va p.v.length vc] 24)) := d2.alloc hz2 _
    have hn3 := World.alloc_heap_new w2 (.cells #[.slice an 8 cn, .slice ka p.k.length kc, .slice va p.v.length vc] 24)
    have HI3 : Hid (ByI w p (.slice ka p.k.length kc) (.slice va p.v.length vc) 0 (w2.alloc (.cells #[.slice an 8 cn, .slice ka p.k.length kc, .slice va p.v.length vc] 24)) (.slice (some ⟨w2.heap.size, 0, none⟩) 3 3) (.slice an 8 cn) []) := hid (by
      have h1 := HB1.out.size
      refine ⟨⟨rfl, .inr ⟨w2.heap.size, 3, _, rfl, by omega, hn3, Nat.le_refl _, by decide, rfl, rfl⟩⟩, ?_, RowsOwn.nil _ _, HB1.out.trans (d3.mono h1), by have := d3.size; omega⟩
      have := ownsRow_below HON.out (new_allocZ w2 (.cells #[.slice an 8 cn, .slice ka p.k.length kc, .slice va p.v.length vc] 24))
      exact owns_lower this (fun g hg => by have h2 : w1.heap.size ≤ g := (this.lt g hg).1; omega))
    have HBX3 : Hid ((w2.alloc (.cells #[.slice an 8 cn, .slice ka p.k.length kc, .slice va p.v.length vc] 24)).heap[w.heap.size]? = some (.cells #[.bool p.no, .slice ka p.k.length kc, .slice va p.v.length vc, .slice sa p.st.length sc] 29 (0, 0))) := hid ((d3.block _ hwl).trans HBX.out)
    generalize w2.alloc (.cells #[.slice an 8 cn, .slice ka p.k.length kc, .slice va p.v.length vc] 24) = w3 at *
    have c33 := (proof_cells HBX3.out).2.2.2
    clear c0 c1 c2 c3 hS1 hS2 d3 hn3 d2 HON HBX hbx
    go_wp2_with fail
    go_loopw [4, 28] (fun u i wr => ∃ (k : Nat) (ua : Option Addr) (uc : Nat) (ss : List Value), k ≤ p.st.length ∧ i = .int .i64 (k : Int) ∧ u = .slice ua (3 + k) uc ∧ Hid (ByI w p (.slice ka p.k.length kc) (.slice va p.v.length vc) k wr (.slice ua (3 + k) uc) (.slice an 8 cn) ss)) (fun _ i _ => p.st.length - (intOf i).toNat)
    case atStart => exact ⟨0, _, _, [], by omega, rfl, rfl, HI3⟩
    case round =>
      obtain ⟨k, ua, uc, ss, hk, rfl, rfl, HI⟩ := hrel
      clear HI3 HBX3 c33
      by_cases hlt : k < p.st.length
      · have hki : (k : Int) < (p.st.length : Int) := by omega
        have hk0 : (0 : Int) ≤ (k : Int) := by omega
        have hs := List.getElem?_eq_getElem hlt
        obtain ⟨s, hsx⟩ : ∃ s, p.st[k] = s := ⟨_, rfl⟩
        rw [hsx] at hs
        clear hsx
        obtain ⟨b, off, rfl, hbB, hok, hld⟩ := HP.out.hs.at k s hs
        have hl := hld wr HI.out.below
        have HST := hid (isStep hok)
        obtain ⟨x1, x2, x3⟩ := box_step wr s hok (.cells zeroStep 66) rfl
        have HX := hid (And.intro x1 x2)
        have HSS := hid hs
        have HOK2 := hid hok
        clear x1 x2 x3 hld hs
        go_wp2_with (first
          | (refine wpList_load_z rfl 66 (.tmp 30) rfl ⟨b, off + k * 34, none⟩ rfl (zc s).toArray hl ?_)
          | (refine wpList_store_row rfl 66 (.tmp 6) (.tmp 31) rfl wr.heap.size (zc s).toArray rfl rfl 66 zeroStep (World.alloc_heap_new wr _) HST.out.info HST.out.size HST.out.one ?_
             generalize hw2 : World.setRow _ wr.heap.size (zc s).toArray = w4
             have H4 : Hid (w4.heap[wr.heap.size]? = some (.cells (zc s).toArray 66 (0, 0))) := hid (by rw [← hw2]; exact HX.out.1)
             have HB4 : Hid (Below wr.heap.size wr w4) := hid (by rw [← hw2]; exact HX.out.2)
             clear hw2 hl)
          | (refine wpList_load_z rfl 66 (.tmp 6) rfl ⟨wr.heap.size, 0, none⟩ rfl (zc s).toArray (run_load_z w4 wr.heap.size 0 66 (zc s) _ (fun j u hu => by rw [cell_of_row _ _ _ _ _ _ H4.out, Nat.zero_add, List.getElem?_toArray]; exact hu) Tryd.underlying66 rfl (by rw [zc_length HOK2.out]; exact Tryd.infoStepZ)) ?_)
          | (go_at_call 56; refine (stepBytes_any s w4 HOK2.out).mono ?_; rintro e w5 ⟨v5, rfl, ho5, hb5⟩
             obtain ⟨sa5, sc5, rfl⟩ := row_form ho5
             have hI5 := (HI.out.new HB4.out).new hb5
             have HA : Hid (Below w5.heap.size w5 (w5.alloc (.cells #[.slice sa5 41 sc5] 24))) := hid (new_allocZ _ _)
             have hrow6 := ownsRow_below hI5.row HA.out
             have hnA := World.alloc_heap_new w5 (.cells #[.slice sa5 41 sc5] 24)
             have hnews : ∀ (j : Nat) (u : Value), [Value.slice sa5 41 sc5][j]? = some u → (w5.alloc (.cells #[.slice sa5 41 sc5] 24)).cell? ((⟨w5.heap.size, 0, none⟩ : Addr).add j) = some u := by have := World.news_of_block hnA; simpa using this
             have hzA : w.heap.size + 1 ≤ (w5.alloc (.cells #[.slice sa5 41 sc5] 24)).heap.size := Nat.le_trans hI5.big HA.out.size
             have HI4 := hid (HI.out.new HB4.out)
             have HO5 := hid ho5
             have HB5 := hid hb5
             obtain ⟨i0, hi, hz0, hzz1, hzz2⟩ := info_parts Tryd.infoBytes
             clear hnA hI5 ho5 hb5)
          | (at_builtin; refine wpList_append_lies _ rfl (.tmp 32) (.tmp 35) 32 rfl (w.heap.size + 1) 24 i0 _ 1 24 Tryd.underlying32 hi hz0 hzz1 hzz2 rfl (by decide) (.slice ua (3 + k) uc) (3 + k) (.slice an 8 cn :: .slice ka p.k.length kc :: .slice va p.v.length vc :: ss) rfl hrow6 ⟨w5.heap.size, 0, none⟩ 1 1 [.slice sa5 41 sc5] rfl rfl hnews (by intro u hu; simp at hu; subst hu; rfl) (by decide) (by unfold maxLen; omega) (by omega) hzA _ rfl ?_
             intro g cap w7 hown7 hgrow7 hat7 hgl7
             have HN := hid (by_step HI4.out HSS.out HOK2.out HB5.out HO5.out HA.out hgrow7 hown7)
             clear hown7 hgrow7 hat7 hrow6 hnews))
        go_roundw
        case rel => exact ⟨k + 1, _, _, _, hlt, by go_num, rfl, HN⟩
        case measure => simp [intOf]; omega
      · have hki : (p.st.length : Int) ≤ (k : Int) := by omega
        have hke : k = p.st.length := by omega
        have HR := row_any _ _ _ wr (Nat.le_refl _) (HI.out.lists HP.out hke)
        rw [HRO.out] at HR
        obtain ⟨tx, htx⟩ : ∃ tx, rowBytes (be (u64of 0) 8 :: p.k :: p.v :: p.st.map stepB) = tx := ⟨_, rfl⟩
        rw [htx] at HR
        have HTX := hid htx
        have HB := hid HI.out.below
        clear hke htx
        go_wp2_with (first
          | (go_at_call 54; refine HR.mono ?_; clear HR; rintro e w9 ⟨v9, rfl, ho9, hb9⟩
             obtain ⟨ra, rc, rfl⟩ := row_form ho9
             have HO := hid ho9
             have HB9 := hid (HB.out.trans (hb9.mono HB.out.size))
             clear ho9 hb9))
        go_ret2
        exact ⟨_, rfl, by rw [HBL.out, HTX.out]; exact owns_lower HO.out (fun g hg => Nat.le_trans HB.out.size (HO.out.lt g hg).1), HB9.out⟩
end Go.Proofs.YtmafaioohiaenaaDoor
