/- Contracts of proof.endText, forkText. -/
import Derived.Test.YtmafaioohiaenaaDoorMayF
import Derived.Test.YtmafaioohiaenaaDoorDeleteF
namespace Go.Proofs.YtmafaioohiaenaaDoor
open Go.RowKit Go.Shelf
set_option linter.unusedVariables false
set_option linter.unusedSimpArgs false
set_option maxRecDepth 20000

/-- What is summed of a fork, of an entry, of none. -/
def forkZ (i : Int) (s t : List UInt8) : List UInt8 := (textOf [102, 111, 114, 107] [be (u64of i) 8, s, t]).2
def leafZ (k v : List UInt8) : List UInt8 := (textOf [108, 101, 97, 102] [k, v]).2
def noneZ : List UInt8 := (textOf [110, 111, 110, 101] []).2

/-- What is summed of a step on whose way near stands. -/
def stepZ (s : Zst) (near : List UInt8) : List UInt8 := if s.2.1 then forkZ s.1 s.2.2 near else forkZ s.1 near s.2.2

theorem yields_row {P : Program} {ops : Array Oper} {S : World → Prop} {o : Oper} {a : Act} (ty : TypeId) (x : Operand) (ho : o.op = .load ty x) (q : Addr) (hx : a.eval x = .pointer (some q)) (A : Array Value)
    (hw : Region.wanted o (yielded ops a.tmps) = true) (hr : ∀ w, S w → (loadVar ty q).run P w = .ok (.agg A) w) : YieldsIf P ops S o (.agg A) a :=
  Or.inl ⟨hw, fun w hS => by
    unfold execOp
    simp only [ho, hx, Instr.loadAt, Instr.sureAddr, Sem.run_bind, Sem.run_pure, Result.andThen_ok, hr w hS]⟩

theorem alloc_sum (W : World) : (Instr.alloc 23 true (.tuple #[])).run Tryd.prog W = .ok (.pointer (some ⟨W.heap.size, 0, none⟩)) (W.alloc (.cells zero32 23)) := by rfl

theorem load_other {w : World} {g : Nat} {s : Zst} (h : w.heap[g]? = some (.cells (zc s).toArray 66 (0, 0))) (hok : ZOk s) : (loadVar 23 ⟨g, 2, none⟩).run Tryd.prog w = .ok (.agg (sumV s.2.2)) w := by
  refine run_load_z w g 2 23 (s.2.2.map by8) _ (fun j u hu => ?_) Tryd.underlying23 rfl (by rw [List.length_map, hok.len]; exact Tryd.infoSum)
  rw [cell_of_row _ _ _ _ _ _ h, List.getElem?_toArray, show 2 + j = j + 1 + 1 by omega]
  simpa [zc] using hu

theorem load_sumZ {w : World} {g : Nat} {s : List UInt8} (h : w.heap[g]? = some (.cells (sumV s) 23 (0, 0))) (hl : s.length = 32) : (loadVar 23 ⟨g, 0, none⟩).run Tryd.prog w = .ok (.agg (sumV s)) w := by
  refine run_load_z w g 0 23 (s.map by8) _ (fun j u hu => ?_) Tryd.underlying23 rfl (by rw [List.length_map, hl]; exact Tryd.infoSum)
  rw [cell_of_row _ _ _ _ _ _ h, Nat.zero_add, sumV, List.getElem?_toArray]
  exact hu

/-- What forkText has behind its first line. -/
structure Two (w : World) (s : Zst) (near : List UInt8) (gl gr : Nat) (W : World) : Prop where
  box : W.heap[w.heap.size]? = some (.cells (zc s).toArray 66 (0, 0))
  left : W.heap[gl]? = some (.cells (sumV near) 23 (0, 0))
  right : W.heap[gr]? = some (.cells (sumV s.2.2) 23 (0, 0))
  ne : gl ≠ gr
  lo1 : w.heap.size + 2 ≤ gl
  lo2 : w.heap.size + 2 ≤ gr
  below : Below w.heap.size w W

theorem spares_setRowZ (w : World) (g : Nat) (A : Array Value) : Spares (fun i => i = g) w (w.setRow g A) := by
  refine ⟨rfl, rfl, rfl, by simp [World.setRow], fun k _ hk => ?_⟩
  simp only [World.setRow]
  rw [Array.getElem?_modify, if_neg (fun e => hk e.symm)]

theorem two_stores (w w3 : World) (s : Zst) (near : List UInt8) (hok : ZOk s) (hn : near.length = 32) (N0 : w3.heap[w.heap.size]? = some (.cells (zc s).toArray 66 (0, 0))) (N1 : w3.heap[w.heap.size + 1]? = some (.cells (sumV near) 23 (0, 0))) (BN : Below w.heap.size w w3) (SN : w3.heap.size = w.heap.size + 2) :
    (fun W' : World => W'.heap[w.heap.size]? = some (.cells (zc s).toArray 66 (0, 0)) ∧ W'.heap[w.heap.size + 1]? = some (.cells (sumV near) 23 (0, 0))) (w3.drew.alloc (.cells zero32 23)) ∧
    (fun W' : World => W'.heap[w.heap.size]? = some (.cells (zc s).toArray 66 (0, 0)) ∧ W'.heap[w.heap.size + 1]? = some (.cells (sumV near) 23 (0, 0))) ((w3.drew.alloc (.cells zero32 23)).alloc (.cells zero32 23)) ∧
    ((w3.drew.alloc (.cells zero32 23)).alloc (.cells zero32 23)).heap[w3.heap.size]? = some (.cells zero32 23 (0, 0)) ∧
    ((w3.drew.alloc (.cells zero32 23)).alloc (.cells zero32 23)).heap[w3.heap.size + 1]? = some (.cells zero32 23 (0, 0)) ∧
    (∀ g h : Nat, w3.heap.size ≤ g → w3.heap.size ≤ h → g < w3.heap.size + 2 → h < w3.heap.size + 2 → g ≠ h →
      ((((w3.drew.alloc (.cells zero32 23)).alloc (.cells zero32 23)).setRow g (sumV near)).heap[w.heap.size]? = some (.cells (zc s).toArray 66 (0, 0)) ∧ (((w3.drew.alloc (.cells zero32 23)).alloc (.cells zero32 23)).setRow g (sumV near)).heap[w.heap.size + 1]? = some (.cells (sumV near) 23 (0, 0))) ∧
      (((w3.drew.alloc (.cells zero32 23)).alloc (.cells zero32 23)).setRow g (sumV near)).heap[h]? = some (.cells zero32 23 (0, 0)) ∧
      Two w s near g h ((((w3.drew.alloc (.cells zero32 23)).alloc (.cells zero32 23)).setRow g (sumV near)).setRow h (sumV s.2.2))) := by
  obtain ⟨a0, a1, ab, hsz⟩ := alloc2 w3.drew (.cells zero32 23) (.cells zero32 23)
  have hsd : w3.drew.heap.size = w3.heap.size := rfl
  rw [hsd] at a0 a1 ab hsz
  have ab1 : Below w3.heap.size w3.drew (w3.drew.alloc (.cells zero32 23)) := Below.alloc (Below.refl _ w3.drew) (Nat.le_refl _) _
  have k0 : ∀ W, Below w3.heap.size w3.drew W → W.heap[w.heap.size]? = some (.cells (zc s).toArray 66 (0, 0)) := fun W h => (h.block _ (by omega)).trans N0
  have k1 : ∀ W, Below w3.heap.size w3.drew W → W.heap[w.heap.size + 1]? = some (.cells (sumV near) 23 (0, 0)) := fun W h => (h.block _ (by omega)).trans N1
  refine ⟨⟨k0 _ ab1, k1 _ ab1⟩, ⟨k0 _ ab, k1 _ ab⟩, a0, a1, fun g h hg hh hg2 hh2 hne => ?_⟩
  generalize (w3.drew.alloc (.cells zero32 23)).alloc (.cells zero32 23) = W at *
  have sg := spares_setRowZ W g (sumV near)
  have bg : Below w3.heap.size w3.drew (W.setRow g (sumV near)) := below_setRow ab hg _
  have sh := spares_setRowZ (W.setRow g (sumV near)) h (sumV s.2.2)
  have bh : Below w3.heap.size w3.drew ((W.setRow g (sumV near)).setRow h (sumV s.2.2)) := below_setRow bg hh _
  have wz : ∀ i, w3.heap.size ≤ i → i < w3.heap.size + 2 → W.heap[i]? = some (.cells zero32 23 (0, 0)) := fun i h1 h2 => by
    rcases Nat.lt_or_ge i (w3.heap.size + 1) with h3 | h3
    · rw [show i = w3.heap.size by omega]; exact a0
    · rw [show i = w3.heap.size + 1 by omega]; exact a1
  have hz := (sg.block h (by omega) (fun e => hne e.symm)).trans (wz h hh hh2)
  refine ⟨⟨k0 _ bg, k1 _ bg⟩, hz, ⟨k0 _ bh, ?_, setRow_heap _ _ _ _ _ _ hz, hne, by omega, by omega, BN.trans ((below_drewN _ _ 1).trans (bh.mono (by omega)))⟩⟩
  rw [sh.block g (by have := sg.size; omega) hne]
  exact setRow_heap _ _ _ _ _ _ (wz g hg hg2)

set_option maxHeartbeats 8000000 in
theorem pforkText_any (s : Zst) (near : List UInt8) (w : World) (hok : ZOk s) (hn : near.length = 32) :
    Calls Tryd.prog 47 #[.agg (zc s).toArray, .agg (sumV near)] w fun e w' => ∃ v', e = .returned v' ∧ w'.ownsRow w.heap.size 5 1 v' (stepZ s near).length ((stepZ s near).map by8) ∧ Below w.heap.size w w' := by
  obtain ⟨n0, n1, hbn, hsn⟩ := alloc2 w (.cells (zc s).toArray 66) (.cells (sumV near) 23)
  go_enter Tryd.func47, Tryd.ntmps47
  go_wp2_with fail
  generalize hw3 : (w.alloc _).alloc _ = w3
  have N0 : w3.heap[w.heap.size]? = some (.cells (zc s).toArray 66 (0, 0)) := by rw [← hw3]; exact n0
  have N1 : w3.heap[w.heap.size + 1]? = some (.cells (sumV near) 23 (0, 0)) := by rw [← hw3]; exact n1
  have BN : Below w.heap.size w w3 := by rw [← hw3]; exact hbn
  have SN : w3.heap.size = w.heap.size + 2 := by rw [← hw3]; exact hsn
  clear n0 n1 hbn hsn hw3
  refine wp_mono (Q := fun e a' W => e = .normal ∧ ∃ gl gr t9 t10 t11, a' = { tmps := #[.agg (zc s).toArray, .agg (sumV near), .pointer (some ⟨w.heap.size, 0, none⟩), .pointer (some ⟨w.heap.size + 1, 0, none⟩), .slice none 0 0, .pointer (some ⟨gl, 0, none⟩), .pointer (some ⟨gr, 0, none⟩), undef, undef, t9, t10, t11, undef, undef, undef, undef, undef, undef, undef, undef, undef, undef, undef, undef, undef, undef, undef], defers := [] } ∧ Two w s near gl gr W) ?region ?rest
  case region =>
    have hS0 : (fun W' : World => W'.heap[w.heap.size]? = some (.cells (zc s).toArray 66 (0, 0)) ∧ W'.heap[w.heap.size + 1]? = some (.cells (sumV near) 23 (0, 0))) w3.drew := ⟨N0, N1⟩
    refine last_region (fun W' : World => W'.heap[w.heap.size]? = some (.cells (zc s).toArray 66 (0, 0)) ∧ W'.heap[w.heap.size + 1]? = some (.cells (sumV near) 23 (0, 0))) 6 (by kernel_rfl) ?_
    refine wpAnyE_take (i := 0) (v := .agg (sumV near)) rfl (by kernel_rfl) (by kernel_rfl) (by kernel_rfl) (by kernel_rfl) (by kernel_rfl) (fun _ _ _ h => h) (yields_row 23 (.tmp 3) rfl ⟨w.heap.size + 1, 0, none⟩ (by kernel_rfl) _ (by rfl) (fun W hW => load_sumZ hW.2 hn)) hS0 ?_
    simp only [Act.put, List.getElem_toArray, List.getElem_cons_zero, List.getElem_cons_succ, List.setIfInBounds_toArray, List.set_cons_zero, List.set_cons_succ]
    refine wpAnyE_take (i := 1) (v := ?_) rfl (by kernel_rfl) (by kernel_rfl) (by kernel_rfl) (by kernel_rfl) (by kernel_rfl) (fun _ _ _ h => h) (Or.inl ⟨by rfl, ?_⟩) (by assumption) ?_; rotate_left; (focus (intro w hSw; (try dsimp only at hSw); (try obtain ⟨hSw1, hSw2, hSw3⟩ := hSw); go_simp <;> with_reducible rfl)); (try simp only [Act.put, List.getElem_toArray, List.getElem_cons_zero, List.getElem_cons_succ, List.setIfInBounds_toArray, List.set_cons_zero, List.set_cons_succ])
    refine wpAnyE_take (i := 2) (v := .agg (sumV s.2.2)) rfl (by kernel_rfl) (by kernel_rfl) (by kernel_rfl) (by kernel_rfl) (by kernel_rfl) (fun _ _ _ h => h) (yields_row 23 (.tmp 10) rfl ⟨w.heap.size, 2, none⟩ (by kernel_rfl) _ (by rfl) (fun W hW => load_other hW.1 hok)) hS0 ?_
    simp only [Act.put, List.getElem_toArray, List.getElem_cons_zero, List.getElem_cons_succ, List.setIfInBounds_toArray, List.set_cons_zero, List.set_cons_succ]
    have HE := hid (two_stores w w3 s near hok hn N0 N1 BN SN)
    have hI1 := isSum near hn
    have hI2 := isSum s.2.2 hok.len
    have hsz : (w3.drew.alloc (.cells zero32 23)).heap.size = w3.heap.size + 1 := World.size_alloc _ _
    refine takeE_two (i := 3) (j := 4) (by kernel_rfl) rfl rfl rfl rfl ?_ ?_
    · refine wp_alloc_of rfl (alloc_sum _) ⟨.inl (HE.out.1), ?_⟩
      simp only [Act.put, List.getElem_toArray, List.getElem_cons_zero, List.getElem_cons_succ, List.setIfInBounds_toArray, List.set_cons_zero, List.set_cons_succ]
      refine takeE_one (i := 4) (by kernel_rfl) rfl rfl (wp_alloc_of rfl (alloc_sum _) ⟨.inl HE.out.2.1, ?_⟩)
      simp only [Act.put, List.getElem_toArray, List.getElem_cons_zero, List.getElem_cons_succ, List.setIfInBounds_toArray, List.set_cons_zero, List.set_cons_succ]
      rw [hsz]
      obtain ⟨q1, q2, q3⟩ := HE.out.2.2
      replace q3 := q3 (w3.heap.size) (w3.heap.size + 1) (by omega) (by omega) (by omega) (by omega) (by omega)
      refine takeE_storerow (i := 5) (by kernel_rfl) rfl rfl 23 (.tmp 5) (.tmp 9) rfl (w3.heap.size) (sumV near) (by kernel_rfl) (by kernel_rfl) 23 zero32 q1 hI1.info hI1.size hI1.one (.inl q3.1) ?_
      refine takeE_storerow (i := 6) (by kernel_rfl) rfl rfl 23 (.tmp 6) (.tmp 11) rfl (w3.heap.size + 1) (sumV s.2.2) (by kernel_rfl) (by kernel_rfl) 23 zero32 q3.2.1 hI2.info hI2.size hI2.one (.inr rfl) ?_
      refine wpAnyE_done (by kernel_rfl) ?_ _
      exact ⟨rfl, _, _, _, _, _, rfl, q3.2.2⟩
    · refine wp_alloc_of rfl (alloc_sum _) ⟨.inl (HE.out.1), ?_⟩
      simp only [Act.put, List.getElem_toArray, List.getElem_cons_zero, List.getElem_cons_succ, List.setIfInBounds_toArray, List.set_cons_zero, List.set_cons_succ]
      refine takeE_one (i := 3) (by kernel_rfl) rfl rfl (wp_alloc_of rfl (alloc_sum _) ⟨.inl HE.out.2.1, ?_⟩)
      simp only [Act.put, List.getElem_toArray, List.getElem_cons_zero, List.getElem_cons_succ, List.setIfInBounds_toArray, List.set_cons_zero, List.set_cons_succ]
      rw [hsz]
      obtain ⟨q1, q2, q3⟩ := HE.out.2.2
      replace q3 := q3 (w3.heap.size + 1) (w3.heap.size) (by omega) (by omega) (by omega) (by omega) (by omega)
      refine takeE_storerow (i := 5) (by kernel_rfl) rfl rfl 23 (.tmp 5) (.tmp 9) rfl (w3.heap.size + 1) (sumV near) (by kernel_rfl) (by kernel_rfl) 23 zero32 q2 hI1.info hI1.size hI1.one (.inl q3.1) ?_
      refine takeE_storerow (i := 6) (by kernel_rfl) rfl rfl 23 (.tmp 6) (.tmp 11) rfl (w3.heap.size) (sumV s.2.2) (by kernel_rfl) (by kernel_rfl) 23 zero32 q3.2.1 hI2.info hI2.size hI2.one (.inr rfl) ?_
      refine wpAnyE_done (by kernel_rfl) ?_ _
      exact ⟨rfl, _, _, _, _, _, rfl, q3.2.2⟩
  case rest =>
    rintro e a' W ⟨rfl, gl, gr, t9, t10, t11, rfl, hT⟩
    obtain ⟨hc0, hc1⟩ := boxed_cells hT.box
    have HT := hid hT
    -- what Text answers, wherever the row lies
    have HOF : Hid (∀ (W0 W : World) (g : Nat) (vn : Value) (x y : List UInt8), x.length = 32 → y.length = 32 → W0.heap[gl]? = some (.cells (sumV x) 23 (0, 0)) → W0.heap[gr]? = some (.cells (sumV y) 23 (0, 0)) → Below W0.heap.size W0 W →
        W.heap[g]? = some (.cells #[vn, .slice (some ⟨gl, 0, none⟩) 32 32, .slice (some ⟨gr, 0, none⟩) 32 32] 24 (0, 0)) → Says W vn (be (u64of s.1) 8) →
      Calls Tryd.prog 78 #[.string ⟨#[102, 111, 114, 107]⟩, .slice (some ⟨g, 0, none⟩) 3 3] W fun e w' => ∃ v', e = .returned (.tuple #[v', .int .i64 (textOf [102, 111, 114, 107] [be (u64of s.1) 8, x, y]).1]) ∧ w'.ownsRow W.heap.size 5 1 v' (forkZ s.1 x y).length ((forkZ s.1 x y).map by8) ∧ Below W.heap.size W w') := hid (fun W0 W g vn x y hx hy hl hr hb hg hv => by
      have hgl := (Array.getElem?_eq_some_iff.1 hg).1
      have h1 := block_lt hl
      have h2 := block_lt hr
      have hsz := hb.size
      exact text_any W.heap.size (⟨#[102, 111, 114, 107]⟩ : ByteArray) (.slice (some ⟨g, 0, none⟩) 3 3) [be (u64of s.1) 8, x, y] W (by decide) (Nat.le_refl _)
        (lists_three W g _ _ _ _ _ x y hg hgl hv (shows_sum W gl _ x hx ((hb.block _ h1).trans hl) (by omega)) (shows_sum W gr _ y hy ((hb.block _ h2).trans hr) (by omega))) (fun l c e => by cases e) (by simp))
    cases hsd : s.2.1 with
    | false =>
      rw [hsd] at hc1
      have HZ : Hid (stepZ s near = forkZ s.1 near s.2.2) := hid (by simp [stepZ, hsd])
      go_wp2_with fail
      have HX := hid (fun W' g vn => HOF.out W W' g vn near s.2.2 hn hok.len HT.out.left HT.out.right)
      generalize hN : (textOf [102, 111, 114, 107] [be (u64of s.1) 8, near, s.2.2]).1 = er at *
      clear hN
      obtain ⟨tx, htx⟩ : ∃ tx, forkZ s.1 near s.2.2 = tx := ⟨_, rfl⟩
      rw [htx] at HX HZ
      have hS1 : W.drew.cell? ⟨w.heap.size, 0, none⟩ = some (.int .i64 s.1) ∧ Below W.heap.size W W.drew := ⟨hc0, below_drewN _ _ 1⟩
      have hwW : w.heap.size < W.heap.size := World.block_lt_of_cell? _ _ hc0
      have HC0 := hid hc0
      have HBW : Hid (Below w.heap.size w W) := hid (HT.out.below)
      clear htx HOF hT hc0 hc1
      go_region_held3 (fun w' => w'.cell? ⟨w.heap.size, 0, none⟩ = some (.int .i64 s.1) ∧ Below W.heap.size W w')
        (first | assumption | exact ⟨((by assumption : Below W.heap.size W _).alloc (by assumption) _).cell (p := ⟨w.heap.size, 0, none⟩) hwW |>.trans HC0.out, Below.alloc (by assumption) (by assumption) _⟩)
        (first
          | (go_at_call 55; refine (num_any _ _).mono ?_; rintro e wn ⟨vn, rfl, hon, hbn⟩
             obtain ⟨an, cn, rfl⟩ := row_form hon
             have hsay : Says wn (.slice an 8 cn) (be (u64of s.1) 8) := (shows_of_owns hon).2
             have hzn : W.heap.size ≤ wn.heap.size := hbn.size
             have hbW : Below W.heap.size W wn := (below_drewN _ _ 1).trans hbn
             have hSn : wn.cell? ⟨w.heap.size, 0, none⟩ = some (.int .i64 s.1) ∧ Below W.heap.size W wn := ⟨(hbW.cell (p := ⟨w.heap.size, 0, none⟩) hwW).trans HC0.out, hbW⟩
             have HON := hid hsay
             clear hon hbn hsay)
          | (go_at_call 78; refine (HX.out _ _ _ (Below.alloc hbW hzn _) (World.alloc_heap_new _ _) (HON.out.new ((Below.refl _ _).alloc (Nat.le_refl _) _))).mono ?_
             rintro e wo ⟨v', rfl, hoo, hbo⟩
             obtain ⟨a1, c1, rfl⟩ := row_form hoo
             have hbO : Below W.heap.size W wo := (Below.alloc hbW hzn _).trans (hbo.mono (by rw [World.size_alloc]; omega))
             have hSo : wo.cell? ⟨w.heap.size, 0, none⟩ = some (.int .i64 s.1) ∧ Below W.heap.size W wo := ⟨(hbO.cell (p := ⟨w.heap.size, 0, none⟩) hwW).trans HC0.out, hbO⟩
             have HOO : Hid (wo.ownsRow w.heap.size 5 1 (.slice a1 tx.length c1) tx.length (tx.map by8)) := hid (owns_lower hoo (fun g hg => by have h1 := (hoo.lt g hg).1; rw [World.size_alloc] at h1; omega))
             clear hbo hoo))
      have HBO := hid (HBW.out.trans (hbO.mono HBW.out.size))
      go_wp2
      go_ret
      exact ⟨.slice a1 tx.length c1, rfl, by rw [HZ.out]; exact HOO.out, HBO.out⟩
    | true =>
      rw [hsd] at hc1
      have HZ : Hid (stepZ s near = forkZ s.1 s.2.2 near) := hid (by simp [stepZ, hsd])
      have hI1 := hid (isSum near hn)
      have hI2 := hid (isSum s.2.2 hok.len)
      clear hT
      go_wp2_with (first
        | (refine wpList_load_row rfl 23 (.tmp 6) rfl gr rfl 23 (sumV s.2.2) (0, 0) _ HT.out.right Tryd.underlying23 rfl hI2.out.info ?_)
        | (refine wpList_load_row rfl 23 (.tmp 5) rfl gl rfl 23 (sumV near) (0, 0) _ HT.out.left Tryd.underlying23 rfl hI1.out.info ?_)
        | (refine wpList_store_row rfl 23 (.tmp 5) (.tmp 14) rfl gl (sumV s.2.2) rfl rfl 23 (sumV near) HT.out.left hI2.out.info (by rw [← hI1.out.size]; exact hI2.out.size) hI2.out.one ?_
           have hs1 := spares_setRowZ W gl (sumV s.2.2)
           have hl1 := setRow_heap W gl _ (sumV s.2.2) _ _ HT.out.left)
        | (refine wpList_store_row rfl 23 (.tmp 6) (.tmp 15) rfl gr (sumV near) rfl rfl 23 (sumV s.2.2) ((hs1.block _ (block_lt HT.out.right) (fun e => HT.out.ne e.symm)).trans HT.out.right) hI1.out.info (by rw [← hI2.out.size]; exact hI1.out.size) hI1.out.one ?_
           have hs2 := spares_setRowZ (W.setRow gl (sumV s.2.2)) gr (sumV near)
           generalize hW5 : (W.setRow gl (sumV s.2.2)).setRow gr (sumV near) = W5 at *))
      simp only [Act.put, List.getElem_toArray, List.getElem_cons_zero, List.getElem_cons_succ, List.setIfInBounds_toArray, List.set_cons_zero, List.set_cons_succ]
      have HL5 : Hid (W5.heap[gl]? = some (.cells (sumV s.2.2) 23 (0, 0))) := hid ((hs2.block _ (block_lt hl1) HT.out.ne).trans hl1)
      have HR5 : Hid (W5.heap[gr]? = some (.cells (sumV near) 23 (0, 0))) := hid (by rw [← hW5]; exact setRow_heap _ _ _ _ _ _ ((hs1.block _ (block_lt HT.out.right) (fun e => HT.out.ne e.symm)).trans HT.out.right))
      have hlo1 := HT.out.lo1
      have hlo2 := HT.out.lo2
      have HB5 : Hid (Below w.heap.size w W5) := hid (HT.out.below.trans ((hs1.below (B := w.heap.size) (fun i hi => by omega) HT.out.below.size).trans (hs2.below (B := w.heap.size) (fun i hi => by omega) (Nat.le_trans HT.out.below.size hs1.size))))
      have hwW5 := World.block_lt_of_cell? _ _ hc0
      replace hc0 : W5.cell? ⟨w.heap.size, 0, none⟩ = some (.int .i64 s.1) := hs2.cell (hs1.cell hc0 (show ¬ w.heap.size = gl by omega)) (show ¬ w.heap.size = gr by omega)
      have hT := 0
      clear hs1 hs2 hl1 hW5 hwW5 hlo1 hlo2
      have HX := hid (fun W' g vn => HOF.out W5 W' g vn s.2.2 near hok.len hn HL5.out HR5.out)
      generalize hN : (textOf [102, 111, 114, 107] [be (u64of s.1) 8, s.2.2, near]).1 = er at *
      clear hN
      obtain ⟨tx, htx⟩ : ∃ tx, forkZ s.1 s.2.2 near = tx := ⟨_, rfl⟩
      rw [htx] at HX HZ
      have hS1 : W5.drew.cell? ⟨w.heap.size, 0, none⟩ = some (.int .i64 s.1) ∧ Below W5.heap.size W5 W5.drew := ⟨hc0, below_drewN _ _ 1⟩
      have hwW : w.heap.size < W5.heap.size := World.block_lt_of_cell? _ _ hc0
      have HC0 := hid hc0
      have HBW : Hid (Below w.heap.size w W5) := hid (HB5.out)
      clear htx HOF hT hc0 hc1
      go_region_held3 (fun w' => w'.cell? ⟨w.heap.size, 0, none⟩ = some (.int .i64 s.1) ∧ Below W5.heap.size W5 w')
        (first | assumption | exact ⟨((by assumption : Below W5.heap.size W5 _).alloc (by assumption) _).cell (p := ⟨w.heap.size, 0, none⟩) hwW |>.trans HC0.out, Below.alloc (by assumption) (by assumption) _⟩)
        (first
          | (go_at_call 55; refine (num_any _ _).mono ?_; rintro e wn ⟨vn, rfl, hon, hbn⟩
             obtain ⟨an, cn, rfl⟩ := row_form hon
             have hsay : Says wn (.slice an 8 cn) (be (u64of s.1) 8) := (shows_of_owns hon).2
             have hzn : W5.heap.size ≤ wn.heap.size := hbn.size
             have hbW : Below W5.heap.size W5 wn := (below_drewN _ _ 1).trans hbn
             have hSn : wn.cell? ⟨w.heap.size, 0, none⟩ = some (.int .i64 s.1) ∧ Below W5.heap.size W5 wn := ⟨(hbW.cell (p := ⟨w.heap.size, 0, none⟩) hwW).trans HC0.out, hbW⟩
             have HON := hid hsay
             clear hon hbn hsay)
          | (go_at_call 78; refine (HX.out _ _ _ (Below.alloc hbW hzn _) (World.alloc_heap_new _ _) (HON.out.new ((Below.refl _ _).alloc (Nat.le_refl _) _))).mono ?_
             rintro e wo ⟨v', rfl, hoo, hbo⟩
             obtain ⟨a1, c1, rfl⟩ := row_form hoo
             have hbO : Below W5.heap.size W5 wo := (Below.alloc hbW hzn _).trans (hbo.mono (by rw [World.size_alloc]; omega))
             have hSo : wo.cell? ⟨w.heap.size, 0, none⟩ = some (.int .i64 s.1) ∧ Below W5.heap.size W5 wo := ⟨(hbO.cell (p := ⟨w.heap.size, 0, none⟩) hwW).trans HC0.out, hbO⟩
             have HOO : Hid (wo.ownsRow w.heap.size 5 1 (.slice a1 tx.length c1) tx.length (tx.map by8)) := hid (owns_lower hoo (fun g hg => by have h1 := (hoo.lt g hg).1; rw [World.size_alloc] at h1; omega))
             clear hbo hoo))
      have HBO := hid (HBW.out.trans (hbO.mono HBW.out.size))
      go_wp2
      go_ret
      exact ⟨.slice a1 tx.length c1, rfl, by rw [HZ.out]; exact HOO.out, HBO.out⟩

/-- What is summed at a proof's end. -/
def Prf.endZ (p : Prf) : List UInt8 := if p.no then noneZ else leafZ p.k p.v

set_option maxHeartbeats 4000000 in
theorem endText_any (B : Nat) (p : Prf) (kv vv sv : Value) (w : World) (hB : B ≤ w.heap.size) (hp : PAt B w p kv vv sv) :
    Calls Tryd.prog 45 #[.agg #[.bool p.no, kv, vv, sv]] w fun e w' => ∃ v', e = .returned v' ∧ w'.ownsRow w.heap.size 5 1 v' p.endZ.length (p.endZ.map by8) ∧ Below w.heap.size w w' := by
  obtain ⟨ka, kc, rfl, hk1, hk2, _⟩ := id hp.hk
  obtain ⟨va, vc, rfl, hv1, hv2, _⟩ := id hp.hv
  obtain ⟨sa, sc, rfl, hs1, hs2⟩ := hp.hs.form
  obtain ⟨no, k, v, st⟩ := p
  simp only at *
  cases no with
  | true =>
    have hbn : Below w.heap.size w (w.alloc (.cells #[.bool true, .slice ka k.length kc, .slice va v.length vc, .slice sa st.length sc] 29)) := (Below.refl _ _).alloc (Nat.le_refl _) _
    have HTX := text_any 0 (⟨#[110, 111, 110, 101]⟩ : ByteArray) (.slice none 0 0) [] (w.alloc (.cells #[.bool true, .slice ka k.length kc, .slice va v.length vc, .slice sa st.length sc] 29)) (by decide) (Nat.zero_le _) ⟨none, 0, [], rfl, Nat.le_refl _, Nat.zero_le _, rfl, fun h => absurd rfl h, fun j u r hu => by simp at hu⟩ (fun l c e => by cases e; rfl) (by simp)
    replace HTX : Calls Tryd.prog 78 #[.string ⟨#[110, 111, 110, 101]⟩, .slice none 0 0] (w.alloc (.cells #[.bool true, .slice ka k.length kc, .slice va v.length vc, .slice sa st.length sc] 29)) fun e w' => ∃ v', e = .returned (.tuple #[v', .int .i64 (textOf [110, 111, 110, 101] []).1]) ∧ w'.ownsRow w.heap.size 5 1 v' noneZ.length (noneZ.map by8) ∧ Below w.heap.size w w' := HTX.mono fun e w' ⟨v', he, ho, hb⟩ => ⟨v', he, owns_lower ho (fun g hg => by have h1 := (ho.lt g hg).1; rw [World.size_alloc] at h1; omega), hbn.trans (hb.mono hbn.size)⟩
    have HZ : Hid ((Prf.mk true k v st).endZ = noneZ) := hid rfl
    generalize (Prf.mk true k v st).endZ = Z at *
    generalize (textOf [110, 111, 110, 101] []).1 = er at *
    generalize noneZ = tx at *
    clear hp hbn
    go_enter Tryd.func45, Tryd.ntmps45
    go_wp2_with (go_at_call 78; refine HTX.mono ?_; clear HTX; rintro e w2 ⟨v2, rfl, ho2, hb2⟩
                 obtain ⟨a1, c1, rfl⟩ := row_form ho2
                 have HO := hid ho2
                 have HB := hid hb2
                 clear ho2 hb2)
    go_ret
    exact ⟨_, rfl, by rw [HZ.out]; exact HO.out, HB.out⟩
  | false =>
    obtain ⟨n0, n1, hbn, hsn⟩ := alloc2 w (.cells #[.bool false, .slice ka k.length kc, .slice va v.length vc, .slice sa st.length sc] 29) (.cells #[.slice ka k.length kc, .slice va v.length vc] 24)
    have HTX := text_any (w.heap.size + 2) (⟨#[108, 101, 97, 102]⟩ : ByteArray) (.slice (some ⟨w.heap.size + 1, 0, none⟩) 2 2) [k, v] _ (by decide) (by omega) (lists_two _ (w.heap.size + 1) _ _ _ k v n1 (by omega) ((hp.hk.below (hbn.mono hB)).mono (by omega)) ((hp.hv.below (hbn.mono hB)).mono (by omega))) (fun l c e => by cases e) (by simp)
    replace HTX : Calls Tryd.prog 78 #[.string ⟨#[108, 101, 97, 102]⟩, .slice (some ⟨w.heap.size + 1, 0, none⟩) 2 2] ((w.alloc (.cells #[.bool false, .slice ka k.length kc, .slice va v.length vc, .slice sa st.length sc] 29)).alloc (.cells #[.slice ka k.length kc, .slice va v.length vc] 24)) fun e w' => ∃ v', e = .returned (.tuple #[v', .int .i64 (textOf [108, 101, 97, 102] [k, v]).1]) ∧ w'.ownsRow w.heap.size 5 1 v' (leafZ k v).length ((leafZ k v).map by8) ∧ Below w.heap.size w w' := HTX.mono fun e w' ⟨v', he, ho, hb⟩ => ⟨v', he, owns_lower ho (fun g hg => by have h1 := (ho.lt g hg).1; omega), hbn.trans (hb.mono hbn.size)⟩
    have HZ : Hid ((Prf.mk false k v st).endZ = leafZ k v) := hid rfl
    generalize (Prf.mk false k v st).endZ = Z at *
    generalize (textOf [108, 101, 97, 102] [k, v]).1 = er at *
    generalize leafZ k v = tx at *
    clear hp hbn n0 n1 hsn
    go_enter Tryd.func45, Tryd.ntmps45
    go_wp2_with (go_at_call 78; refine HTX.mono ?_; clear HTX; rintro e w2 ⟨v2, rfl, ho2, hb2⟩
                 obtain ⟨a1, c1, rfl⟩ := row_form ho2
                 have HO := hid ho2
                 have HB := hid hb2
                 clear ho2 hb2)
    go_ret
    exact ⟨_, rfl, by rw [HZ.out]; exact HO.out, HB.out⟩
end Go.Proofs.YtmafaioohiaenaaDoor
