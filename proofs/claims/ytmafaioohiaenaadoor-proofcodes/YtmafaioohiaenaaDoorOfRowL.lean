/- Contract of proof.ofRow: its loop. -/
import Derived.Test.YtmafaioohiaenaaDoorOfRow
namespace Go.Proofs.YtmafaioohiaenaaDoor
open Go.RowKit Go.Shelf
set_option linter.unusedVariables false
set_option linter.unusedSimpArgs false
set_option maxRecDepth 20000

theorem alloc_proof (W : World) : (Instr.alloc 29 true (.tuple #[])).run Tryd.prog W = .ok (.pointer (some ⟨W.heap.size, 0, none⟩)) (W.alloc (.cells #[.bool false, .slice none 0 0, .slice none 0 0, .slice none 0 0] 29)) := by rfl

theorem stepsOfZ_split : ∀ (rows : List (List UInt8)) (k : Nat), k < rows.length → stepsOfZ (rows.drop k) = match stepOfZ (rows[k]?.getD []) with | none => none | some s => (stepsOfZ (rows.drop (k + 1))).map (s :: ·) := fun rows k hk => by
  rw [List.drop_eq_getElem_cons hk, List.getElem?_eq_getElem hk]
  rfl

/-- What the loop has in hand. -/
structure OfI (w : World) (pb : Nat) (kv vv : Value) (rows : List (List UInt8)) (k : Nat) (W : World) (sv : Value) (L : List Zst) : Prop where
  res : W.heap[w.heap.size]? = some (.cells #[.bool false, .slice none 0 0, .slice none 0 0, .slice none 0 0] 29 (0, 0))
  box : W.heap[pb]? = some (.cells #[.bool false, kv, vv, sv] 29 (0, 0))
  row : W.ownsRow (pb + 1) 66 34 sv k (L.flatMap zc)
  ok : ∀ s ∈ L, ZOk s
  len : L.length = k
  told : stepsOfZ (rows.drop 3) = (stepsOfZ (rows.drop (3 + k))).map (L ++ ·)
  below : Below w.heap.size w W
  low : w.heap.size + 1 ≤ pb

theorem OfI.new {w : World} {pb : Nat} {kv vv : Value} {rows : List (List UInt8)} {k : Nat} {W W' : World} {sv : Value} {L : List Zst} (h : OfI w pb kv vv rows k W sv L) (hb : Below W.heap.size W W') : OfI w pb kv vv rows k W' sv L :=
  ⟨(hb.block _ (block_lt h.res)).trans h.res, (hb.block _ (block_lt h.box)).trans h.box, (Spares.of_new (S := fun _ => False) hb).row h.row (fun _ _ => id), h.ok, h.len, h.told, h.below.trans (hb.mono h.below.size), h.low⟩

theorem of_fin {B : Nat} {w : World} {pb : Nat} {k1 v1 : List UInt8} {gk ck gv cv : Nat} {rows : List (List UInt8)} {k : Nat} {W : World} {sv : Value} {L : List Zst} (h : OfI w pb (.slice (some ⟨gk, 0, none⟩) k1.length ck) (.slice (some ⟨gv, 0, none⟩) v1.length cv) rows k W sv L)
    (hr : stepsOfZ (rows.drop 3) = some L) (hk1 : rows[1]? = some k1) (hv1 : rows[2]? = some v1) (hok : w.ownsRow B 5 1 (.slice (some ⟨gk, 0, none⟩) k1.length ck) k1.length (k1.map by8)) (hov : w.ownsRow B 5 1 (.slice (some ⟨gv, 0, none⟩) v1.length cv) v1.length (v1.map by8)) (hB : B ≤ w.heap.size) (hap : gk ≠ gv) :
    (stepsOfZ (rows.drop 3) = none ∧ Ending.returned (.tuple #[.agg #[.bool false, .slice (some ⟨gk, 0, none⟩) k1.length ck, .slice (some ⟨gv, 0, none⟩) v1.length cv, sv], .bool true]) = .returned (.tuple #[.agg #[.bool false, .slice none 0 0, .slice none 0 0, .slice none 0 0], .bool false]) ∧ Below w.heap.size w (W.setRow w.heap.size #[.bool false, .slice (some ⟨gk, 0, none⟩) k1.length ck, .slice (some ⟨gv, 0, none⟩) v1.length cv, sv])) ∨
      ∃ st kv vv sv', stepsOfZ (rows.drop 3) = some st ∧ Ending.returned (.tuple #[.agg #[.bool false, .slice (some ⟨gk, 0, none⟩) k1.length ck, .slice (some ⟨gv, 0, none⟩) v1.length cv, sv], .bool true]) = .returned (.tuple #[.agg #[.bool false, kv, vv, sv'], .bool true]) ∧ POwn B (W.setRow w.heap.size #[.bool false, .slice (some ⟨gk, 0, none⟩) k1.length ck, .slice (some ⟨gv, 0, none⟩) v1.length cv, sv]) ⟨false, rows[1]?.getD [], rows[2]?.getD [], st⟩ kv vv sv' ∧ Below w.heap.size w (W.setRow w.heap.size #[.bool false, .slice (some ⟨gk, 0, none⟩) k1.length ck, .slice (some ⟨gv, 0, none⟩) v1.length cv, sv]) := by
  have sp := spares_setRowZ W w.heap.size #[.bool false, .slice (some ⟨gk, 0, none⟩) k1.length ck, .slice (some ⟨gv, 0, none⟩) v1.length cv, sv]
  have hb : Below w.heap.size w (W.setRow w.heap.size #[.bool false, .slice (some ⟨gk, 0, none⟩) k1.length ck, .slice (some ⟨gv, 0, none⟩) v1.length cv, sv]) := below_setRow h.below (Nat.le_refl _) _
  refine .inr ⟨L, _, _, _, hr, rfl, ⟨?_, ?_, ?_, h.ok, ?_⟩, hb⟩
  · rw [hk1]; exact ownsRow_below hok hb
  · rw [hv1]; exact ownsRow_below hov hb
  · have hlow := h.low
    have := sp.row h.row (fun g hg e => by have := (h.row.lt g hg).1; omega)
    simp only
    rw [h.len]
    exact owns_lower this (fun g hg => by have := (this.lt g hg).1; omega)
  · intro g hg e
    simp only [Value.ownBlock, Option.some.injEq] at hg e
    exact hap (hg.trans e.symm)

theorem of_step {w : World} {pb : Nat} {kv vv : Value} {rows : List (List UInt8)} {k g cap : Nat} {W W2 W3 W4 : World} {sv : Value} {L : List Zst} {s : Zst} (h : OfI w pb kv vv rows k W sv L) (hk : 3 + k < rows.length) (hs : stepOfZ (rows[3 + k]?.getD []) = some s)
    (hb : Below W.heap.size W W2) (hg : W2.grownBy W3 sv.ownBlock) (hown : W3.ownsRow (pb + 1) 66 34 (.slice (some ⟨g, 0, none⟩) (k + 1) cap) (k + 1) (L.flatMap zc ++ zc s)) (hat : sv.ownBlock = some g ∨ g = W2.heap.size)
    (h4 : W3.setCell ⟨pb, 3, none⟩ (.slice (some ⟨g, 0, none⟩) (k + 1) cap) = W4) : OfI w pb kv vv rows (k + 1) W4 (.slice (some ⟨g, 0, none⟩) (k + 1) cap) (L ++ [s]) := by
  have hlow := h.low
  have hI := h.new hb
  have hr : ∀ i, sv.ownBlock = some i → pb + 1 ≤ i := fun i hi => (h.row.lt i hi).1
  have sg : Spares (fun i => sv.ownBlock = some i) W2 W3 := Spares.of_grown hg (fun k e => e)
  have s4 : Spares (fun i => i = pb) W3 W4 := by rw [← h4]; exact spares_set W3 ⟨pb, 3, none⟩ _
  have hp2 := block_lt hI.box
  have hr2 := block_lt hI.res
  have hz2 := sg.size
  have hbx3 : W3.heap[pb]? = some (.cells #[.bool false, kv, vv, sv] 29 (0, 0)) := (sg.block _ hp2 (fun e => by have := hr _ e; omega)).trans hI.box
  have hgp : pb + 1 ≤ g := (hown.lt g rfl).1
  refine ⟨(s4.block _ (by omega) (by omega)).trans ((sg.block _ hr2 (fun e => by have := hr _ e; omega)).trans hI.res), ?_, ?_, ?_, by simp [h.len], ?_, ?_, hlow⟩
  · rw [← h4]
    exact heap_setCell_same _ _ _ _ _ _ hbx3
  · have e : (L ++ [s]).flatMap zc = L.flatMap zc ++ zc s := by simp
    rw [e]
    exact s4.row hown (fun i hi e => by have : g = i := by simpa [Value.ownBlock] using hi
                                        omega)
  · intro x hx
    rcases List.mem_append.1 hx with hx | hx
    · exact h.ok x hx
    · simp at hx; subst hx; exact stepOfZ_ok _ _ hs
  · rw [h.told, stepsOfZ_split rows (3 + k) hk, hs]
    simp only [Option.map_map, show 3 + k + 1 = 3 + (k + 1) by omega]
    congr 1
    funext l
    simp
  · exact hI.below.trans ((sg.below (B := w.heap.size) (fun i hi => by have := hr i hi; omega) hI.below.size).trans (s4.below (B := w.heap.size) (fun i hi => by omega) (Nat.le_trans hI.below.size sg.size)))

set_option maxHeartbeats 4000000 in
theorem ofRow_many (B : Nat) (rv : Value) (rows : List (List UInt8)) (w : World) (hB : B ≤ w.heap.size) (hR : RowsAt w B rv rows) (h3 : 3 ≤ rows.length) (h4096 : rows.length ≤ 4096) (r : List UInt8) (hr : rows[0]? = some r) (he : r = be (u64of 0) 8) :
    Calls Tryd.prog 58 #[rv] w fun e w' => (stepsOfZ (rows.drop 3) = none ∧ e = .returned (.tuple #[.agg #[.bool false, .slice none 0 0, .slice none 0 0, .slice none 0 0], .bool false]) ∧ Below w.heap.size w w') ∨ ∃ st kv vv sv, stepsOfZ (rows.drop 3) = some st ∧ e = .returned (.tuple #[.agg #[.bool false, kv, vv, sv], .bool true]) ∧ POwn B w' ⟨false, rows[1]?.getD [], rows[2]?.getD [], st⟩ kv vv sv ∧ Below w.heap.size w w' := by
  obtain ⟨vs, hrow, hown⟩ := hR
  obtain ⟨ra, rc, rfl⟩ := row_form hrow
  have hnew := World.alloc_heap_new w (.cells #[.bool false, .slice none 0 0, .slice none 0 0, .slice none 0 0] 29)
  have hbn : Below w.heap.size w (w.alloc (.cells #[.bool false, .slice none 0 0, .slice none 0 0, .slice none 0 0] 29)) := new_allocZ _ _
  have hsn : (w.alloc (.cells #[.bool false, .slice none 0 0, .slice none 0 0, .slice none 0 0] 29)).heap.size = w.heap.size + 1 := World.size_alloc _ _
  obtain ⟨gr, rfl⟩ : ∃ gr, ra = some ⟨gr, 0, none⟩ := by
    obtain ⟨g, cap, e, _⟩ := hrow.form (by omega)
    simp only [Value.slice.injEq] at e
    exact ⟨g, e.1⟩
  obtain ⟨ga, ca, hcell0, hvs0, hro0⟩ := rows_cell hrow hown rfl 0 r hr
  have hn1 : ((rows.length : Int) == 1) = false := by rw [beq_eq_false_iff_ne]; omega
  have hn3 : ¬ (rows.length : Int) < 3 := by omega
  have hnn : (0 : Int) < (rows.length : Int) := by omega
  have hpos : 0 < rows.length := by omega
  have HROW := hid hrow
  have HOWN := hid hown
  have hcl : rows.length ≤ rc ∧ rc ≤ maxLen := by
    rcases hrow.2 with ⟨_, h0⟩ | ⟨g, cap, cur, e, _, _, hc, hc2, _⟩
    · omega
    · simp only [Value.slice.injEq] at e
      omega
  obtain ⟨hcl, hcm⟩ := hcl
  unfold maxLen at hcm
  clear hrow hown
  go_enter Tryd.func58, Tryd.ntmps58
  go_wp2_with fail
  obtain ⟨w0, hw0⟩ : ∃ w0, w.alloc (.cells #[.bool false, .slice none 0 0, .slice none 0 0, .slice none 0 0] 29) = w0 := ⟨_, rfl⟩
  rw [hw0] at hnew hbn hsn ⊢
  have hcell : w0.cell? ⟨gr, 0, none⟩ = some (.slice (some ⟨ga, 0, none⟩) r.length ca) := (hbn.cell (p := ⟨gr, 0, none⟩) (World.block_lt_of_cell? _ _ hcell0)).trans hcell0
  have hro := ownsRow_below hro0 hbn
  refine last_region (fun W' : World => True) 9 (by kernel_rfl) ?_
  have hS0 : True := trivial
  refine wpAnyE_take (i := 0) (v := ?_) rfl (by kernel_rfl) (by kernel_rfl) (by kernel_rfl) (by kernel_rfl) (by kernel_rfl) (fun _ _ _ h => h) (Or.inl ⟨by rfl, ?_⟩) (by assumption) ?_; rotate_left; (focus (intro w hSw; (try dsimp only at hSw); (try obtain ⟨hSw1, hSw2, hSw3⟩ := hSw); go_simp <;> with_reducible rfl)); (try simp only [Act.put, List.getElem_toArray, List.getElem_cons_zero, List.getElem_cons_succ, List.setIfInBounds_toArray, List.set_cons_zero, List.set_cons_succ])
  refine wpAnyE_take (i := 1) (v := ?_) rfl (by kernel_rfl) (by kernel_rfl) (by kernel_rfl) (by kernel_rfl) (by kernel_rfl) (fun _ _ _ h => h) (Or.inl ⟨by rfl, ?_⟩) (by assumption) ?_; rotate_left; (focus (intro w hSw; (try dsimp only at hSw); (try obtain ⟨hSw1, hSw2, hSw3⟩ := hSw); go_simp <;> with_reducible rfl)); (try simp only [Act.put, List.getElem_toArray, List.getElem_cons_zero, List.getElem_cons_succ, List.setIfInBounds_toArray, List.set_cons_zero, List.set_cons_succ])
  refine wpAnyE_take (i := 2) (v := .bool false) rfl (by kernel_rfl) (by kernel_rfl) (by kernel_rfl) (by kernel_rfl) (by kernel_rfl) (fun _ _ _ h => h) (Or.inl ⟨by rfl, fun W _ => by go_simp <;> simp [hn1]⟩) trivial ?_
  simp only [Act.put, List.getElem_toArray, List.getElem_cons_zero, List.getElem_cons_succ, List.setIfInBounds_toArray, List.set_cons_zero, List.set_cons_succ]
  refine wpAnyE_take (i := 3) (v := ?_) rfl (by kernel_rfl) (by kernel_rfl) (by kernel_rfl) (by kernel_rfl) (by kernel_rfl) (fun _ _ _ h => h) (Or.inl ⟨by rfl, ?_⟩) (by assumption) ?_; rotate_left; (focus (intro w hSw; (try dsimp only at hSw); (try obtain ⟨hSw1, hSw2, hSw3⟩ := hSw); go_simp <;> with_reducible rfl)); (try simp only [Act.put, List.getElem_toArray, List.getElem_cons_zero, List.getElem_cons_succ, List.setIfInBounds_toArray, List.set_cons_zero, List.set_cons_succ])
  refine wpAnyE_take (i := 4) (v := undef) rfl (by kernel_rfl) (by kernel_rfl) (by kernel_rfl) (by kernel_rfl) (by kernel_rfl) (fun _ _ _ h => h) (Or.inr ⟨by rfl, rfl⟩) (by assumption) ?_; (try simp only [Act.put, List.getElem_toArray, List.getElem_cons_zero, List.getElem_cons_succ, List.setIfInBounds_toArray, List.set_cons_zero, List.set_cons_succ])
  refine wpAnyE_take (i := 5) (v := undef) rfl (by kernel_rfl) (by kernel_rfl) (by kernel_rfl) (by kernel_rfl) (by kernel_rfl) (fun _ _ _ h => h) (Or.inr ⟨by rfl, rfl⟩) (by assumption) ?_; (try simp only [Act.put, List.getElem_toArray, List.getElem_cons_zero, List.getElem_cons_succ, List.setIfInBounds_toArray, List.set_cons_zero, List.set_cons_succ])
  refine wpAnyE_take (i := 6) (v := undef) rfl (by kernel_rfl) (by kernel_rfl) (by kernel_rfl) (by kernel_rfl) (by kernel_rfl) (fun _ _ _ h => h) (Or.inr ⟨by rfl, rfl⟩) (by assumption) ?_; (try simp only [Act.put, List.getElem_toArray, List.getElem_cons_zero, List.getElem_cons_succ, List.setIfInBounds_toArray, List.set_cons_zero, List.set_cons_succ])
  refine takeE_skip (i := 7) (by kernel_rfl) rfl (by rfl) trivial ?_
  simp only [Act.put, List.getElem_toArray, List.getElem_cons_zero, List.getElem_cons_succ, List.setIfInBounds_toArray, List.set_cons_zero, List.set_cons_succ]
  refine takeE_skip (i := 8) (by kernel_rfl) rfl (by rfl) trivial ?_
  simp only [Act.put, List.getElem_toArray, List.getElem_cons_zero, List.getElem_cons_succ, List.setIfInBounds_toArray, List.set_cons_zero, List.set_cons_succ]
  refine takeE_value (i := 9) (v := .bool false) (by kernel_rfl) rfl rfl (by rfl) trivial ?_
  simp only [Act.put, List.getElem_toArray, List.getElem_cons_zero, List.getElem_cons_succ, List.setIfInBounds_toArray, List.set_cons_zero, List.set_cons_succ]
  refine wpAnyE_done (by kernel_rfl) ?_ _
  simp only [only_normal]
  have H0 : Hid (w0.drew.heap[w.heap.size]? = some (.cells #[.bool false, .slice none 0 0, .slice none 0 0, .slice none 0 0] 29 (0, 0))) := hid hnew
  have HB0 : Hid (Below w.heap.size w w0.drew) := hid (hbn.trans (below_drewN _ _ 1))
  replace hcell : w0.drew.cell? ⟨gr, 0, none⟩ = some (.slice (some ⟨ga, 0, none⟩) r.length ca) := hcell
  replace hro : w0.drew.ownsRow B 5 1 (.slice (some ⟨ga, 0, none⟩) r.length ca) r.length (r.map by8) := hro
  have hsd : w0.drew.heap.size = w.heap.size + 1 := hsn
  generalize w0.drew = w1 at *
  clear hnew hbn hsn hw0
  go_wp2_with fail
  have hS3 : (fun W' : World => W'.cell? ⟨gr, 0, none⟩ = some (.slice (some ⟨ga, 0, none⟩) r.length ca)) w1.drew := hcell
  refine last_region (fun W' : World => W'.cell? ⟨gr, 0, none⟩ = some (.slice (some ⟨ga, 0, none⟩) r.length ca)) 10 (by kernel_rfl) ?_
  refine wpAnyE_take (i := 0) (v := ?_) rfl (by kernel_rfl) (by kernel_rfl) (by kernel_rfl) (by kernel_rfl) (by kernel_rfl) (fun _ _ _ h => h) (Or.inl ⟨by rfl, ?_⟩) (by assumption) ?_; rotate_left; (focus (intro w hSw; (try dsimp only at hSw); (try obtain ⟨hSw1, hSw2, hSw3⟩ := hSw); go_simp <;> with_reducible rfl)); (try simp only [Act.put, List.getElem_toArray, List.getElem_cons_zero, List.getElem_cons_succ, List.setIfInBounds_toArray, List.set_cons_zero, List.set_cons_succ])
  refine wpAnyE_take (i := 1) (v := ?_) rfl (by kernel_rfl) (by kernel_rfl) (by kernel_rfl) (by kernel_rfl) (by kernel_rfl) (fun _ _ _ h => h) (Or.inl ⟨by rfl, ?_⟩) (by assumption) ?_; rotate_left; (focus (intro w hSw; (try dsimp only at hSw); (try obtain ⟨hSw1, hSw2, hSw3⟩ := hSw); go_simp <;> with_reducible rfl)); (try simp only [Act.put, List.getElem_toArray, List.getElem_cons_zero, List.getElem_cons_succ, List.setIfInBounds_toArray, List.set_cons_zero, List.set_cons_succ])
  refine wpAnyE_take (i := 2) (v := .bool false) rfl (by kernel_rfl) (by kernel_rfl) (by kernel_rfl) (by kernel_rfl) (by kernel_rfl) (fun _ _ _ h => h) (Or.inl ⟨by rfl, fun W _ => by go_simp <;> simp [hn3]⟩) hS3 ?_
  simp only [Act.put, List.getElem_toArray, List.getElem_cons_zero, List.getElem_cons_succ, List.setIfInBounds_toArray, List.set_cons_zero, List.set_cons_succ]
  refine wpAnyE_take (i := 3) (v := ?_) rfl (by kernel_rfl) (by kernel_rfl) (by kernel_rfl) (by kernel_rfl) (by kernel_rfl) (fun _ _ _ h => h) (Or.inl ⟨by rfl, ?_⟩) (by assumption) ?_; rotate_left; (focus (intro w hSw; (try dsimp only at hSw); (try obtain ⟨hSw1, hSw2, hSw3⟩ := hSw); go_simp <;> with_reducible rfl)); (try simp only [Act.put, List.getElem_toArray, List.getElem_cons_zero, List.getElem_cons_succ, List.setIfInBounds_toArray, List.set_cons_zero, List.set_cons_succ])
  refine wpAnyE_take (i := 4) (v := ?_) rfl (by kernel_rfl) (by kernel_rfl) (by kernel_rfl) (by kernel_rfl) (by kernel_rfl) (fun _ _ _ h => h) (Or.inl ⟨by rfl, ?_⟩) (by assumption) ?_; rotate_left; (focus (intro w hSw; (try dsimp only at hSw); (try obtain ⟨hSw1, hSw2, hSw3⟩ := hSw); go_simp <;> with_reducible rfl)); (try simp only [Act.put, List.getElem_toArray, List.getElem_cons_zero, List.getElem_cons_succ, List.setIfInBounds_toArray, List.set_cons_zero, List.set_cons_succ])
  refine wpAnyE_take (i := 5) (v := .pointer (some ⟨gr, 0, none⟩)) rfl (by kernel_rfl) (by kernel_rfl) (by kernel_rfl) (by kernel_rfl) (by kernel_rfl) (fun _ _ _ h => h) (Or.inl ⟨by rfl, fun W _ => by go_simp <;> simp [hpos]⟩) hS3 ?_
  simp only [Act.put, List.getElem_toArray, List.getElem_cons_zero, List.getElem_cons_succ, List.setIfInBounds_toArray, List.set_cons_zero, List.set_cons_succ]
  refine wpAnyE_take (i := 6) (v := .slice (some ⟨ga, 0, none⟩) r.length ca) rfl (by kernel_rfl) (by kernel_rfl) (by kernel_rfl) (by kernel_rfl) (by kernel_rfl) (fun _ _ _ h => h) (yields_val 24 (.tmp 25) rfl ⟨gr, 0, none⟩ (by kernel_rfl) _ (by rfl) (fun W hW => run_load_slice W 24 _ Tryd.underlying24 ⟨gr, 0, none⟩ _ hW)) hS3 ?_
  simp only [Act.put, List.getElem_toArray, List.getElem_cons_zero, List.getElem_cons_succ, List.setIfInBounds_toArray, List.set_cons_zero, List.set_cons_succ]
  refine takeE_callw (i := 7) #[.int .i64 0] (fun u w' => ∃ an cn, u = .slice an 8 cn ∧ w'.ownsRow w1.heap.size 5 1 (.slice an 8 cn) 8 ((be (u64of 0) 8).map by8) ∧ Below w1.heap.size w1 w') (by kernel_rfl) rfl (by rfl) rfl (by kernel_rfl) (enters_of Tryd.func55 (by kernel_rfl) rfl) ((num_any 0 w1.drew).mono fun e w' ⟨v', h1, h2, h3⟩ => by
    obtain ⟨an, cn, rfl⟩ := row_form h2
    exact ⟨_, h1, an, cn, rfl, h2, (below_drewN _ _ 1).trans h3⟩) ?_
  rintro _ w2 ⟨an, cn, rfl, hon, hb2⟩
  have hS4 : (fun W' : World => W'.cell? ⟨gr, 0, none⟩ = some (.slice (some ⟨ga, 0, none⟩) r.length ca)) w2 := (hb2.cell (p := ⟨gr, 0, none⟩) (World.block_lt_of_cell? _ _ hcell)).trans hcell
  refine ⟨hS4, ?_⟩
  simp only [Act.put, List.getElem_toArray, List.getElem_cons_zero, List.getElem_cons_succ, List.setIfInBounds_toArray, List.set_cons_zero, List.set_cons_succ]
  have hsay2 : Says w2 (.slice an 8 cn) (be (u64of 0) 8) := (shows_of_owns hon).2
  have HE := equal_any _ _ (.slice (some ⟨ga, 0, none⟩) r.length ca) (.slice an 8 cn) r (be (u64of 0) 8) w2 ((shows_of_owns hro).2.below hb2) hsay2
  rw [decide_eq_true he] at HE
  refine takeE_callw (i := 8) #[.slice (some ⟨ga, 0, none⟩) r.length ca, .slice an 8 cn] (fun u w' => u = .bool true ∧ w2 = w') (by kernel_rfl) rfl (by rfl) rfl (by kernel_rfl) (enters_of Tryd.func50 (by kernel_rfl) rfl) (HE.mono fun e w' ⟨h1, h2⟩ => ⟨_, h1, rfl, h2.symm⟩) ?_
  rintro _ _ ⟨rfl, rfl⟩
  refine ⟨hS4, ?_⟩
  simp only [Act.put, List.getElem_toArray, List.getElem_cons_zero, List.getElem_cons_succ, List.setIfInBounds_toArray, List.set_cons_zero, List.set_cons_succ]
  refine wpAnyE_take (i := 9) (v := ?_) rfl (by kernel_rfl) (by kernel_rfl) (by kernel_rfl) (by kernel_rfl) (by kernel_rfl) (fun _ _ _ h => h) (Or.inl ⟨by rfl, ?_⟩) (by assumption) ?_; rotate_left; (focus (intro w hSw; (try dsimp only at hSw); (try obtain ⟨hSw1, hSw2, hSw3⟩ := hSw); go_simp <;> with_reducible rfl)); (try simp only [Act.put, List.getElem_toArray, List.getElem_cons_zero, List.getElem_cons_succ, List.setIfInBounds_toArray, List.set_cons_zero, List.set_cons_succ])
  refine takeE_value (i := 10) (v := .bool false) (by kernel_rfl) rfl rfl (by rfl) hS4 ?_
  simp only [Act.put, List.getElem_toArray, List.getElem_cons_zero, List.getElem_cons_succ, List.setIfInBounds_toArray, List.set_cons_zero, List.set_cons_succ]
  refine wpAnyE_done (by kernel_rfl) ?_ _
  simp only [only_normal]
  have H1 : Hid (w2.heap[w.heap.size]? = some (.cells #[.bool false, .slice none 0 0, .slice none 0 0, .slice none 0 0] 29 (0, 0))) := hid ((hb2.block _ (by omega)).trans H0.out)
  have HB1 : Hid (Below w.heap.size w w2) := hid (HB0.out.trans (hb2.mono (by omega)))
  clear HE hS0 hS3 hS4 hsay2 hon hb2 hcell hro
  -- the key and the value
  obtain ⟨k1, hk1⟩ : ∃ k1, rows[1]? = some k1 := ⟨_, List.getElem?_eq_getElem (by omega)⟩
  obtain ⟨v1, hv1⟩ : ∃ v1, rows[2]? = some v1 := ⟨_, List.getElem?_eq_getElem (by omega)⟩
  obtain ⟨gk, ck, hck, hvk, hok⟩ := rows_cell HROW.out HOWN.out rfl 1 k1 hk1
  obtain ⟨gv, cv, hcv, hvv, hov⟩ := rows_cell HROW.out HOWN.out rfl 2 v1 hv1
  have hapk : gk ≠ gv := fun e => HOWN.out.apart 1 2 _ _ hvk hvv (by decide) (by rw [e]; rfl)
  have hgrl : gr < w.heap.size := World.block_lt_of_cell? _ _ hck
  have hSk : (fun W' : World => W'.cell? ⟨gr, 1, none⟩ = some (.slice (some ⟨gk, 0, none⟩) k1.length ck) ∧ W'.cell? ⟨gr, 2, none⟩ = some (.slice (some ⟨gv, 0, none⟩) v1.length cv)) w2.drew := ⟨(HB1.out.cell (p := ⟨gr, 1, none⟩) hgrl).trans hck, (HB1.out.cell (p := ⟨gr, 2, none⟩) hgrl).trans hcv⟩
  have h1l : 1 < rows.length := by omega
  have h2l : 2 < rows.length := by omega
  go_wp2_with fail
  refine last_region (fun W' : World => W'.cell? ⟨gr, 1, none⟩ = some (.slice (some ⟨gk, 0, none⟩) k1.length ck) ∧ W'.cell? ⟨gr, 2, none⟩ = some (.slice (some ⟨gv, 0, none⟩) v1.length cv)) 9 (by kernel_rfl) ?_
  refine wpAnyE_take (i := 0) (v := ?_) rfl (by kernel_rfl) (by kernel_rfl) (by kernel_rfl) (by kernel_rfl) (by kernel_rfl) (fun _ _ _ h => h) (Or.inl ⟨by rfl, ?_⟩) (by assumption) ?_; rotate_left; (focus (intro w hSw; (try dsimp only at hSw); (try obtain ⟨hSw1, hSw2, hSw3⟩ := hSw); go_simp <;> with_reducible rfl)); (try simp only [Act.put, List.getElem_toArray, List.getElem_cons_zero, List.getElem_cons_succ, List.setIfInBounds_toArray, List.set_cons_zero, List.set_cons_succ])
  refine wpAnyE_take (i := 1) (v := .pointer (some ⟨gr, 1, none⟩)) rfl (by kernel_rfl) (by kernel_rfl) (by kernel_rfl) (by kernel_rfl) (by kernel_rfl) (fun _ _ _ h => h) (Or.inl ⟨by rfl, fun W _ => by go_simp <;> first | with_reducible rfl | (intro h; exact absurd h (by omega)) | (rw [if_pos (by omega)]; rfl) | rw [if_pos (by omega)]⟩) hSk ?_
  simp only [Act.put, List.getElem_toArray, List.getElem_cons_zero, List.getElem_cons_succ, List.setIfInBounds_toArray, List.set_cons_zero, List.set_cons_succ]
  refine wpAnyE_take (i := 2) (v := .slice (some ⟨gk, 0, none⟩) k1.length ck) rfl (by kernel_rfl) (by kernel_rfl) (by kernel_rfl) (by kernel_rfl) (by kernel_rfl) (fun _ _ _ h => h) (yields_val 24 (.tmp 33) rfl ⟨gr, 1, none⟩ (by kernel_rfl) _ (by rfl) (fun W hW => run_load_slice W 24 _ Tryd.underlying24 ⟨gr, 1, none⟩ _ hW.1)) hSk ?_
  simp only [Act.put, List.getElem_toArray, List.getElem_cons_zero, List.getElem_cons_succ, List.setIfInBounds_toArray, List.set_cons_zero, List.set_cons_succ]
  refine wpAnyE_take (i := 3) (v := ?_) rfl (by kernel_rfl) (by kernel_rfl) (by kernel_rfl) (by kernel_rfl) (by kernel_rfl) (fun _ _ _ h => h) (Or.inl ⟨by rfl, ?_⟩) (by assumption) ?_; rotate_left; (focus (intro w hSw; (try dsimp only at hSw); (try obtain ⟨hSw1, hSw2, hSw3⟩ := hSw); go_simp <;> with_reducible rfl)); (try simp only [Act.put, List.getElem_toArray, List.getElem_cons_zero, List.getElem_cons_succ, List.setIfInBounds_toArray, List.set_cons_zero, List.set_cons_succ])
  refine wpAnyE_take (i := 4) (v := .pointer (some ⟨gr, 2, none⟩)) rfl (by kernel_rfl) (by kernel_rfl) (by kernel_rfl) (by kernel_rfl) (by kernel_rfl) (fun _ _ _ h => h) (Or.inl ⟨by rfl, fun W _ => by go_simp <;> first | with_reducible rfl | (intro h; exact absurd h (by omega)) | (rw [if_pos (by omega)]; rfl) | rw [if_pos (by omega)]⟩) hSk ?_
  simp only [Act.put, List.getElem_toArray, List.getElem_cons_zero, List.getElem_cons_succ, List.setIfInBounds_toArray, List.set_cons_zero, List.set_cons_succ]
  refine wpAnyE_take (i := 5) (v := .slice (some ⟨gv, 0, none⟩) v1.length cv) rfl (by kernel_rfl) (by kernel_rfl) (by kernel_rfl) (by kernel_rfl) (by kernel_rfl) (fun _ _ _ h => h) (yields_val 24 (.tmp 36) rfl ⟨gr, 2, none⟩ (by kernel_rfl) _ (by rfl) (fun W hW => run_load_slice W 24 _ Tryd.underlying24 ⟨gr, 2, none⟩ _ hW.2)) hSk ?_
  simp only [Act.put, List.getElem_toArray, List.getElem_cons_zero, List.getElem_cons_succ, List.setIfInBounds_toArray, List.set_cons_zero, List.set_cons_succ]
  refine wpAnyE_take (i := 6) (v := ?_) rfl (by kernel_rfl) (by kernel_rfl) (by kernel_rfl) (by kernel_rfl) (by kernel_rfl) (fun _ _ _ h => h) (Or.inl ⟨by rfl, ?_⟩) (by assumption) ?_; rotate_left; (focus (intro w hSw; (try dsimp only at hSw); (try obtain ⟨hSw1, hSw2, hSw3⟩ := hSw); go_simp <;> with_reducible rfl)); (try simp only [Act.put, List.getElem_toArray, List.getElem_cons_zero, List.getElem_cons_succ, List.setIfInBounds_toArray, List.set_cons_zero, List.set_cons_succ])
  refine wpAnyE_take (i := 7) (v := ?_) rfl (by kernel_rfl) (by kernel_rfl) (by kernel_rfl) (by kernel_rfl) (by kernel_rfl) (fun _ _ _ h => h) (Or.inl ⟨by rfl, ?_⟩) (by assumption) ?_; rotate_left; (focus (intro w hSw; (try dsimp only at hSw); (try obtain ⟨hSw1, hSw2, hSw3⟩ := hSw); go_simp <;> with_reducible rfl)); (try simp only [Act.put, List.getElem_toArray, List.getElem_cons_zero, List.getElem_cons_succ, List.setIfInBounds_toArray, List.set_cons_zero, List.set_cons_succ])
  have hbA : Below w2.heap.size w2.drew (w2.drew.alloc (.cells #[.bool false, .slice none 0 0, .slice none 0 0, .slice none 0 0] 29)) := Below.alloc (Below.refl _ w2.drew) (Nat.le_refl _) _
  have hbA0 : Below w.heap.size w (w2.drew.alloc (.cells #[.bool false, .slice none 0 0, .slice none 0 0, .slice none 0 0] 29)) := (HB1.out.trans (below_drewN _ _ 1)).trans (hbA.mono HB1.out.size)
  have hSA : (fun W' : World => W'.cell? ⟨gr, 1, none⟩ = some (.slice (some ⟨gk, 0, none⟩) k1.length ck) ∧ W'.cell? ⟨gr, 2, none⟩ = some (.slice (some ⟨gv, 0, none⟩) v1.length cv)) (w2.drew.alloc (.cells #[.bool false, .slice none 0 0, .slice none 0 0, .slice none 0 0] 29)) := ⟨(hbA0.cell (p := ⟨gr, 1, none⟩) hgrl).trans hck, (hbA0.cell (p := ⟨gr, 2, none⟩) hgrl).trans hcv⟩
  refine takeE_one (i := 8) (by kernel_rfl) rfl rfl (wp_alloc_of rfl (alloc_proof _) ⟨.inl hSA, ?_⟩)
  simp only [Act.put, List.getElem_toArray, List.getElem_cons_zero, List.getElem_cons_succ, List.setIfInBounds_toArray, List.set_cons_zero, List.set_cons_succ]
  have hnA := World.alloc_heap_new w2.drew (.cells #[.bool false, .slice none 0 0, .slice none 0 0, .slice none 0 0] 29)
  refine takeE_storerow (i := 9) (by kernel_rfl) rfl rfl 29 (.tmp 4) (.tmp 39) rfl w2.heap.size #[.bool false, .slice (some ⟨gk, 0, none⟩) k1.length ck, .slice (some ⟨gv, 0, none⟩) v1.length cv, .slice none 0 0] (by kernel_rfl) (by kernel_rfl) 29 #[.bool false, .slice none 0 0, .slice none 0 0, .slice none 0 0] hnA Tryd.infoProof rfl (one_fourZ _ _ _ _ _ _ _ _ _ _) (.inr rfl) ?_
  refine wpAnyE_done (by kernel_rfl) ?_ _
  simp only [only_normal]
  have hspA := spares_setRowZ (w2.drew.alloc (.cells #[.bool false, .slice none 0 0, .slice none 0 0, .slice none 0 0] 29)) w2.heap.size #[.bool false, .slice (some ⟨gk, 0, none⟩) k1.length ck, .slice (some ⟨gv, 0, none⟩) v1.length cv, .slice none 0 0]
  have hbxA : ((w2.drew.alloc (.cells #[.bool false, .slice none 0 0, .slice none 0 0, .slice none 0 0] 29)).setRow w2.heap.size #[.bool false, .slice (some ⟨gk, 0, none⟩) k1.length ck, .slice (some ⟨gv, 0, none⟩) v1.length cv, .slice none 0 0]).heap[w2.heap.size]? = some (.cells #[.bool false, .slice (some ⟨gk, 0, none⟩) k1.length ck, .slice (some ⟨gv, 0, none⟩) v1.length cv, .slice none 0 0] 29 (0, 0)) := setRow_heap _ _ _ _ _ _ hnA
  have hz2 : w.heap.size < w2.heap.size := block_lt H1.out
  have hI0 : OfI w w2.heap.size (.slice (some ⟨gk, 0, none⟩) k1.length ck) (.slice (some ⟨gv, 0, none⟩) v1.length cv) rows 0 ((w2.drew.alloc (.cells #[.bool false, .slice none 0 0, .slice none 0 0, .slice none 0 0] 29)).setRow w2.heap.size #[.bool false, .slice (some ⟨gk, 0, none⟩) k1.length ck, .slice (some ⟨gv, 0, none⟩) v1.length cv, .slice none 0 0]) (.slice none 0 0) [] :=
    ⟨(hspA.block _ (by have := hbA0.size; have h5 := hbA.size; have : w2.drew.heap.size = w2.heap.size := rfl; omega) (by omega)).trans ((hbA.block _ hz2).trans H1.out), hbxA, World.ownsRow_nil _ _ _ _, fun s hs => (by cases hs), rfl, by simp, hbA0.trans (hspA.below (fun i hi => by omega) hbA0.size), by omega⟩
  generalize (w2.drew.alloc (.cells #[.bool false, .slice none 0 0, .slice none 0 0, .slice none 0 0] 29)).setRow w2.heap.size #[.bool false, .slice (some ⟨gk, 0, none⟩) k1.length ck, .slice (some ⟨gv, 0, none⟩) v1.length cv, .slice none 0 0] = w3 at *
  have HI0 := hid hI0
  have HOK := hid hok
  have HOV := hid hov
  have HK1 := hid hk1
  have HV1 := hid hv1
  clear hI0 hspA hbxA hnA hSA hbA0 hbA hSk hok hov hcv hck hvk hvv hk1 hv1 H1 HB1
  simp only [Act.put, List.getElem_toArray, List.getElem_cons_zero, List.getElem_cons_succ, List.setIfInBounds_toArray, List.set_cons_zero, List.set_cons_succ]
  rw [show w2.drew.heap.size = w2.heap.size from rfl]
  generalize w2.heap.size = pb at *
  by_cases hcap : rc = 3
  · have hl3 : rows.length = 3 := by omega
    have HR3 : Hid (stepsOfZ (rows.drop 3) = some []) := hid (by rw [List.drop_eq_nil_of_le (by omega)]; rfl)
    subst hcap
    rw [hl3]
    have HI00 := HI0
    have g0 := proof_cells HI0.out.box
    obtain ⟨c0, c1, c2, c3⟩ := g0
    go_wp2_with fail
    go_loopw [43] (fun i wr => i = .int .i64 0 ∧ wr = w3) (fun i _ => 0)
    case atStart => exact ⟨rfl, rfl⟩
    case round =>
      obtain ⟨rfl, rfl⟩ := hrel
      go_wp2_with (first
        | (refine wpList_load_z rfl 29 (.tmp 4) rfl ⟨pb, 0, none⟩ rfl _ (load_row_proof HI0.out.box rfl) ?_)
        | (refine wpList_store_row rfl 29 (.tmp 2) (.tmp 62) rfl w.heap.size #[.bool false, .slice (some ⟨gk, 0, none⟩) k1.length ck, .slice (some ⟨gv, 0, none⟩) v1.length cv, .slice none 0 0] rfl rfl 29 #[.bool false, .slice none 0 0, .slice none 0 0, .slice none 0 0] HI0.out.res Tryd.infoProof rfl (one_fourZ _ _ _ _ _ _ _ _ _ _) ?_)
        | (refine bodyPost_ret (v := .tuple #[.agg #[.bool false, .slice (some ⟨gk, 0, none⟩) k1.length ck, .slice (some ⟨gv, 0, none⟩) v1.length cv, .slice none 0 0], .bool true]) (results_agg_tmp (p := 2) (u := 3) (ty := 29) rfl _ _ w.heap.size _ rfl (load_row_proof (setRow_heap _ _ _ _ _ _ HI0.out.res) rfl)) rfl ?fin))
      case fin => exact of_fin HI0.out HR3.out HK1.out HV1.out HOK.out HOV.out hB hapk
  · have hl3 : (3 : Int) ≤ (rows.length : Int) := by omega
    have hc3 : (rows.length : Int) ≤ (rc : Int) := by omega
    have hne3 : ¬ (3 : Int) = (rc : Int) := by omega
    obtain ⟨m, hm⟩ : ∃ m, rows.length = 3 + m := ⟨rows.length - 3, by omega⟩
    have HM := hid hm
    rw [hm]
    have e3m : ((3 + m : Nat) : Int) = 3 + (m : Int) := by omega
    rw [e3m]
    clear e3m
    have hm0 : m ≤ 4093 := by omega
    have hcm3 : 3 + m ≤ rc := by omega
    have hcr3 : 3 < rc := by omega
    have HHO := hid (And.intro HROW.out HOWN.out)
    clear hm hn1 hnn hpos hcl hn3 h1l h2l h3 h4096 hl3 hc3 HROW HOWN hcap
    go_wp2_with fail
    go_loopw [43] (fun i wr => ∃ (k : Nat) (sa : Option Addr) (sc : Nat) (L : List Zst), k ≤ m ∧ i = .int .i64 (k : Int) ∧ Hid (OfI w pb (.slice (some ⟨gk, 0, none⟩) k1.length ck) (.slice (some ⟨gv, 0, none⟩) v1.length cv) rows k wr (.slice sa k sc) L)) (fun i _ => m - (intOf i).toNat)
    case atStart => exact ⟨0, none, 0, [], by omega, rfl, HI0⟩
    case round =>
      obtain ⟨k, sa, sc, L, hk, rfl, HI⟩ := hrel
      clear HI0
      by_cases hlt : k < m
      · have hki : (k : Int) < (m : Int) := by omega
        have hk0 : (0 : Int) ≤ (k : Int) := by omega
        obtain ⟨b, hb⟩ : ∃ b, rows[3 + k]? = some b := ⟨_, List.getElem?_eq_getElem (by rw [HM.out]; omega)⟩
        obtain ⟨gb, cb, hcb, _, hob⟩ := rows_cell HHO.out.1 HHO.out.2 rfl (3 + k) b hb
        have hcw : wr.cell? ⟨gr, 3 + k, none⟩ = some (.slice (some ⟨gb, 0, none⟩) b.length cb) := (HI.out.below.cell (p := ⟨gr, 3 + k, none⟩) hgrl).trans hcb
        have hsb : Says wr (.slice (some ⟨gb, 0, none⟩) b.length cb) b := (shows_of_owns (ownsRow_below hob HI.out.below)).2
        have HBG : Hid (rows[3 + k]?.getD [] = b) := hid (by rw [hb]; rfl)
        have HLT : Hid (3 + k < rows.length) := hid (by rw [HM.out]; omega)
        clear hcb hob hb
        cases hso : stepOfZ b with
        | none =>
          have HNO : Hid (stepsOfZ (rows.drop 3) = none) := hid (by rw [HI.out.told, stepsOfZ_split rows (3 + k) HLT.out, HBG.out, hso]; rfl)
          have HST := stepOf_no wr.heap.size _ b wr (Nat.le_refl _) hsb hso
          have HIZ := hid (isStep (zok_zero 0 false (by decide) (by decide)))
          rw [← zeroStep_zc] at HIZ
          obtain ⟨Z, hZ⟩ : ∃ Z, zeroStep = Z := ⟨_, rfl⟩
          rw [hZ] at HST HIZ
          have HZ := hid hZ
          clear hsb hso hZ
          go_wp2_with (first
            | (go_at_call 85; refine HST.mono ?_; clear HST; rintro e w5 ⟨rfl, hb5⟩
               have HI5 := hid (HI.out.new hb5)
               clear hb5)
            | (refine wpList_store_row rfl 66 (.tmp 7) (.tmp 50) rfl w5.heap.size Z rfl rfl 66 zeroStep (World.alloc_heap_new w5 _) HIZ.out.info HIZ.out.size HIZ.out.one ?_
               generalize hw6 : World.setRow _ w5.heap.size Z = w6
               have HI6 : Hid (OfI w pb (.slice (some ⟨gk, 0, none⟩) k1.length ck) (.slice (some ⟨gv, 0, none⟩) v1.length cv) rows k w6 (.slice sa k sc) L) := hid (by rw [← hw6]; exact HI5.out.new (below_setRow (new_allocZ w5 (.cells zeroStep 66)) (Nat.le_refl _) _))
               clear hw6)
            | (refine wpList_buildTo rfl 29 #[] rfl (some 54) rfl #[.bool false, .slice none 0 0, .slice none 0 0, .slice none 0 0] (by exact built_proofZ) ?_)
            | (refine wpList_store_row rfl 29 (.tmp 2) (.tmp 54) rfl w.heap.size #[.bool false, .slice none 0 0, .slice none 0 0, .slice none 0 0] rfl rfl 29 #[.bool false, .slice none 0 0, .slice none 0 0, .slice none 0 0] HI6.out.res Tryd.infoProof rfl (one_fourZ _ _ _ _ _ _ _ _ _ _) ?_)
            | (refine bodyPost_ret (v := .tuple #[.agg #[.bool false, .slice none 0 0, .slice none 0 0, .slice none 0 0], .bool false]) (results_agg_tmp (p := 2) (u := 3) (ty := 29) rfl _ _ w.heap.size #[.bool false, .slice none 0 0, .slice none 0 0, .slice none 0 0] rfl (load_row_proof (setRow_heap _ _ _ _ _ _ HI6.out.res) rfl)) rfl (.inl ⟨HNO.out, rfl, below_setRow HI6.out.below (Nat.le_refl _) _⟩)))
        | some s =>
          have HSO := hid hso
          have hokS := stepOfZ_ok b s hso
          have HST := stepOf_on wr.heap.size _ b s wr (Nat.le_refl _) hsb hso
          have HIS := hid (isStep hokS)
          have HZL := hid (zc_length hokS)
          clear hsb hso
          go_wp2_with (first
            | (go_at_call 85; refine HST.mono ?_; clear HST; rintro e w5 ⟨rfl, hb5⟩
               have HI5 := hid (HI.out.new hb5)
               clear hb5)
            | (refine wpList_store_row rfl 66 (.tmp 7) (.tmp 50) rfl w5.heap.size (zc s).toArray rfl rfl 66 zeroStep (World.alloc_heap_new w5 _) HIS.out.info HIS.out.size HIS.out.one ?_
               generalize hw6 : World.setRow _ w5.heap.size (zc s).toArray = w6
               have hbs := box_step w5 s hokS (.cells zeroStep 66) rfl
               have HI6 : Hid (OfI w pb (.slice (some ⟨gk, 0, none⟩) k1.length ck) (.slice (some ⟨gv, 0, none⟩) v1.length cv) rows k w6 (.slice sa k sc) L) := hid (by rw [← hw6]; exact HI5.out.new hbs.2.1)
               have H6 : Hid (w6.heap[w5.heap.size]? = some (.cells (zc s).toArray 66 (0, 0))) := hid (by rw [← hw6]; exact hbs.1)
               have hc63 := (proof_cells HI6.out.box).2.2.2
               have hbA := new_allocZ w6 (.cells (zc s).toArray 66)
               have hnA := World.alloc_heap_new w6 (.cells (zc s).toArray 66)
               have hrow7 := (HI6.out.new hbA).row
               have hnews : ∀ (j : Nat) (u : Value), (zc s)[j]? = some u → (w6.alloc (.cells (zc s).toArray 66)).cell? ((⟨w6.heap.size, 0, none⟩ : Addr).add j) = some u := by have := World.news_of_block hnA; simpa using this
               have hbx7 := (HI6.out.new hbA).box
               have hbig7 : pb + 1 ≤ (w6.alloc (.cells (zc s).toArray 66)).heap.size := block_lt hbx7
               obtain ⟨i0, hi, hz0, hzz1, hzz2⟩ := info_parts Tryd.infoStep
               have HBA := hid hbA
               clear hw6 hbs hnA hbA)
            | (refine wpList_load_z rfl 66 (.tmp 7) rfl ⟨w5.heap.size, 0, none⟩ rfl (zc s).toArray (load_row_step H6.out HIS.out.info) ?_)
            | (refine wpList_slice_agg rfl 27 66 #[(0, .tmp 57)] rfl (zc s).toArray i0 _ (by kernel_rfl) Tryd.underlying27 hi hz0 (by rw [hzz1, List.size_toArray, HZL.out]) (by rw [List.size_toArray, HZL.out]; decide) (by rw [List.size_toArray, HZL.out]; decide) ?_)
            | (at_builtin; go_loud (refine wpList_append_lies _ rfl (.tmp 56) (.tmp 58) 27 rfl (pb + 1) 66 i0 _ 34 48 Tryd.underlying27 hi hz0 hzz1 hzz2 rfl (by decide) (.slice sa k sc) k (L.flatMap zc) rfl hrow7 ⟨w6.heap.size, 0, none⟩ 1 1 (zc s) rfl (by rw [HZL.out]) hnews (zc_one s) (by decide) (by unfold maxLen; omega) (by omega) hbig7 _ rfl ?_)
               intro g cap w8 hown8 hgrow8 hat8 hgl8
               have hlow7 : ∀ i, Value.ownBlock (.slice sa k sc) = some i → pb + 1 ≤ i := fun i hi => (hrow7.lt i hi).1
               have hbx8 : w8.heap[pb]? = some (.cells #[.bool false, .slice (some ⟨gk, 0, none⟩) k1.length ck, .slice (some ⟨gv, 0, none⟩) v1.length cv, .slice sa k sc] 29 (0, 0)) := (hgrow8.block _ hbig7 (fun e => by have := hlow7 _ e.symm; omega)).trans hbx7
               have hc83 := (proof_cells hbx8).2.2.2
               have hf83 : w8.frozen? ⟨pb, 3, none⟩ = false := by simp [World.frozen?, hbx8]
               have HNX := hid (of_step HI6.out HLT.out (by rw [HBG.out]; exact HSO.out) HBA.out hgrow8 hown8 hat8 rfl)
               clear hown8 hgrow8 hat8 hrow7 hnews hbx7 hbx8 hlow7))
          go_roundw
          case rel => exact ⟨k + 1, _, _, _, hlt, by go_num, HNX⟩
          case measure => simp [intOf]; omega
      · have hki : (m : Int) ≤ (k : Int) := by omega
        have HRL : Hid (stepsOfZ (rows.drop 3) = some L) := hid (by rw [HI.out.told, List.drop_eq_nil_of_le (by rw [HM.out]; omega)]; simp [stepsOfZ])
        go_wp2_with (first
          | (refine wpList_load_z rfl 29 (.tmp 4) rfl ⟨pb, 0, none⟩ rfl _ (load_row_proof HI.out.box rfl) ?_)
          | (refine wpList_store_row rfl 29 (.tmp 2) (.tmp 62) rfl w.heap.size #[.bool false, .slice (some ⟨gk, 0, none⟩) k1.length ck, .slice (some ⟨gv, 0, none⟩) v1.length cv, .slice sa k sc] rfl rfl 29 #[.bool false, .slice none 0 0, .slice none 0 0, .slice none 0 0] HI.out.res Tryd.infoProof rfl (one_fourZ _ _ _ _ _ _ _ _ _ _) ?_)
          | (refine bodyPost_ret (v := .tuple #[.agg #[.bool false, .slice (some ⟨gk, 0, none⟩) k1.length ck, .slice (some ⟨gv, 0, none⟩) v1.length cv, .slice sa k sc], .bool true]) (results_agg_tmp (p := 2) (u := 3) (ty := 29) rfl _ _ w.heap.size _ rfl (load_row_proof (setRow_heap _ _ _ _ _ _ HI.out.res) rfl)) rfl ?fin))
        case fin => exact of_fin HI.out HRL.out HK1.out HV1.out HOK.out HOV.out hB hapk
end Go.Proofs.YtmafaioohiaenaaDoor
