/- Contract of proof.ofRow. -/
import Derived.Test.YtmafaioohiaenaaDoorStepOf
namespace Go.Proofs.YtmafaioohiaenaaDoor
open Go.RowKit Go.Shelf
set_option linter.unusedVariables false
set_option linter.unusedSimpArgs false
set_option maxRecDepth 20000

/-- The steps whose blobs these are. -/
def stepsOfZ : List (List UInt8) → Option (List Zst)
  | [] => some []
  | b :: r => match stepOfZ b with
    | none => none
    | some s => (stepsOfZ r).map (s :: ·)

/-- The proof whose blobs these are. -/
def ofRowZ (rows : List (List UInt8)) : Option Prf :=
  if rows.length = 1 ∧ rows[0]?.getD [] = be (u64of 1) 8 then some ⟨true, [], [], []⟩
  else if rows.length < 3 ∨ rows[0]?.getD [] ≠ be (u64of 0) 8 then none
  else (stepsOfZ (rows.drop 3)).map fun st => ⟨false, rows[1]?.getD [], rows[2]?.getD [], st⟩

theorem stepsOfZ_ok : ∀ (rows : List (List UInt8)) (L : List Zst), stepsOfZ rows = some L → (∀ s ∈ L, ZOk s) ∧ L.length = rows.length
  | [], L, h => by cases h; exact ⟨fun s hs => (by cases hs), rfl⟩
  | b :: r, L, h => by
    simp only [stepsOfZ] at h
    cases hb : stepOfZ b with
    | none => rw [hb] at h; cases h
    | some s =>
      rw [hb] at h
      simp only [Option.map_eq_some_iff] at h
      obtain ⟨l, hl, rfl⟩ := h
      obtain ⟨h1, h2⟩ := stepsOfZ_ok r l hl
      refine ⟨fun x hx => ?_, by simp [h2]⟩
      rcases List.mem_cons.1 hx with rfl | hx
      · exact stepOfZ_ok b x hb
      · exact h1 x hx

theorem wpList_slice_agg {ops : Array Oper} {rest : List Oper} {o : Oper} {a : Act} {w : World} {Q : Exit → Act → World → Prop} {P : Program} (hg : o.guard = none) (t e : TypeId) (parts : Array (Nat × Operand)) (ho : o.op = .buildSlice t 1 parts)
    (cells : Array Value) (ie : TypeInfo) (z : Value) (ep : (parts.map fun (i, x) => (i, a.eval x)).toList = [(0, .agg cells)])
    (hu : P.underlying t = some (.slice e)) (hie : P.info? e = some ie) (hz : ie.zero = some z) (hzs : ie.size = cells.size) (hsmall : cells.size ≤ 2 ^ 24) (hpos : 0 < cells.size)
    (h : wpList P ops Q rest (a.put o.dst (.slice (some ⟨w.heap.size, 0, none⟩) 1 1)) (w.alloc (.cells cells e))) : wpList P ops Q (o :: rest) a w :=
  wpList_plain hg fun _ hK => wp_value_of (by
    unfold execOp
    simp only [ho]
    rw [Sem.run_bind, run_buildSlice w t e 1 _ cells ie z hu hie hz (by rw [hzs]; omega) (by rw [hzs]; omega) (by
      rw [ep, hzs]
      have := Go.Great.fill_whole (s := cells.size) hpos [.agg cells] ((Array.range (1 * cells.size)).map (z.cells[· % z.cells.size]!)) (by simp [Value.cells]) (by simp)
      simpa [Value.cells] using this)]
    rfl) (hK _ _ h)

theorem load_row_proof {w : World} {g : Nat} {A : Array Value} (hg : w.heap[g]? = some (.cells A 29 (0, 0))) (hi : A.size = 4) : (loadVar 29 ⟨g, 0, none⟩).run Tryd.prog w = .ok (.agg A) w :=
  run_loadVar_row (P := Tryd.prog) w g 29 29 A (0, 0) _ hg Tryd.underlying29 rfl (by rw [hi]; exact Tryd.infoProof)

theorem built_proofT : Tryd.prog.built 29 [(0, .bool true)] = some #[.bool true, .slice none 0 0, .slice none 0 0, .slice none 0 0] := by kernel_rfl
theorem built_proofZ : Tryd.prog.built 29 [] = some #[.bool false, .slice none 0 0, .slice none 0 0, .slice none 0 0] := by kernel_rfl

theorem one_fourZ (b : Bool) (a1 a2 a3 : Option Addr) (n1 n2 n3 c1 c2 c3 : Nat) : (#[Value.bool b, .slice a1 n1 c1, .slice a2 n2 c2, .slice a3 n3 c3] : Array Value).all (·.oneCell') = true := by simp [Value.oneCell']

/-- A proof all of whose memory lies from B on. -/
structure POwn (B : Nat) (w : World) (p : Prf) (kv vv sv : Value) : Prop where
  k : Copy B w kv p.k
  v : Copy B w vv p.v
  s : w.ownsRow B 66 34 sv p.st.length (p.st.flatMap zc)
  ok : ∀ s ∈ p.st, ZOk s
  ap : ∀ g, kv.ownBlock = some g → vv.ownBlock ≠ some g

theorem POwn.at {B : Nat} {w : World} {p : Prf} {kv vv sv : Value} (h : POwn B w p kv vv sv) : PAt w.heap.size w p kv vv sv := ⟨(shows_of_owns h.k).2, (shows_of_owns h.v).2, stps_of_row h.s h.ok⟩

theorem POwn.spares {S : Nat → Prop} {B : Nat} {w w' : World} {p : Prf} {kv vv sv : Value} (h : POwn B w p kv vv sv) (hs : Spares S w w') (hS : ∀ i, S i → i < B) : POwn B w' p kv vv sv :=
  ⟨hs.row h.k (fun g hg e => by have h1 := (h.k.lt g hg).1; have h2 := hS g e; omega), hs.row h.v (fun g hg e => by have h1 := (h.v.lt g hg).1; have h2 := hS g e; omega), hs.row h.s (fun g hg e => by have h1 := (h.s.lt g hg).1; have h2 := hS g e; omega), h.ok, h.ap⟩

theorem POwn.new {B : Nat} {w w' : World} {p : Prf} {kv vv sv : Value} (h : POwn B w p kv vv sv) (hb : Below w.heap.size w w') : POwn B w' p kv vv sv := h.spares (Spares.of_new (S := fun _ => False) hb) (fun i hi => hi.elim)

theorem POwn.lower {B B' : Nat} {w : World} {p : Prf} {kv vv sv : Value} (h : POwn B w p kv vv sv) (hB : B' ≤ B) : POwn B' w p kv vv sv :=
  ⟨owns_lower h.k (fun g hg => Nat.le_trans hB (h.k.lt g hg).1), owns_lower h.v (fun g hg => Nat.le_trans hB (h.v.lt g hg).1), owns_lower h.s (fun g hg => Nat.le_trans hB (h.s.lt g hg).1), h.ok, h.ap⟩

theorem rows_cell {w : World} {B n gr cap : Nat} {vs : List Value} {rows : List (List UInt8)} (hrow : w.ownsRow B 24 1 (.slice (some ⟨gr, 0, none⟩) n cap) n vs) (hown : RowsOwn w B vs rows) (hn : rows.length = n) (j : Nat) (r : List UInt8) (hr : rows[j]? = some r) :
    ∃ ga ca, w.cell? ⟨gr, j, none⟩ = some (.slice (some ⟨ga, 0, none⟩) r.length ca) ∧ vs[j]? = some (.slice (some ⟨ga, 0, none⟩) r.length ca) ∧ w.ownsRow B 5 1 (.slice (some ⟨ga, 0, none⟩) r.length ca) r.length (r.map by8) := by
  have hj := (List.getElem?_eq_some_iff.1 hr).1
  obtain ⟨u, hu⟩ : ∃ u, vs[j]? = some u := ⟨_, List.getElem?_eq_getElem (by rw [hown.len]; exact hj)⟩
  obtain ⟨ho, ga, ca, rfl⟩ := hown.own j u r hu hr
  exact ⟨ga, ca, (hrow.cellAt j (by omega)).trans hu, hu, ho⟩

set_option maxHeartbeats 4000000 in
theorem ofRow_few (B : Nat) (rv : Value) (rows : List (List UInt8)) (w : World) (hB : B ≤ w.heap.size) (hR : RowsAt w B rv rows) (h1 : rows.length ≠ 1) (h3 : rows.length < 3) :
    Calls Tryd.prog 58 #[rv] w fun e w' => e = .returned (.tuple #[.agg #[.bool false, .slice none 0 0, .slice none 0 0, .slice none 0 0], .bool false]) ∧ Below w.heap.size w w' := by
  obtain ⟨vs, hrow, hown⟩ := hR
  obtain ⟨ra, rc, rfl⟩ := row_form hrow
  have hnew := World.alloc_heap_new w (.cells #[.bool false, .slice none 0 0, .slice none 0 0, .slice none 0 0] 29)
  have hbn : Below w.heap.size w (w.alloc (.cells #[.bool false, .slice none 0 0, .slice none 0 0, .slice none 0 0] 29)) := new_allocZ _ _
  have hsn : (w.alloc (.cells #[.bool false, .slice none 0 0, .slice none 0 0, .slice none 0 0] 29)).heap.size = w.heap.size + 1 := World.size_alloc _ _
  have hn1 : ((rows.length : Int) == 1) = false := by rw [beq_eq_false_iff_ne]; omega
  have hn3 : (rows.length : Int) < 3 := by omega
  clear hrow hown
  go_enter Tryd.func58, Tryd.ntmps58
  go_wp2_with fail
  obtain ⟨w0, hw0⟩ : ∃ w0, w.alloc (.cells #[.bool false, .slice none 0 0, .slice none 0 0, .slice none 0 0] 29) = w0 := ⟨_, rfl⟩
  rw [hw0] at hnew hbn hsn ⊢
  refine last_region (fun W' : World => True) 9 (by kernel_rfl) ?_
  have hS0 : True := trivial
  refine wpAnyE_take (i := 0) (v := ?_) rfl (by kernel_rfl) (by kernel_rfl) (by kernel_rfl) (by kernel_rfl) (by kernel_rfl) (fun _ _ _ h => h) (Or.inl ⟨by rfl, ?_⟩) (by assumption) ?_; rotate_left; (focus (intro w hSw; (try dsimp only at hSw); (try obtain ⟨hSw1, hSw2, hSw3⟩ := hSw); go_simp <;> with_reducible rfl)); (try simp only [Act.put, List.getElem_toArray, List.getElem_cons_zero, List.getElem_cons_succ, List.setIfInBounds_toArray, List.set_cons_zero, List.set_cons_succ])
  refine wpAnyE_take (i := 1) (v := ?_) rfl (by kernel_rfl) (by kernel_rfl) (by kernel_rfl) (by kernel_rfl) (by kernel_rfl) (fun _ _ _ h => h) (Or.inl ⟨by rfl, ?_⟩) (by assumption) ?_; rotate_left; (focus (intro w hSw; (try dsimp only at hSw); (try obtain ⟨hSw1, hSw2, hSw3⟩ := hSw); go_simp <;> with_reducible rfl)); (try simp only [Act.put, List.getElem_toArray, List.getElem_cons_zero, List.getElem_cons_succ, List.setIfInBounds_toArray, List.set_cons_zero, List.set_cons_succ])
  refine wpAnyE_take (i := 2) (v := .bool false) rfl (by kernel_rfl) (by kernel_rfl) (by kernel_rfl) (by kernel_rfl) (by kernel_rfl) (fun _ _ _ h => h) (Or.inl ⟨by rfl, fun W _ => by go_simp <;> simp [hn1]⟩) trivial ?_
  simp only [Act.put, List.getElem_toArray, List.getElem_cons_zero, List.getElem_cons_succ, List.setIfInBounds_toArray, List.set_cons_zero, List.set_cons_succ]
  refine wpAnyE_take (i := 3) (v := ?_) rfl (by kernel_rfl) (by kernel_rfl) (by kernel_rfl) (by kernel_rfl) (by kernel_rfl) (fun _ _ _ h => h) (Or.inl ⟨by rfl, ?_⟩) (by assumption) ?_; rotate_left; (focus (intro w hSw; (try dsimp only at hSw); (try obtain ⟨hSw1, hSw2, hSw3⟩ := hSw); go_simp <;> with_reducible rfl)); (try simp only [Act.put, List.getElem_toArray, List.getElem_cons_zero, List.getElem_cons_succ, List.setIfInBounds_toArray, List.set_cons_zero, List.set_cons_succ])
  refine wpAnyE_take (i := 4) (v := undef) rfl (by kernel_rfl) (by kernel_rfl) (by kernel_rfl) (by kernel_rfl) (by kernel_rfl) (fun _ _ _ h => h) (Or.inr ⟨by rfl, rfl⟩) (by assumption) ?_; (try simp only [Act.put, List.getElem_toArray, List.getElem_cons_zero, List.getElem_cons_succ, List.setIfInBounds_toArray, List.set_cons_zero, List.set_cons_succ])
  refine wpAnyE_take (i := 5) (v := undef) rfl (by kernel_rfl) (by kernel_rfl) (by kernel_rfl) (by kernel_rfl) (by kernel_rfl) (fun _ _ _ h => h) (Or.inr ⟨by rfl, rfl⟩) (by assumption) ?_; (try simp only [Act.put, List.getElem_toArray, List.getElem_cons_zero, List.getElem_cons_succ, List.setIfInBounds_toArray, List.set_cons_zero, List.set_cons_succ])
  refine wpAnyE_take (i := 6) (v := undef) rfl (by kernel_rfl) (by kernel_rfl) (by kernel_rfl) (by kernel_rfl) (by kernel_rfl) (fun _ _ _ h => h) (Or.inr ⟨by rfl, rfl⟩) (by assumption) ?_; (try simp only [Act.put, List.getElem_toArray, List.getElem_cons_zero, List.getElem_cons_succ, List.setIfInBounds_toArray, List.set_cons_zero, List.set_cons_succ])
  refine takeE_skip (i := 7) (by kernel_rfl) rfl (by rfl) trivial ?_
  simp only [Act.put, List.getElem_toArray, List.getElem_cons_zero, List.getElem_cons_succ, List.setIfInBounds_toArray, List.set_cons_zero, List.set_cons_succ]
  refine takeE_skip (i := 8) (by kernel_rfl) rfl (by rfl) trivial ?_
  simp only [Act.put, List.getElem_toArray, List.getElem_cons_zero, List.getElem_cons_succ, List.setIfInBounds_toArray, List.set_cons_zero, List.set_cons_succ]
  refine takeE_value (i := 9) (v := .bool false) (by kernel_rfl) rfl rfl (by rfl) trivial ?_
  simp only [Act.put, List.getElem_toArray, List.getElem_cons_zero, List.getElem_cons_succ, List.setIfInBounds_toArray, List.set_cons_zero, List.set_cons_succ]
  refine wpAnyE_done (by kernel_rfl) ?_ _
  simp only [only_normal]
  have H0 : Hid (w0.drew.heap[w.heap.size]? = some (.cells #[.bool false, .slice none 0 0, .slice none 0 0, .slice none 0 0] 29 (0, 0))) := hid hnew
  have HB0 : Hid (Below w.heap.size w w0.drew) := hid (hbn.trans (below_drewN _ _ 1))
  generalize w0.drew = w1 at *
  clear hnew hbn hsn hw0
  go_wp2_with fail
  refine last_region (fun W' : World => True) 10 (by kernel_rfl) ?_
  have hS0' : True := trivial
  refine wpAnyE_take (i := 0) (v := ?_) rfl (by kernel_rfl) (by kernel_rfl) (by kernel_rfl) (by kernel_rfl) (by kernel_rfl) (fun _ _ _ h => h) (Or.inl ⟨by rfl, ?_⟩) (by assumption) ?_; rotate_left; (focus (intro w hSw; (try dsimp only at hSw); (try obtain ⟨hSw1, hSw2, hSw3⟩ := hSw); go_simp <;> with_reducible rfl)); (try simp only [Act.put, List.getElem_toArray, List.getElem_cons_zero, List.getElem_cons_succ, List.setIfInBounds_toArray, List.set_cons_zero, List.set_cons_succ])
  refine wpAnyE_take (i := 1) (v := ?_) rfl (by kernel_rfl) (by kernel_rfl) (by kernel_rfl) (by kernel_rfl) (by kernel_rfl) (fun _ _ _ h => h) (Or.inl ⟨by rfl, ?_⟩) (by assumption) ?_; rotate_left; (focus (intro w hSw; (try dsimp only at hSw); (try obtain ⟨hSw1, hSw2, hSw3⟩ := hSw); go_simp <;> with_reducible rfl)); (try simp only [Act.put, List.getElem_toArray, List.getElem_cons_zero, List.getElem_cons_succ, List.setIfInBounds_toArray, List.set_cons_zero, List.set_cons_succ])
  refine wpAnyE_take (i := 2) (v := .bool true) rfl (by kernel_rfl) (by kernel_rfl) (by kernel_rfl) (by kernel_rfl) (by kernel_rfl) (fun _ _ _ h => h) (Or.inl ⟨by rfl, fun W _ => by go_simp <;> simp [hn3]⟩) trivial ?_
  simp only [Act.put, List.getElem_toArray, List.getElem_cons_zero, List.getElem_cons_succ, List.setIfInBounds_toArray, List.set_cons_zero, List.set_cons_succ]
  refine wpAnyE_take (i := 3) (v := ?_) rfl (by kernel_rfl) (by kernel_rfl) (by kernel_rfl) (by kernel_rfl) (by kernel_rfl) (fun _ _ _ h => h) (Or.inl ⟨by rfl, ?_⟩) (by assumption) ?_; rotate_left; (focus (intro w hSw; (try dsimp only at hSw); (try obtain ⟨hSw1, hSw2, hSw3⟩ := hSw); go_simp <;> with_reducible rfl)); (try simp only [Act.put, List.getElem_toArray, List.getElem_cons_zero, List.getElem_cons_succ, List.setIfInBounds_toArray, List.set_cons_zero, List.set_cons_succ])
  refine wpAnyE_take (i := 4) (v := undef) rfl (by kernel_rfl) (by kernel_rfl) (by kernel_rfl) (by kernel_rfl) (by kernel_rfl) (fun _ _ _ h => h) (Or.inr ⟨by rfl, rfl⟩) (by assumption) ?_; (try simp only [Act.put, List.getElem_toArray, List.getElem_cons_zero, List.getElem_cons_succ, List.setIfInBounds_toArray, List.set_cons_zero, List.set_cons_succ])
  refine wpAnyE_take (i := 5) (v := undef) rfl (by kernel_rfl) (by kernel_rfl) (by kernel_rfl) (by kernel_rfl) (by kernel_rfl) (fun _ _ _ h => h) (Or.inr ⟨by rfl, rfl⟩) (by assumption) ?_; (try simp only [Act.put, List.getElem_toArray, List.getElem_cons_zero, List.getElem_cons_succ, List.setIfInBounds_toArray, List.set_cons_zero, List.set_cons_succ])
  refine wpAnyE_take (i := 6) (v := undef) rfl (by kernel_rfl) (by kernel_rfl) (by kernel_rfl) (by kernel_rfl) (by kernel_rfl) (fun _ _ _ h => h) (Or.inr ⟨by rfl, rfl⟩) (by assumption) ?_; (try simp only [Act.put, List.getElem_toArray, List.getElem_cons_zero, List.getElem_cons_succ, List.setIfInBounds_toArray, List.set_cons_zero, List.set_cons_succ])
  refine takeE_skip (i := 7) (by kernel_rfl) rfl (by rfl) trivial ?_
  simp only [Act.put, List.getElem_toArray, List.getElem_cons_zero, List.getElem_cons_succ, List.setIfInBounds_toArray, List.set_cons_zero, List.set_cons_succ]
  refine takeE_skip (i := 8) (by kernel_rfl) rfl (by rfl) trivial ?_
  simp only [Act.put, List.getElem_toArray, List.getElem_cons_zero, List.getElem_cons_succ, List.setIfInBounds_toArray, List.set_cons_zero, List.set_cons_succ]
  refine wpAnyE_take (i := 9) (v := undef) rfl (by kernel_rfl) (by kernel_rfl) (by kernel_rfl) (by kernel_rfl) (by kernel_rfl) (fun _ _ _ h => h) (Or.inr ⟨by rfl, rfl⟩) (by assumption) ?_; (try simp only [Act.put, List.getElem_toArray, List.getElem_cons_zero, List.getElem_cons_succ, List.setIfInBounds_toArray, List.set_cons_zero, List.set_cons_succ])
  refine takeE_value (i := 10) (v := .bool true) (by kernel_rfl) rfl rfl (by rfl) trivial ?_
  simp only [Act.put, List.getElem_toArray, List.getElem_cons_zero, List.getElem_cons_succ, List.setIfInBounds_toArray, List.set_cons_zero, List.set_cons_succ]
  refine wpAnyE_done (by kernel_rfl) ?_ _
  simp only [only_normal]
  have H1 : Hid (w1.drew.heap[w.heap.size]? = some (.cells #[.bool false, .slice none 0 0, .slice none 0 0, .slice none 0 0] 29 (0, 0))) := hid H0.out
  have HB1 : Hid (Below w.heap.size w w1.drew) := hid (HB0.out.trans (below_drewN _ _ 1))
  generalize w1.drew = w2 at *
  go_wp2_with (first
    | (refine wpList_buildTo rfl 29 #[] rfl (some 31) rfl #[.bool false, .slice none 0 0, .slice none 0 0, .slice none 0 0] (by exact built_proofZ) ?_)
    | (refine wpList_store_row rfl 29 (.tmp 2) (.tmp 31) rfl w.heap.size #[.bool false, .slice none 0 0, .slice none 0 0, .slice none 0 0] rfl rfl 29 #[.bool false, .slice none 0 0, .slice none 0 0, .slice none 0 0] H1.out Tryd.infoProof rfl (one_fourZ _ _ _ _ _ _ _ _ _ _) ?_)
    | (refine bodyPost_ret (v := .tuple #[.agg #[.bool false, .slice none 0 0, .slice none 0 0, .slice none 0 0], .bool false]) (results_agg_tmp (p := 2) (u := 3) (ty := 29) rfl _ _ w.heap.size #[.bool false, .slice none 0 0, .slice none 0 0, .slice none 0 0] rfl (load_row_proof (setRow_heap _ _ _ _ _ _ H1.out) rfl)) rfl ⟨rfl, below_setRow HB1.out (Nat.le_refl _) _⟩))

set_option maxHeartbeats 4000000 in
theorem ofRow_odd (B : Nat) (rv : Value) (rows : List (List UInt8)) (w : World) (hB : B ≤ w.heap.size) (hR : RowsAt w B rv rows) (h1 : rows.length = 1) (r : List UInt8) (hr : rows[0]? = some r) (hne : r ≠ be (u64of 1) 8) :
    Calls Tryd.prog 58 #[rv] w fun e w' => e = .returned (.tuple #[.agg #[.bool false, .slice none 0 0, .slice none 0 0, .slice none 0 0], .bool false]) ∧ Below w.heap.size w w' := by
  obtain ⟨vs, hrow, hown⟩ := hR
  obtain ⟨ra, rc, rfl⟩ := row_form hrow
  have hnew := World.alloc_heap_new w (.cells #[.bool false, .slice none 0 0, .slice none 0 0, .slice none 0 0] 29)
  have hbn : Below w.heap.size w (w.alloc (.cells #[.bool false, .slice none 0 0, .slice none 0 0, .slice none 0 0] 29)) := new_allocZ _ _
  have hsn : (w.alloc (.cells #[.bool false, .slice none 0 0, .slice none 0 0, .slice none 0 0] 29)).heap.size = w.heap.size + 1 := World.size_alloc _ _
  obtain ⟨gr, rfl⟩ : ∃ gr, ra = some ⟨gr, 0, none⟩ := by
    obtain ⟨g, cap, e, _⟩ := hrow.form (by omega)
    simp only [Value.slice.injEq] at e
    exact ⟨g, e.1⟩
  obtain ⟨ga, ca, hcell0, hvs0, hro0⟩ := rows_cell hrow hown rfl 0 r hr
  rw [h1]
  clear hrow hown
  go_enter Tryd.func58, Tryd.ntmps58
  go_wp2_with fail
  obtain ⟨w0, hw0⟩ : ∃ w0, w.alloc (.cells #[.bool false, .slice none 0 0, .slice none 0 0, .slice none 0 0] 29) = w0 := ⟨_, rfl⟩
  rw [hw0] at hnew hbn hsn ⊢
  have hcell : w0.cell? ⟨gr, 0, none⟩ = some (.slice (some ⟨ga, 0, none⟩) r.length ca) := (hbn.cell (p := ⟨gr, 0, none⟩) (World.block_lt_of_cell? _ _ hcell0)).trans hcell0
  have hro := ownsRow_below hro0 hbn
  have hS0 : (fun W' : World => W'.cell? ⟨gr, 0, none⟩ = some (.slice (some ⟨ga, 0, none⟩) r.length ca)) w0.drew := hcell
  refine last_region (fun W' : World => W'.cell? ⟨gr, 0, none⟩ = some (.slice (some ⟨ga, 0, none⟩) r.length ca)) 9 (by kernel_rfl) ?_
  refine wpAnyE_take (i := 0) (v := ?_) rfl (by kernel_rfl) (by kernel_rfl) (by kernel_rfl) (by kernel_rfl) (by kernel_rfl) (fun _ _ _ h => h) (Or.inl ⟨by rfl, ?_⟩) (by assumption) ?_; rotate_left; (focus (intro w hSw; (try dsimp only at hSw); (try obtain ⟨hSw1, hSw2, hSw3⟩ := hSw); go_simp <;> with_reducible rfl)); (try simp only [Act.put, List.getElem_toArray, List.getElem_cons_zero, List.getElem_cons_succ, List.setIfInBounds_toArray, List.set_cons_zero, List.set_cons_succ])
  refine wpAnyE_take (i := 1) (v := ?_) rfl (by kernel_rfl) (by kernel_rfl) (by kernel_rfl) (by kernel_rfl) (by kernel_rfl) (fun _ _ _ h => h) (Or.inl ⟨by rfl, ?_⟩) (by assumption) ?_; rotate_left; (focus (intro w hSw; (try dsimp only at hSw); (try obtain ⟨hSw1, hSw2, hSw3⟩ := hSw); go_simp <;> with_reducible rfl)); (try simp only [Act.put, List.getElem_toArray, List.getElem_cons_zero, List.getElem_cons_succ, List.setIfInBounds_toArray, List.set_cons_zero, List.set_cons_succ])
  refine wpAnyE_take (i := 2) (v := ?_) rfl (by kernel_rfl) (by kernel_rfl) (by kernel_rfl) (by kernel_rfl) (by kernel_rfl) (fun _ _ _ h => h) (Or.inl ⟨by rfl, ?_⟩) (by assumption) ?_; rotate_left; (focus (intro w hSw; (try dsimp only at hSw); (try obtain ⟨hSw1, hSw2, hSw3⟩ := hSw); go_simp <;> with_reducible rfl)); (try simp only [Act.put, List.getElem_toArray, List.getElem_cons_zero, List.getElem_cons_succ, List.setIfInBounds_toArray, List.set_cons_zero, List.set_cons_succ])
  refine wpAnyE_take (i := 3) (v := ?_) rfl (by kernel_rfl) (by kernel_rfl) (by kernel_rfl) (by kernel_rfl) (by kernel_rfl) (fun _ _ _ h => h) (Or.inl ⟨by rfl, ?_⟩) (by assumption) ?_; rotate_left; (focus (intro w hSw; (try dsimp only at hSw); (try obtain ⟨hSw1, hSw2, hSw3⟩ := hSw); go_simp <;> with_reducible rfl)); (try simp only [Act.put, List.getElem_toArray, List.getElem_cons_zero, List.getElem_cons_succ, List.setIfInBounds_toArray, List.set_cons_zero, List.set_cons_succ])
  refine wpAnyE_take (i := 4) (v := ?_) rfl (by kernel_rfl) (by kernel_rfl) (by kernel_rfl) (by kernel_rfl) (by kernel_rfl) (fun _ _ _ h => h) (Or.inl ⟨by rfl, ?_⟩) (by assumption) ?_; rotate_left; (focus (intro w hSw; (try dsimp only at hSw); (try obtain ⟨hSw1, hSw2, hSw3⟩ := hSw); go_simp <;> with_reducible rfl)); (try simp only [Act.put, List.getElem_toArray, List.getElem_cons_zero, List.getElem_cons_succ, List.setIfInBounds_toArray, List.set_cons_zero, List.set_cons_succ])
  refine wpAnyE_take (i := 5) (v := ?_) rfl (by kernel_rfl) (by kernel_rfl) (by kernel_rfl) (by kernel_rfl) (by kernel_rfl) (fun _ _ _ h => h) (Or.inl ⟨by rfl, ?_⟩) (by assumption) ?_; rotate_left; (focus (intro w hSw; (try dsimp only at hSw); (try obtain ⟨hSw1, hSw2, hSw3⟩ := hSw); go_simp <;> with_reducible rfl)); (try simp only [Act.put, List.getElem_toArray, List.getElem_cons_zero, List.getElem_cons_succ, List.setIfInBounds_toArray, List.set_cons_zero, List.set_cons_succ])
  refine wpAnyE_take (i := 6) (v := .slice (some ⟨ga, 0, none⟩) r.length ca) rfl (by kernel_rfl) (by kernel_rfl) (by kernel_rfl) (by kernel_rfl) (by kernel_rfl) (fun _ _ _ h => h) (yields_val 24 (.tmp 14) rfl ⟨gr, 0, none⟩ (by kernel_rfl) _ (by rfl) (fun W hW => run_load_slice W 24 _ Tryd.underlying24 ⟨gr, 0, none⟩ _ hW)) hS0 ?_
  simp only [Act.put, List.getElem_toArray, List.getElem_cons_zero, List.getElem_cons_succ, List.setIfInBounds_toArray, List.set_cons_zero, List.set_cons_succ]
  refine takeE_callw (i := 7) #[.int .i64 1] (fun u w' => ∃ an cn, u = .slice an 8 cn ∧ w'.ownsRow w0.heap.size 5 1 (.slice an 8 cn) 8 ((be (u64of 1) 8).map by8) ∧ Below w0.heap.size w0 w') (by kernel_rfl) rfl (by rfl) rfl (by kernel_rfl) (enters_of Tryd.func55 (by kernel_rfl) rfl) ((num_any 1 w0.drew).mono fun e w' ⟨v', h1, h2, h3⟩ => by
    obtain ⟨an, cn, rfl⟩ := row_form h2
    exact ⟨_, h1, an, cn, rfl, h2, (below_drewN _ _ 1).trans h3⟩) ?_
  rintro _ w2 ⟨an, cn, rfl, hon, hb2⟩
  have hS2 : (fun W' : World => W'.cell? ⟨gr, 0, none⟩ = some (.slice (some ⟨ga, 0, none⟩) r.length ca)) w2 := (hb2.cell (p := ⟨gr, 0, none⟩) (World.block_lt_of_cell? _ _ hcell)).trans hcell
  refine ⟨hS2, ?_⟩
  simp only [Act.put, List.getElem_toArray, List.getElem_cons_zero, List.getElem_cons_succ, List.setIfInBounds_toArray, List.set_cons_zero, List.set_cons_succ]
  have hsay2 : Says w2 (.slice an 8 cn) (be (u64of 1) 8) := (shows_of_owns hon).2
  have HE := equal_any _ _ (.slice (some ⟨ga, 0, none⟩) r.length ca) (.slice an 8 cn) r (be (u64of 1) 8) w2 ((shows_of_owns hro).2.below hb2) hsay2
  rw [decide_eq_false hne] at HE
  refine takeE_callw (i := 8) #[.slice (some ⟨ga, 0, none⟩) r.length ca, .slice an 8 cn] (fun u w' => u = .bool false ∧ w2 = w') (by kernel_rfl) rfl (by rfl) rfl (by kernel_rfl) (enters_of Tryd.func50 (by kernel_rfl) rfl) (HE.mono fun e w' ⟨h1, h2⟩ => ⟨_, h1, rfl, h2.symm⟩) ?_
  rintro _ _ ⟨rfl, rfl⟩
  refine ⟨hS2, ?_⟩
  simp only [Act.put, List.getElem_toArray, List.getElem_cons_zero, List.getElem_cons_succ, List.setIfInBounds_toArray, List.set_cons_zero, List.set_cons_succ]
  refine takeE_value (i := 9) (v := .bool false) (by kernel_rfl) rfl rfl (by rfl) hS2 ?_
  simp only [Act.put, List.getElem_toArray, List.getElem_cons_zero, List.getElem_cons_succ, List.setIfInBounds_toArray, List.set_cons_zero, List.set_cons_succ]
  refine wpAnyE_done (by kernel_rfl) ?_ _
  simp only [only_normal]
  have H0 : Hid (w2.heap[w.heap.size]? = some (.cells #[.bool false, .slice none 0 0, .slice none 0 0, .slice none 0 0] 29 (0, 0))) := hid ((hb2.block _ (by omega)).trans hnew)
  have HB0 : Hid (Below w.heap.size w w2) := hid (hbn.trans (hb2.mono (by omega)))
  clear hnew hbn hsn hw0 HE hS0 hS2 hsay2 hon hb2 hcell hro
  go_wp2_with fail
  refine last_region (fun W' : World => True) 10 (by kernel_rfl) ?_
  have hS0' : True := trivial
  refine wpAnyE_take (i := 0) (v := ?_) rfl (by kernel_rfl) (by kernel_rfl) (by kernel_rfl) (by kernel_rfl) (by kernel_rfl) (fun _ _ _ h => h) (Or.inl ⟨by rfl, ?_⟩) (by assumption) ?_; rotate_left; (focus (intro w hSw; (try dsimp only at hSw); (try obtain ⟨hSw1, hSw2, hSw3⟩ := hSw); go_simp <;> with_reducible rfl)); (try simp only [Act.put, List.getElem_toArray, List.getElem_cons_zero, List.getElem_cons_succ, List.setIfInBounds_toArray, List.set_cons_zero, List.set_cons_succ])
  refine wpAnyE_take (i := 1) (v := ?_) rfl (by kernel_rfl) (by kernel_rfl) (by kernel_rfl) (by kernel_rfl) (by kernel_rfl) (fun _ _ _ h => h) (Or.inl ⟨by rfl, ?_⟩) (by assumption) ?_; rotate_left; (focus (intro w hSw; (try dsimp only at hSw); (try obtain ⟨hSw1, hSw2, hSw3⟩ := hSw); go_simp <;> with_reducible rfl)); (try simp only [Act.put, List.getElem_toArray, List.getElem_cons_zero, List.getElem_cons_succ, List.setIfInBounds_toArray, List.set_cons_zero, List.set_cons_succ])
  refine wpAnyE_take (i := 2) (v := .bool true) rfl (by kernel_rfl) (by kernel_rfl) (by kernel_rfl) (by kernel_rfl) (by kernel_rfl) (fun _ _ _ h => h) (Or.inl ⟨by rfl, fun W _ => by go_simp <;> rfl⟩) trivial ?_
  simp only [Act.put, List.getElem_toArray, List.getElem_cons_zero, List.getElem_cons_succ, List.setIfInBounds_toArray, List.set_cons_zero, List.set_cons_succ]
  refine wpAnyE_take (i := 3) (v := ?_) rfl (by kernel_rfl) (by kernel_rfl) (by kernel_rfl) (by kernel_rfl) (by kernel_rfl) (fun _ _ _ h => h) (Or.inl ⟨by rfl, ?_⟩) (by assumption) ?_; rotate_left; (focus (intro w hSw; (try dsimp only at hSw); (try obtain ⟨hSw1, hSw2, hSw3⟩ := hSw); go_simp <;> with_reducible rfl)); (try simp only [Act.put, List.getElem_toArray, List.getElem_cons_zero, List.getElem_cons_succ, List.setIfInBounds_toArray, List.set_cons_zero, List.set_cons_succ])
  refine wpAnyE_take (i := 4) (v := undef) rfl (by kernel_rfl) (by kernel_rfl) (by kernel_rfl) (by kernel_rfl) (by kernel_rfl) (fun _ _ _ h => h) (Or.inr ⟨by rfl, rfl⟩) (by assumption) ?_; (try simp only [Act.put, List.getElem_toArray, List.getElem_cons_zero, List.getElem_cons_succ, List.setIfInBounds_toArray, List.set_cons_zero, List.set_cons_succ])
  refine wpAnyE_take (i := 5) (v := undef) rfl (by kernel_rfl) (by kernel_rfl) (by kernel_rfl) (by kernel_rfl) (by kernel_rfl) (fun _ _ _ h => h) (Or.inr ⟨by rfl, rfl⟩) (by assumption) ?_; (try simp only [Act.put, List.getElem_toArray, List.getElem_cons_zero, List.getElem_cons_succ, List.setIfInBounds_toArray, List.set_cons_zero, List.set_cons_succ])
  refine wpAnyE_take (i := 6) (v := undef) rfl (by kernel_rfl) (by kernel_rfl) (by kernel_rfl) (by kernel_rfl) (by kernel_rfl) (fun _ _ _ h => h) (Or.inr ⟨by rfl, rfl⟩) (by assumption) ?_; (try simp only [Act.put, List.getElem_toArray, List.getElem_cons_zero, List.getElem_cons_succ, List.setIfInBounds_toArray, List.set_cons_zero, List.set_cons_succ])
  refine takeE_skip (i := 7) (by kernel_rfl) rfl (by rfl) trivial ?_
  simp only [Act.put, List.getElem_toArray, List.getElem_cons_zero, List.getElem_cons_succ, List.setIfInBounds_toArray, List.set_cons_zero, List.set_cons_succ]
  refine takeE_skip (i := 8) (by kernel_rfl) rfl (by rfl) trivial ?_
  simp only [Act.put, List.getElem_toArray, List.getElem_cons_zero, List.getElem_cons_succ, List.setIfInBounds_toArray, List.set_cons_zero, List.set_cons_succ]
  refine wpAnyE_take (i := 9) (v := undef) rfl (by kernel_rfl) (by kernel_rfl) (by kernel_rfl) (by kernel_rfl) (by kernel_rfl) (fun _ _ _ h => h) (Or.inr ⟨by rfl, rfl⟩) (by assumption) ?_; (try simp only [Act.put, List.getElem_toArray, List.getElem_cons_zero, List.getElem_cons_succ, List.setIfInBounds_toArray, List.set_cons_zero, List.set_cons_succ])
  refine takeE_value (i := 10) (v := .bool true) (by kernel_rfl) rfl rfl (by rfl) trivial ?_
  simp only [Act.put, List.getElem_toArray, List.getElem_cons_zero, List.getElem_cons_succ, List.setIfInBounds_toArray, List.set_cons_zero, List.set_cons_succ]
  refine wpAnyE_done (by kernel_rfl) ?_ _
  simp only [only_normal]
  have H1 : Hid (w2.drew.heap[w.heap.size]? = some (.cells #[.bool false, .slice none 0 0, .slice none 0 0, .slice none 0 0] 29 (0, 0))) := hid H0.out
  have HB1 : Hid (Below w.heap.size w w2.drew) := hid (HB0.out.trans (below_drewN _ _ 1))
  generalize w2.drew = w3 at *
  go_wp2_with (first
    | (refine wpList_buildTo rfl 29 #[] rfl (some 31) rfl #[.bool false, .slice none 0 0, .slice none 0 0, .slice none 0 0] (by exact built_proofZ) ?_)
    | (refine wpList_store_row rfl 29 (.tmp 2) (.tmp 31) rfl w.heap.size #[.bool false, .slice none 0 0, .slice none 0 0, .slice none 0 0] rfl rfl 29 #[.bool false, .slice none 0 0, .slice none 0 0, .slice none 0 0] H1.out Tryd.infoProof rfl (one_fourZ _ _ _ _ _ _ _ _ _ _) ?_)
    | (refine bodyPost_ret (v := .tuple #[.agg #[.bool false, .slice none 0 0, .slice none 0 0, .slice none 0 0], .bool false]) (results_agg_tmp (p := 2) (u := 3) (ty := 29) rfl _ _ w.heap.size #[.bool false, .slice none 0 0, .slice none 0 0, .slice none 0 0] rfl (load_row_proof (setRow_heap _ _ _ _ _ _ H1.out) rfl)) rfl ⟨rfl, below_setRow HB1.out (Nat.le_refl _) _⟩))

set_option maxHeartbeats 4000000 in
theorem ofRow_none (B : Nat) (rv : Value) (rows : List (List UInt8)) (w : World) (hB : B ≤ w.heap.size) (hR : RowsAt w B rv rows) (h1 : rows.length = 1) (r : List UInt8) (hr : rows[0]? = some r) (he : r = be (u64of 1) 8) :
    Calls Tryd.prog 58 #[rv] w fun e w' => e = .returned (.tuple #[.agg #[.bool true, .slice none 0 0, .slice none 0 0, .slice none 0 0], .bool true]) ∧ Below w.heap.size w w' := by
  obtain ⟨vs, hrow, hown⟩ := hR
  obtain ⟨ra, rc, rfl⟩ := row_form hrow
  have hnew := World.alloc_heap_new w (.cells #[.bool false, .slice none 0 0, .slice none 0 0, .slice none 0 0] 29)
  have hbn : Below w.heap.size w (w.alloc (.cells #[.bool false, .slice none 0 0, .slice none 0 0, .slice none 0 0] 29)) := new_allocZ _ _
  have hsn : (w.alloc (.cells #[.bool false, .slice none 0 0, .slice none 0 0, .slice none 0 0] 29)).heap.size = w.heap.size + 1 := World.size_alloc _ _
  obtain ⟨gr, rfl⟩ : ∃ gr, ra = some ⟨gr, 0, none⟩ := by
    obtain ⟨g, cap, e, _⟩ := hrow.form (by omega)
    simp only [Value.slice.injEq] at e
    exact ⟨g, e.1⟩
  obtain ⟨ga, ca, hcell0, hvs0, hro0⟩ := rows_cell hrow hown rfl 0 r hr
  rw [h1]
  clear hrow hown
  go_enter Tryd.func58, Tryd.ntmps58
  go_wp2_with fail
  obtain ⟨w0, hw0⟩ : ∃ w0, w.alloc (.cells #[.bool false, .slice none 0 0, .slice none 0 0, .slice none 0 0] 29) = w0 := ⟨_, rfl⟩
  rw [hw0] at hnew hbn hsn ⊢
  have hcell : w0.cell? ⟨gr, 0, none⟩ = some (.slice (some ⟨ga, 0, none⟩) r.length ca) := (hbn.cell (p := ⟨gr, 0, none⟩) (World.block_lt_of_cell? _ _ hcell0)).trans hcell0
  have hro := ownsRow_below hro0 hbn
  have hS0 : (fun W' : World => W'.cell? ⟨gr, 0, none⟩ = some (.slice (some ⟨ga, 0, none⟩) r.length ca)) w0.drew := hcell
  refine last_region (fun W' : World => W'.cell? ⟨gr, 0, none⟩ = some (.slice (some ⟨ga, 0, none⟩) r.length ca)) 9 (by kernel_rfl) ?_
  refine wpAnyE_take (i := 0) (v := ?_) rfl (by kernel_rfl) (by kernel_rfl) (by kernel_rfl) (by kernel_rfl) (by kernel_rfl) (fun _ _ _ h => h) (Or.inl ⟨by rfl, ?_⟩) (by assumption) ?_; rotate_left; (focus (intro w hSw; (try dsimp only at hSw); (try obtain ⟨hSw1, hSw2, hSw3⟩ := hSw); go_simp <;> with_reducible rfl)); (try simp only [Act.put, List.getElem_toArray, List.getElem_cons_zero, List.getElem_cons_succ, List.setIfInBounds_toArray, List.set_cons_zero, List.set_cons_succ])
  refine wpAnyE_take (i := 1) (v := ?_) rfl (by kernel_rfl) (by kernel_rfl) (by kernel_rfl) (by kernel_rfl) (by kernel_rfl) (fun _ _ _ h => h) (Or.inl ⟨by rfl, ?_⟩) (by assumption) ?_; rotate_left; (focus (intro w hSw; (try dsimp only at hSw); (try obtain ⟨hSw1, hSw2, hSw3⟩ := hSw); go_simp <;> with_reducible rfl)); (try simp only [Act.put, List.getElem_toArray, List.getElem_cons_zero, List.getElem_cons_succ, List.setIfInBounds_toArray, List.set_cons_zero, List.set_cons_succ])
  refine wpAnyE_take (i := 2) (v := ?_) rfl (by kernel_rfl) (by kernel_rfl) (by kernel_rfl) (by kernel_rfl) (by kernel_rfl) (fun _ _ _ h => h) (Or.inl ⟨by rfl, ?_⟩) (by assumption) ?_; rotate_left; (focus (intro w hSw; (try dsimp only at hSw); (try obtain ⟨hSw1, hSw2, hSw3⟩ := hSw); go_simp <;> with_reducible rfl)); (try simp only [Act.put, List.getElem_toArray, List.getElem_cons_zero, List.getElem_cons_succ, List.setIfInBounds_toArray, List.set_cons_zero, List.set_cons_succ])
  refine wpAnyE_take (i := 3) (v := ?_) rfl (by kernel_rfl) (by kernel_rfl) (by kernel_rfl) (by kernel_rfl) (by kernel_rfl) (fun _ _ _ h => h) (Or.inl ⟨by rfl, ?_⟩) (by assumption) ?_; rotate_left; (focus (intro w hSw; (try dsimp only at hSw); (try obtain ⟨hSw1, hSw2, hSw3⟩ := hSw); go_simp <;> with_reducible rfl)); (try simp only [Act.put, List.getElem_toArray, List.getElem_cons_zero, List.getElem_cons_succ, List.setIfInBounds_toArray, List.set_cons_zero, List.set_cons_succ])
  refine wpAnyE_take (i := 4) (v := ?_) rfl (by kernel_rfl) (by kernel_rfl) (by kernel_rfl) (by kernel_rfl) (by kernel_rfl) (fun _ _ _ h => h) (Or.inl ⟨by rfl, ?_⟩) (by assumption) ?_; rotate_left; (focus (intro w hSw; (try dsimp only at hSw); (try obtain ⟨hSw1, hSw2, hSw3⟩ := hSw); go_simp <;> with_reducible rfl)); (try simp only [Act.put, List.getElem_toArray, List.getElem_cons_zero, List.getElem_cons_succ, List.setIfInBounds_toArray, List.set_cons_zero, List.set_cons_succ])
  refine wpAnyE_take (i := 5) (v := ?_) rfl (by kernel_rfl) (by kernel_rfl) (by kernel_rfl) (by kernel_rfl) (by kernel_rfl) (fun _ _ _ h => h) (Or.inl ⟨by rfl, ?_⟩) (by assumption) ?_; rotate_left; (focus (intro w hSw; (try dsimp only at hSw); (try obtain ⟨hSw1, hSw2, hSw3⟩ := hSw); go_simp <;> with_reducible rfl)); (try simp only [Act.put, List.getElem_toArray, List.getElem_cons_zero, List.getElem_cons_succ, List.setIfInBounds_toArray, List.set_cons_zero, List.set_cons_succ])
  refine wpAnyE_take (i := 6) (v := .slice (some ⟨ga, 0, none⟩) r.length ca) rfl (by kernel_rfl) (by kernel_rfl) (by kernel_rfl) (by kernel_rfl) (by kernel_rfl) (fun _ _ _ h => h) (yields_val 24 (.tmp 14) rfl ⟨gr, 0, none⟩ (by kernel_rfl) _ (by rfl) (fun W hW => run_load_slice W 24 _ Tryd.underlying24 ⟨gr, 0, none⟩ _ hW)) hS0 ?_
  simp only [Act.put, List.getElem_toArray, List.getElem_cons_zero, List.getElem_cons_succ, List.setIfInBounds_toArray, List.set_cons_zero, List.set_cons_succ]
  refine takeE_callw (i := 7) #[.int .i64 1] (fun u w' => ∃ an cn, u = .slice an 8 cn ∧ w'.ownsRow w0.heap.size 5 1 (.slice an 8 cn) 8 ((be (u64of 1) 8).map by8) ∧ Below w0.heap.size w0 w') (by kernel_rfl) rfl (by rfl) rfl (by kernel_rfl) (enters_of Tryd.func55 (by kernel_rfl) rfl) ((num_any 1 w0.drew).mono fun e w' ⟨v', h1, h2, h3⟩ => by
    obtain ⟨an, cn, rfl⟩ := row_form h2
    exact ⟨_, h1, an, cn, rfl, h2, (below_drewN _ _ 1).trans h3⟩) ?_
  rintro _ w2 ⟨an, cn, rfl, hon, hb2⟩
  have hS2 : (fun W' : World => W'.cell? ⟨gr, 0, none⟩ = some (.slice (some ⟨ga, 0, none⟩) r.length ca)) w2 := (hb2.cell (p := ⟨gr, 0, none⟩) (World.block_lt_of_cell? _ _ hcell)).trans hcell
  refine ⟨hS2, ?_⟩
  simp only [Act.put, List.getElem_toArray, List.getElem_cons_zero, List.getElem_cons_succ, List.setIfInBounds_toArray, List.set_cons_zero, List.set_cons_succ]
  have hsay2 : Says w2 (.slice an 8 cn) (be (u64of 1) 8) := (shows_of_owns hon).2
  have HE := equal_any _ _ (.slice (some ⟨ga, 0, none⟩) r.length ca) (.slice an 8 cn) r (be (u64of 1) 8) w2 ((shows_of_owns hro).2.below hb2) hsay2
  rw [decide_eq_true he] at HE
  refine takeE_callw (i := 8) #[.slice (some ⟨ga, 0, none⟩) r.length ca, .slice an 8 cn] (fun u w' => u = .bool true ∧ w2 = w') (by kernel_rfl) rfl (by rfl) rfl (by kernel_rfl) (enters_of Tryd.func50 (by kernel_rfl) rfl) (HE.mono fun e w' ⟨h1, h2⟩ => ⟨_, h1, rfl, h2.symm⟩) ?_
  rintro _ _ ⟨rfl, rfl⟩
  refine ⟨hS2, ?_⟩
  simp only [Act.put, List.getElem_toArray, List.getElem_cons_zero, List.getElem_cons_succ, List.setIfInBounds_toArray, List.set_cons_zero, List.set_cons_succ]
  refine takeE_value (i := 9) (v := .bool true) (by kernel_rfl) rfl rfl (by rfl) hS2 ?_
  simp only [Act.put, List.getElem_toArray, List.getElem_cons_zero, List.getElem_cons_succ, List.setIfInBounds_toArray, List.set_cons_zero, List.set_cons_succ]
  refine wpAnyE_done (by kernel_rfl) ?_ _
  simp only [only_normal]
  have H0 : Hid (w2.heap[w.heap.size]? = some (.cells #[.bool false, .slice none 0 0, .slice none 0 0, .slice none 0 0] 29 (0, 0))) := hid ((hb2.block _ (by omega)).trans hnew)
  have HB0 : Hid (Below w.heap.size w w2) := hid (hbn.trans (hb2.mono (by omega)))
  clear hnew hbn hsn hw0 HE hS0 hS2 hsay2 hon hb2 hcell hro he
  go_wp2_with (first
    | (refine wpList_buildTo rfl 29 _ rfl (some 19) rfl #[.bool true, .slice none 0 0, .slice none 0 0, .slice none 0 0] (by exact built_proofT) ?_)
    | (refine wpList_store_row rfl 29 (.tmp 2) (.tmp 19) rfl w.heap.size #[.bool true, .slice none 0 0, .slice none 0 0, .slice none 0 0] rfl rfl 29 #[.bool false, .slice none 0 0, .slice none 0 0, .slice none 0 0] H0.out Tryd.infoProof rfl (one_fourZ _ _ _ _ _ _ _ _ _ _) ?_)
    | (refine bodyPost_ret (v := .tuple #[.agg #[.bool true, .slice none 0 0, .slice none 0 0, .slice none 0 0], .bool true]) (results_agg_tmp (p := 2) (u := 3) (ty := 29) rfl _ _ w.heap.size #[.bool true, .slice none 0 0, .slice none 0 0, .slice none 0 0] rfl (load_row_proof (setRow_heap _ _ _ _ _ _ H0.out) rfl)) rfl ⟨rfl, below_setRow HB0.out (Nat.le_refl _) _⟩))

set_option maxHeartbeats 4000000 in
theorem ofRow_other (B : Nat) (rv : Value) (rows : List (List UInt8)) (w : World) (hB : B ≤ w.heap.size) (hR : RowsAt w B rv rows) (h3 : 3 ≤ rows.length) (r : List UInt8) (hr : rows[0]? = some r) (hne : r ≠ be (u64of 0) 8) :
    Calls Tryd.prog 58 #[rv] w fun e w' => e = .returned (.tuple #[.agg #[.bool false, .slice none 0 0, .slice none 0 0, .slice none 0 0], .bool false]) ∧ Below w.heap.size w w' := by
  obtain ⟨vs, hrow, hown⟩ := hR
  obtain ⟨ra, rc, rfl⟩ := row_form hrow
  have hnew := World.alloc_heap_new w (.cells #[.bool false, .slice none 0 0, .slice none 0 0, .slice none 0 0] 29)
  have hbn : Below w.heap.size w (w.alloc (.cells #[.bool false, .slice none 0 0, .slice none 0 0, .slice none 0 0] 29)) := new_allocZ _ _
  have hsn : (w.alloc (.cells #[.bool false, .slice none 0 0, .slice none 0 0, .slice none 0 0] 29)).heap.size = w.heap.size + 1 := World.size_alloc _ _
  obtain ⟨gr, rfl⟩ : ∃ gr, ra = some ⟨gr, 0, none⟩ := by
    obtain ⟨g, cap, e, _⟩ := hrow.form (by omega)
    simp only [Value.slice.injEq] at e
    exact ⟨g, e.1⟩
  obtain ⟨ga, ca, hcell0, hvs0, hro0⟩ := rows_cell hrow hown rfl 0 r hr
  have hn1 : ((rows.length : Int) == 1) = false := by rw [beq_eq_false_iff_ne]; omega
  have hn3 : ¬ (rows.length : Int) < 3 := by omega
  have hnn : (0 : Int) < (rows.length : Int) := by omega
  have hpos : 0 < rows.length := by omega
  clear hrow hown
  go_enter Tryd.func58, Tryd.ntmps58
  go_wp2_with fail
  obtain ⟨w0, hw0⟩ : ∃ w0, w.alloc (.cells #[.bool false, .slice none 0 0, .slice none 0 0, .slice none 0 0] 29) = w0 := ⟨_, rfl⟩
  rw [hw0] at hnew hbn hsn ⊢
  have hcell : w0.cell? ⟨gr, 0, none⟩ = some (.slice (some ⟨ga, 0, none⟩) r.length ca) := (hbn.cell (p := ⟨gr, 0, none⟩) (World.block_lt_of_cell? _ _ hcell0)).trans hcell0
  have hro := ownsRow_below hro0 hbn
  refine last_region (fun W' : World => True) 9 (by kernel_rfl) ?_
  have hS0 : True := trivial
  refine wpAnyE_take (i := 0) (v := ?_) rfl (by kernel_rfl) (by kernel_rfl) (by kernel_rfl) (by kernel_rfl) (by kernel_rfl) (fun _ _ _ h => h) (Or.inl ⟨by rfl, ?_⟩) (by assumption) ?_; rotate_left; (focus (intro w hSw; (try dsimp only at hSw); (try obtain ⟨hSw1, hSw2, hSw3⟩ := hSw); go_simp <;> with_reducible rfl)); (try simp only [Act.put, List.getElem_toArray, List.getElem_cons_zero, List.getElem_cons_succ, List.setIfInBounds_toArray, List.set_cons_zero, List.set_cons_succ])
  refine wpAnyE_take (i := 1) (v := ?_) rfl (by kernel_rfl) (by kernel_rfl) (by kernel_rfl) (by kernel_rfl) (by kernel_rfl) (fun _ _ _ h => h) (Or.inl ⟨by rfl, ?_⟩) (by assumption) ?_; rotate_left; (focus (intro w hSw; (try dsimp only at hSw); (try obtain ⟨hSw1, hSw2, hSw3⟩ := hSw); go_simp <;> with_reducible rfl)); (try simp only [Act.put, List.getElem_toArray, List.getElem_cons_zero, List.getElem_cons_succ, List.setIfInBounds_toArray, List.set_cons_zero, List.set_cons_succ])
  refine wpAnyE_take (i := 2) (v := .bool false) rfl (by kernel_rfl) (by kernel_rfl) (by kernel_rfl) (by kernel_rfl) (by kernel_rfl) (fun _ _ _ h => h) (Or.inl ⟨by rfl, fun W _ => by go_simp <;> simp [hn1]⟩) trivial ?_
  simp only [Act.put, List.getElem_toArray, List.getElem_cons_zero, List.getElem_cons_succ, List.setIfInBounds_toArray, List.set_cons_zero, List.set_cons_succ]
  refine wpAnyE_take (i := 3) (v := ?_) rfl (by kernel_rfl) (by kernel_rfl) (by kernel_rfl) (by kernel_rfl) (by kernel_rfl) (fun _ _ _ h => h) (Or.inl ⟨by rfl, ?_⟩) (by assumption) ?_; rotate_left; (focus (intro w hSw; (try dsimp only at hSw); (try obtain ⟨hSw1, hSw2, hSw3⟩ := hSw); go_simp <;> with_reducible rfl)); (try simp only [Act.put, List.getElem_toArray, List.getElem_cons_zero, List.getElem_cons_succ, List.setIfInBounds_toArray, List.set_cons_zero, List.set_cons_succ])
  refine wpAnyE_take (i := 4) (v := undef) rfl (by kernel_rfl) (by kernel_rfl) (by kernel_rfl) (by kernel_rfl) (by kernel_rfl) (fun _ _ _ h => h) (Or.inr ⟨by rfl, rfl⟩) (by assumption) ?_; (try simp only [Act.put, List.getElem_toArray, List.getElem_cons_zero, List.getElem_cons_succ, List.setIfInBounds_toArray, List.set_cons_zero, List.set_cons_succ])
  refine wpAnyE_take (i := 5) (v := undef) rfl (by kernel_rfl) (by kernel_rfl) (by kernel_rfl) (by kernel_rfl) (by kernel_rfl) (fun _ _ _ h => h) (Or.inr ⟨by rfl, rfl⟩) (by assumption) ?_; (try simp only [Act.put, List.getElem_toArray, List.getElem_cons_zero, List.getElem_cons_succ, List.setIfInBounds_toArray, List.set_cons_zero, List.set_cons_succ])
  refine wpAnyE_take (i := 6) (v := undef) rfl (by kernel_rfl) (by kernel_rfl) (by kernel_rfl) (by kernel_rfl) (by kernel_rfl) (fun _ _ _ h => h) (Or.inr ⟨by rfl, rfl⟩) (by assumption) ?_; (try simp only [Act.put, List.getElem_toArray, List.getElem_cons_zero, List.getElem_cons_succ, List.setIfInBounds_toArray, List.set_cons_zero, List.set_cons_succ])
  refine takeE_skip (i := 7) (by kernel_rfl) rfl (by rfl) trivial ?_
  simp only [Act.put, List.getElem_toArray, List.getElem_cons_zero, List.getElem_cons_succ, List.setIfInBounds_toArray, List.set_cons_zero, List.set_cons_succ]
  refine takeE_skip (i := 8) (by kernel_rfl) rfl (by rfl) trivial ?_
  simp only [Act.put, List.getElem_toArray, List.getElem_cons_zero, List.getElem_cons_succ, List.setIfInBounds_toArray, List.set_cons_zero, List.set_cons_succ]
  refine takeE_value (i := 9) (v := .bool false) (by kernel_rfl) rfl rfl (by rfl) trivial ?_
  simp only [Act.put, List.getElem_toArray, List.getElem_cons_zero, List.getElem_cons_succ, List.setIfInBounds_toArray, List.set_cons_zero, List.set_cons_succ]
  refine wpAnyE_done (by kernel_rfl) ?_ _
  simp only [only_normal]
  have H0 : Hid (w0.drew.heap[w.heap.size]? = some (.cells #[.bool false, .slice none 0 0, .slice none 0 0, .slice none 0 0] 29 (0, 0))) := hid hnew
  have HB0 : Hid (Below w.heap.size w w0.drew) := hid (hbn.trans (below_drewN _ _ 1))
  replace hcell : w0.drew.cell? ⟨gr, 0, none⟩ = some (.slice (some ⟨ga, 0, none⟩) r.length ca) := hcell
  replace hro : w0.drew.ownsRow B 5 1 (.slice (some ⟨ga, 0, none⟩) r.length ca) r.length (r.map by8) := hro
  have hsd : w0.drew.heap.size = w.heap.size + 1 := hsn
  generalize w0.drew = w1 at *
  clear hnew hbn hsn hw0
  go_wp2_with fail
  have hS3 : (fun W' : World => W'.cell? ⟨gr, 0, none⟩ = some (.slice (some ⟨ga, 0, none⟩) r.length ca)) w1.drew := hcell
  refine last_region (fun W' : World => W'.cell? ⟨gr, 0, none⟩ = some (.slice (some ⟨ga, 0, none⟩) r.length ca)) 10 (by kernel_rfl) ?_
  refine wpAnyE_take (i := 0) (v := ?_) rfl (by kernel_rfl) (by kernel_rfl) (by kernel_rfl) (by kernel_rfl) (by kernel_rfl) (fun _ _ _ h => h) (Or.inl ⟨by rfl, ?_⟩) (by assumption) ?_; rotate_left; (focus (intro w hSw; (try dsimp only at hSw); (try obtain ⟨hSw1, hSw2, hSw3⟩ := hSw); go_simp <;> with_reducible rfl)); (try simp only [Act.put, List.getElem_toArray, List.getElem_cons_zero, List.getElem_cons_succ, List.setIfInBounds_toArray, List.set_cons_zero, List.set_cons_succ])
  refine wpAnyE_take (i := 1) (v := ?_) rfl (by kernel_rfl) (by kernel_rfl) (by kernel_rfl) (by kernel_rfl) (by kernel_rfl) (fun _ _ _ h => h) (Or.inl ⟨by rfl, ?_⟩) (by assumption) ?_; rotate_left; (focus (intro w hSw; (try dsimp only at hSw); (try obtain ⟨hSw1, hSw2, hSw3⟩ := hSw); go_simp <;> with_reducible rfl)); (try simp only [Act.put, List.getElem_toArray, List.getElem_cons_zero, List.getElem_cons_succ, List.setIfInBounds_toArray, List.set_cons_zero, List.set_cons_succ])
  refine wpAnyE_take (i := 2) (v := .bool false) rfl (by kernel_rfl) (by kernel_rfl) (by kernel_rfl) (by kernel_rfl) (by kernel_rfl) (fun _ _ _ h => h) (Or.inl ⟨by rfl, fun W _ => by go_simp <;> simp [hn3]⟩) hS3 ?_
  simp only [Act.put, List.getElem_toArray, List.getElem_cons_zero, List.getElem_cons_succ, List.setIfInBounds_toArray, List.set_cons_zero, List.set_cons_succ]
  refine wpAnyE_take (i := 3) (v := ?_) rfl (by kernel_rfl) (by kernel_rfl) (by kernel_rfl) (by kernel_rfl) (by kernel_rfl) (fun _ _ _ h => h) (Or.inl ⟨by rfl, ?_⟩) (by assumption) ?_; rotate_left; (focus (intro w hSw; (try dsimp only at hSw); (try obtain ⟨hSw1, hSw2, hSw3⟩ := hSw); go_simp <;> with_reducible rfl)); (try simp only [Act.put, List.getElem_toArray, List.getElem_cons_zero, List.getElem_cons_succ, List.setIfInBounds_toArray, List.set_cons_zero, List.set_cons_succ])
  refine wpAnyE_take (i := 4) (v := ?_) rfl (by kernel_rfl) (by kernel_rfl) (by kernel_rfl) (by kernel_rfl) (by kernel_rfl) (fun _ _ _ h => h) (Or.inl ⟨by rfl, ?_⟩) (by assumption) ?_; rotate_left; (focus (intro w hSw; (try dsimp only at hSw); (try obtain ⟨hSw1, hSw2, hSw3⟩ := hSw); go_simp <;> with_reducible rfl)); (try simp only [Act.put, List.getElem_toArray, List.getElem_cons_zero, List.getElem_cons_succ, List.setIfInBounds_toArray, List.set_cons_zero, List.set_cons_succ])
  refine wpAnyE_take (i := 5) (v := .pointer (some ⟨gr, 0, none⟩)) rfl (by kernel_rfl) (by kernel_rfl) (by kernel_rfl) (by kernel_rfl) (by kernel_rfl) (fun _ _ _ h => h) (Or.inl ⟨by rfl, fun W _ => by go_simp <;> simp [hpos]⟩) hS3 ?_
  simp only [Act.put, List.getElem_toArray, List.getElem_cons_zero, List.getElem_cons_succ, List.setIfInBounds_toArray, List.set_cons_zero, List.set_cons_succ]
  refine wpAnyE_take (i := 6) (v := .slice (some ⟨ga, 0, none⟩) r.length ca) rfl (by kernel_rfl) (by kernel_rfl) (by kernel_rfl) (by kernel_rfl) (by kernel_rfl) (fun _ _ _ h => h) (yields_val 24 (.tmp 25) rfl ⟨gr, 0, none⟩ (by kernel_rfl) _ (by rfl) (fun W hW => run_load_slice W 24 _ Tryd.underlying24 ⟨gr, 0, none⟩ _ hW)) hS3 ?_
  simp only [Act.put, List.getElem_toArray, List.getElem_cons_zero, List.getElem_cons_succ, List.setIfInBounds_toArray, List.set_cons_zero, List.set_cons_succ]
  refine takeE_callw (i := 7) #[.int .i64 0] (fun u w' => ∃ an cn, u = .slice an 8 cn ∧ w'.ownsRow w1.heap.size 5 1 (.slice an 8 cn) 8 ((be (u64of 0) 8).map by8) ∧ Below w1.heap.size w1 w') (by kernel_rfl) rfl (by rfl) rfl (by kernel_rfl) (enters_of Tryd.func55 (by kernel_rfl) rfl) ((num_any 0 w1.drew).mono fun e w' ⟨v', h1, h2, h3⟩ => by
    obtain ⟨an, cn, rfl⟩ := row_form h2
    exact ⟨_, h1, an, cn, rfl, h2, (below_drewN _ _ 1).trans h3⟩) ?_
  rintro _ w2 ⟨an, cn, rfl, hon, hb2⟩
  have hS4 : (fun W' : World => W'.cell? ⟨gr, 0, none⟩ = some (.slice (some ⟨ga, 0, none⟩) r.length ca)) w2 := (hb2.cell (p := ⟨gr, 0, none⟩) (World.block_lt_of_cell? _ _ hcell)).trans hcell
  refine ⟨hS4, ?_⟩
  simp only [Act.put, List.getElem_toArray, List.getElem_cons_zero, List.getElem_cons_succ, List.setIfInBounds_toArray, List.set_cons_zero, List.set_cons_succ]
  have hsay2 : Says w2 (.slice an 8 cn) (be (u64of 0) 8) := (shows_of_owns hon).2
  have HE := equal_any _ _ (.slice (some ⟨ga, 0, none⟩) r.length ca) (.slice an 8 cn) r (be (u64of 0) 8) w2 ((shows_of_owns hro).2.below hb2) hsay2
  rw [decide_eq_false hne] at HE
  refine takeE_callw (i := 8) #[.slice (some ⟨ga, 0, none⟩) r.length ca, .slice an 8 cn] (fun u w' => u = .bool false ∧ w2 = w') (by kernel_rfl) rfl (by rfl) rfl (by kernel_rfl) (enters_of Tryd.func50 (by kernel_rfl) rfl) (HE.mono fun e w' ⟨h1, h2⟩ => ⟨_, h1, rfl, h2.symm⟩) ?_
  rintro _ _ ⟨rfl, rfl⟩
  refine ⟨hS4, ?_⟩
  simp only [Act.put, List.getElem_toArray, List.getElem_cons_zero, List.getElem_cons_succ, List.setIfInBounds_toArray, List.set_cons_zero, List.set_cons_succ]
  refine wpAnyE_take (i := 9) (v := ?_) rfl (by kernel_rfl) (by kernel_rfl) (by kernel_rfl) (by kernel_rfl) (by kernel_rfl) (fun _ _ _ h => h) (Or.inl ⟨by rfl, ?_⟩) (by assumption) ?_; rotate_left; (focus (intro w hSw; (try dsimp only at hSw); (try obtain ⟨hSw1, hSw2, hSw3⟩ := hSw); go_simp <;> with_reducible rfl)); (try simp only [Act.put, List.getElem_toArray, List.getElem_cons_zero, List.getElem_cons_succ, List.setIfInBounds_toArray, List.set_cons_zero, List.set_cons_succ])
  refine takeE_value (i := 10) (v := .bool true) (by kernel_rfl) rfl rfl (by rfl) hS4 ?_
  simp only [Act.put, List.getElem_toArray, List.getElem_cons_zero, List.getElem_cons_succ, List.setIfInBounds_toArray, List.set_cons_zero, List.set_cons_succ]
  refine wpAnyE_done (by kernel_rfl) ?_ _
  simp only [only_normal]
  have H1 : Hid (w2.heap[w.heap.size]? = some (.cells #[.bool false, .slice none 0 0, .slice none 0 0, .slice none 0 0] 29 (0, 0))) := hid ((hb2.block _ (by omega)).trans H0.out)
  have HB1 : Hid (Below w.heap.size w w2) := hid (HB0.out.trans (hb2.mono (by omega)))
  clear HE hS0 hS3 hS4 hsay2 hon hb2 hcell hro
  go_wp2_with (first
    | (refine wpList_buildTo rfl 29 #[] rfl (some 31) rfl #[.bool false, .slice none 0 0, .slice none 0 0, .slice none 0 0] (by exact built_proofZ) ?_)
    | (refine wpList_store_row rfl 29 (.tmp 2) (.tmp 31) rfl w.heap.size #[.bool false, .slice none 0 0, .slice none 0 0, .slice none 0 0] rfl rfl 29 #[.bool false, .slice none 0 0, .slice none 0 0, .slice none 0 0] H1.out Tryd.infoProof rfl (one_fourZ _ _ _ _ _ _ _ _ _ _) ?_)
    | (refine bodyPost_ret (v := .tuple #[.agg #[.bool false, .slice none 0 0, .slice none 0 0, .slice none 0 0], .bool false]) (results_agg_tmp (p := 2) (u := 3) (ty := 29) rfl _ _ w.heap.size #[.bool false, .slice none 0 0, .slice none 0 0, .slice none 0 0] rfl (load_row_proof (setRow_heap _ _ _ _ _ _ H1.out) rfl)) rfl ⟨rfl, below_setRow HB1.out (Nat.le_refl _) _⟩))

end Go.Proofs.YtmafaioohiaenaaDoor
