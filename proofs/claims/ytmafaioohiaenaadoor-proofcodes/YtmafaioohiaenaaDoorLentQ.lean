/- The law's Lent of a proof: its first region. -/
import Derived.Test.YtmafaioohiaenaaDoorOfRowL
namespace Go.Proofs.YtmafaioohiaenaaDoor
open Go.RowKit Go.Shelf
set_option linter.unusedVariables false
set_option linter.unusedSimpArgs false
set_option maxRecDepth 20000

theorem Lends.newer {B : Nat} {w w' : World} {v : Value} {bs : List UInt8} (h : Lends B w v bs) (hb : Below w.heap.size w w') : Lends B w' v bs := by
  obtain ⟨g, e, ho⟩ := h
  exact ⟨g, e, ownsRow_below ho hb⟩

theorem Lends.sparesZ {S : Nat → Prop} {B : Nat} {w w' : World} {v : Value} {bs : List UInt8} (h : Lends B w v bs) (hs : Spares S w w') (hS : ∀ i, v.ownBlock = some i → ¬ S i) : Lends B w' v bs := by
  obtain ⟨g, rfl, ho⟩ := h
  exact ⟨g, rfl, hs.row ho (fun i hi => hS i hi)⟩

theorem Lends.lowerZ {B B' : Nat} {w : World} {v : Value} {bs : List UInt8} (h : Lends B w v bs) (hB : B' ≤ B) : Lends B' w v bs := by
  obtain ⟨g, e, ho⟩ := h
  exact ⟨g, e, owns_lower ho (fun i hi => by have := (ho.lt i hi).1; omega)⟩

theorem Lends.block {B : Nat} {w : World} {v : Value} {bs : List UInt8} (h : Lends B w v bs) : ∀ i, v.ownBlock = some i → B ≤ i ∧ i < w.heap.size := by
  obtain ⟨g, rfl, ho⟩ := h
  intro i hi
  exact ho.lt i hi

/-- What the first region has made. -/
structure LP (b0 : Nat) (w2 : World) (p : Prf) (gb : Nat) (kv vv : Value) (W : World) : Prop where
  bx : W.heap[gb]? = some (.cells #[.bool p.no, kv, vv, .slice none 0 0] 29 (0, 0))
  k : Lends b0 W kv p.k
  v : Lends b0 W vv p.v
  ap : ∀ g, kv.ownBlock = some g → vv.ownBlock ≠ some g
  nk : ∀ g, kv.ownBlock = some g → g ≠ gb
  nv : ∀ g, vv.ownBlock = some g → g ≠ gb
  low : b0 ≤ gb
  below : Below b0 w2 W

theorem built_entryL (k v : Value) (h1 : k.oneCell' = true) (h2 : v.oneCell' = true) (ka va : Option Addr) (kn vn kc vc : Nat) (e1 : k = .slice ka kn kc) (e2 : v = .slice va vn vc) : Tryd.prog.built 26 [(0, k), (1, v)] = some #[k, v] := by
  subst e1 e2
  kernel_rfl

theorem built_proofL (b : Bool) (ka va : Option Addr) (kn vn kc vc : Nat) : Tryd.prog.built 29 [(0, .bool b), (1, .agg #[.slice ka kn kc, .slice va vn vc])] = some #[.bool b, .slice ka kn kc, .slice va vn vc, .slice none 0 0] := by kernel_rfl

set_option maxHeartbeats 4000000 in
theorem lentZ_any (B0 : Nat) (v : Value) (bs : List UInt8) (w : World) (hB : B0 ≤ w.heap.size) (hsh : Shows B0 w v bs) (hl : bs.length ≤ 140737488351232) :
    Calls Tryd.prog 20 #[v] w fun e w' => ∃ v', e = .returned v' ∧ Lends w.heap.size w' v' bs ∧ Below w.heap.size w w' := by
  obtain ⟨i0, hi, hz0, hz1, hz2⟩ := info_parts Tryd.infoU8
  have hsh0 := hsh
  obtain ⟨a, c, rfl, h1, h2, hn, h3⟩ := hsh
  have hmk : ∀ u : World, (Instr.makeSlice 24 (.int .i64 (bs.length : Int)) (.int .i64 ((bs.length : Int) + 1))).run Tryd.prog u =
      .ok (.slice (some ⟨u.heap.size, 0, none⟩) bs.length (bs.length + 1)) (u.alloc (.cells (zeros (bs.length + 1)).toArray 5)) := fun u => by
    have h := run_make (P := Tryd.prog) u 24 5 i0 (.int .u8 0) Tryd.underlying24 hi hz0 .i64 .i64 (bs.length : Int) ((bs.length : Int) + 1) (by omega) (by omega) (by rw [hz2]; omega) (by omega)
    have e : ((bs.length : Int) + 1).toNat = bs.length + 1 := by omega
    rw [e, hz1, Nat.mul_one, Int.toNat_natCast] at h
    rw [h]
    congr 3
    exact toArray_made _
  have hinfo : (Tryd.prog.info? 5).map (·.size) = some 1 := by rw [hi]; simp [hz1]
  have hzl := zeros_length (bs.length + 1)
  generalize hzz : zeros (bs.length + 1) = Z at *
  have HZ := hid hzz
  clear hzz
  have hsh1 := hsh0.alloc hB (.cells Z.toArray 5)
  have hnew : (w.alloc (.cells Z.toArray 5)).heap[w.heap.size]? = some (.cells Z.toArray 5 (0, 0)) := heap_alloc_new w _
  have hbn : Below w.heap.size w (w.alloc (.cells Z.toArray 5)) := (Below.refl _ _).alloc (Nat.le_refl _) _
  obtain ⟨w2, hcp, hg2, hb2⟩ : ∃ w2, (Builtin.copy_ #[24, 24] 3 #[.slice (some ⟨w.heap.size, 0, none⟩) bs.length (bs.length + 1), .slice a bs.length c]).run Tryd.prog (w.alloc (.cells Z.toArray 5)) = .ok (goInt bs.length) w2 ∧
      w2.heap[w.heap.size]? = some (.cells (bs.map by8 ++ [Value.int .u8 0]).toArray 5 (0, 0)) ∧ Below w.heap.size w w2 := by
    by_cases hb : bs = []
    · subst hb
      refine ⟨_, run_copy_none (P := Tryd.prog) _ 24 24 3 5 _ a 0 1 0 c Tryd.underlying24 hinfo rfl, ?_, hbn⟩
      rw [hnew, ← HZ.out]
      rfl
    · obtain ⟨b, off, rfl, hlt, hc⟩ := h3 hb
      have hr := run_copy_row (P := Tryd.prog) (w.alloc (.cells Z.toArray 5)) 24 24 3 5 w.heap.size 0 bs.length (bs.length + 1) ⟨b, off, none⟩ bs.length c Z.toArray 5 (bs.map by8) Tryd.underlying24 hinfo hnew (by simp) (by8_cells hsh1).2 (by simp; omega) (by8_one bs)
      rw [List.length_map] at hr
      refine ⟨_, hr, ?_, below_setRow hbn (Nat.le_refl _) _⟩
      rw [setRow_heap _ _ _ _ _ _ hnew]
      rw [← HZ.out]
      simp [zeros]
  clear hsh1 hnew hbn
  go_enter Tryd.func20, Tryd.ntmps20
  have hcell : w2.cell? ⟨w.heap.size, bs.length, none⟩ = some (.int .u8 0) := by
    rw [cell_of_row w2 _ _ _ _ _ hg2]
    simp
  have hfz : w2.frozen? ⟨w.heap.size, bs.length, none⟩ = false := frozen_of_row w2 _ _ _ _ hg2
  have HG := hid hg2
  clear hg2
  go_wp2
  go_ret
  refine ⟨_, rfl, ⟨w.heap.size, rfl, by simp, .inr ⟨w.heap.size, bs.length + 1, _, rfl, Nat.le_refl _, heap_setCell_same w2 _ _ _ _ _ HG.out, Nat.le_refl _, by unfold maxLen; omega, by simp, ?_⟩⟩, hb2.setCell (Nat.le_refl _) _⟩
  rw [Array.toList_setIfInBounds, List.toList_toArray]
  have : (bs.map by8 ++ [Value.int .u8 0]).set bs.length (.int .u8 77) = bs.map by8 ++ [.int .u8 77] := by
    rw [List.set_append_right _ _ (by simp)]
    simp
  rw [this]
  exact List.take_of_length_le (by simp)

theorem yields_build {P : Program} {ops : Array Oper} {S : World → Prop} {o : Oper} {a : Act} {t : TypeId} (parts : Array (Nat × Operand)) (ho : o.op = .build t parts) (ps : List (Nat × Value)) (cells : Array Value) (ep : (parts.map fun (i, x) => (i, a.eval x)).toList = ps)
    (hw : Region.wanted o (yielded ops a.tmps) = true) (hb : P.built t ps = some cells) : YieldsIf P ops S o (.agg cells) a :=
  Or.inl ⟨hw, fun w hS => by
    unfold execOp
    simp only [ho]
    rw [Sem.run_bind, run_build w t _ cells (by rw [ep]; exact hb)]
    rfl⟩

theorem lp_of {b0 b1 b2 gb : Nat} {w2 Y : World} {p : Prf} {kv vv : Value} (hb : Y.heap[gb]? = some (.cells #[.bool false, .slice none 0 0, .slice none 0 0, .slice none 0 0] 29 (0, 0))) (hk : Lends b1 Y kv p.k) (hv : Lends b2 Y vv p.v) (h0 : b0 ≤ w2.heap.size) (h1 : b0 ≤ b1) (h2 : b0 ≤ b2) (ap : ∀ g, kv.ownBlock = some g → vv.ownBlock ≠ some g)
    (nk : ∀ g, kv.ownBlock = some g → g ≠ gb) (nv : ∀ g, vv.ownBlock = some g → g ≠ gb) (low : b0 ≤ gb) (bel : Below b0 w2 Y) : LP b0 w2 p gb kv vv (Y.setRow gb #[.bool p.no, kv, vv, .slice none 0 0]) :=
  ⟨setRow_heap _ _ _ _ _ _ hb, (hk.sparesZ (spares_setRowZ _ _ _) (fun i hi e => nk i hi e)).lowerZ h1, (hv.sparesZ (spares_setRowZ _ _ _) (fun i hi e => nv i hi e)).lowerZ h2, ap, nk, nv, low, bel.trans ((spares_setRowZ _ _ _).below (fun i hi => by omega) (Nat.le_trans h0 bel.size))⟩

theorem row_type_ne {W : World} {B n gb : Nat} {v : Value} {xs : List Value} {A : Array Value} (h : W.ownsRow B 66 34 v n xs) (hg : W.heap[gb]? = some (.cells A 29 (0, 0))) : ∀ i, v.ownBlock = some i → i ≠ gb := fun i hi e => by
  obtain ⟨cs, hc⟩ := row_type h hi
  rw [e, hg] at hc
  cases hc

theorem lent_end {w w2 W3 : World} {p : Prf} {gb : Nat} {kv vv sv : Value} (hbn : Below w.heap.size w w2) (hsn : w2.heap.size = w.heap.size + 2) (low : w.heap.size + 2 ≤ gb) (ap : ∀ g, kv.ownBlock = some g → vv.ownBlock ≠ some g)
    (nk : ∀ g, kv.ownBlock = some g → g ≠ gb) (nv : ∀ g, vv.ownBlock = some g → g ≠ gb) (hk : Lends (w.heap.size + 2) W3 kv p.k) (hv : Lends (w.heap.size + 2) W3 vv p.v)
    (hs : W3.ownsRow (w.heap.size + 2) 66 34 sv p.st.length (p.st.flatMap zc)) (hb : Below (w.heap.size + 2) w2 W3) (ns : ∀ i, sv.ownBlock = some i → i ≠ gb) (W4 : World) (h4 : Spares (fun i => i = gb) W3 W4) :
    ∀ A : Array Value, ∃ kv' vv' sv', Ending.returned (.agg #[.bool p.no, kv, vv, sv]) = .returned (.agg #[.bool p.no, kv', vv', sv']) ∧ Lends w.heap.size (W4.setRow (w.heap.size + 1) A) kv' p.k ∧ Lends w.heap.size (W4.setRow (w.heap.size + 1) A) vv' p.v ∧ (W4.setRow (w.heap.size + 1) A).ownsRow w.heap.size 66 34 sv' p.st.length (p.st.flatMap zc) ∧ (∀ g, kv'.ownBlock = some g → vv'.ownBlock ≠ some g) ∧ Below w.heap.size w (W4.setRow (w.heap.size + 1) A) := fun A => by
  have s5 := spares_setRowZ W4 (w.heap.size + 1) A
  have r4 := h4.row hs (fun i hi e => ns i hi e)
  have r5 := s5.row r4 (fun i hi e => by have := (hs.lt i hi).1; omega)
  refine ⟨kv, vv, sv, rfl, ((hk.sparesZ h4 (fun i hi e => nk i hi e)).sparesZ s5 (fun i hi e => by have := (hk.block i hi).1; omega)).lowerZ (by omega), ((hv.sparesZ h4 (fun i hi e => nv i hi e)).sparesZ s5 (fun i hi e => by have := (hv.block i hi).1; omega)).lowerZ (by omega), owns_lower r5 (fun i hi => by have := (r5.lt i hi).1; omega), ap, ?_⟩
  have hz := hb.size
  have hz4 := h4.size
  exact (hbn.trans (hb.mono (by omega))).trans ((h4.below (B := w.heap.size) (fun i hi => by omega) (by omega)).trans (s5.below (B := w.heap.size) (fun i hi => by omega) (by omega)))

theorem flat_back : ∀ (L : List Zst) (q : Nat) (u : Value), (∀ s ∈ L, ZOk s) → (L.flatMap zc)[q]? = some u → ∃ s, L[q / 34]? = some s ∧ (zc s)[q % 34]? = some u
  | [], q, u, h, hq => by simp at hq
  | x :: r, q, u, h, hq => by
    have hx : (zc x).length = 34 := zc_length (h x (by simp))
    simp only [List.flatMap_cons] at hq
    by_cases hlt : q < 34
    · rw [List.getElem?_append_left (by omega)] at hq
      exact ⟨x, by rw [Nat.div_eq_of_lt hlt]; rfl, by rw [Nat.mod_eq_of_lt hlt]; exact hq⟩
    · rw [List.getElem?_append_right (by omega), hx] at hq
      obtain ⟨s, h1, h2⟩ := flat_back r (q - 34) u (fun y hy => h y (by simp [hy])) hq
      refine ⟨s, ?_, ?_⟩
      · rw [show q / 34 = (q - 34) / 34 + 1 by omega, List.getElem?_cons_succ]; exact h1
      · rw [show q % 34 = (q - 34) % 34 by omega]; exact h2

theorem flat_len : ∀ (L : List Zst), (∀ s ∈ L, ZOk s) → (L.flatMap zc).length = L.length * 34
  | [], _ => rfl
  | x :: r, h => by
    have hx : (zc x).length = 34 := zc_length (h x (by simp))
    rw [List.flatMap_cons, List.length_append, hx, flat_len r (fun y hy => h y (by simp [hy])), List.length_cons]
    omega

theorem stps_news {B : Nat} {w : World} {ad : Addr} {l c : Nat} {L : List Zst} (h : Stps B w (.slice (some ad) l c) L) : ∀ (j : Nat) (u : Value), (L.flatMap zc)[j]? = some u → w.cell? (ad.add j) = some u := fun j u hu => by
  obtain ⟨a', c', e, _, _, hok, hc⟩ := h
  simp only [Value.slice.injEq] at e
  obtain ⟨e1, _, _⟩ := e
  obtain ⟨s, h1, h2⟩ := flat_back L j u hok hu
  obtain ⟨b, off, e2, _, hcl⟩ := hc (by rintro rfl; simp at h1)
  rw [e2] at e1
  cases e1
  have := hcl _ s h1 _ u h2
  rw [show off + j / 34 * 34 + j % 34 = off + j by omega] at this
  rw [show (⟨b, off, none⟩ : Addr).add j = ⟨b, off + j, none⟩ by unfold Addr.add; split <;> simp_all]
  exact this

set_option maxHeartbeats 8000000 in
theorem lent5_any (B : Nat) (p : Prf) (kv vv sv : Value) (w : World) (hB : B ≤ w.heap.size) (hp : PAt B w p kv vv sv) (hkl : p.k.length ≤ 4096) (hvl : p.v.length ≤ 4096) (hsl : p.st.length ≤ 2000) (hnc : ∀ l c, sv = .slice none l c → c = 0) :
    Calls Tryd.prog 12 #[.agg #[.bool p.no, kv, vv, sv]] w fun e w' => ∃ kv' vv' sv', e = .returned (.agg #[.bool p.no, kv', vv', sv']) ∧ Lends w.heap.size w' kv' p.k ∧ Lends w.heap.size w' vv' p.v ∧ w'.ownsRow w.heap.size 66 34 sv' p.st.length (p.st.flatMap zc) ∧ (∀ g, kv'.ownBlock = some g → vv'.ownBlock ≠ some g) ∧ Below w.heap.size w w' := by
  obtain ⟨ka, kc, rfl, hk1, hk2, _⟩ := id hp.hk
  obtain ⟨va, vc, rfl, hv1, hv2, _⟩ := id hp.hv
  obtain ⟨sa, sc, rfl, hs1, hs2⟩ := hp.hs.form
  obtain ⟨n0, n1, hbn, hsn⟩ := alloc2 w (.cells #[.bool p.no, .slice ka p.k.length kc, .slice va p.v.length vc, .slice sa p.st.length sc] 29) (.cells #[.bool false, .slice none 0 0, .slice none 0 0, .slice none 0 0] 29)
  go_enter Tryd.func12, Tryd.ntmps12
  go_wp2_with fail
  generalize hw2 : (w.alloc _).alloc _ = w2 at *
  have hk := hp.hk.below (hbn.mono hB)
  have hv := hp.hv.below (hbn.mono hB)
  have hkl' : p.k.length ≤ 140737488351232 := by omega
  have hvl' : p.v.length ≤ 140737488351232 := by omega
  have HFS : Hid (∀ W, Below (w.heap.size + 2) w2 W → (fun W' : World => W'.cell? ⟨w.heap.size, 0, none⟩ = some (.bool p.no) ∧ W'.cell? ⟨w.heap.size, 1, none⟩ = some (.slice ka p.k.length kc) ∧ W'.cell? ⟨w.heap.size, 2, none⟩ = some (.slice va p.v.length vc)) W) := hid (fun W hW => by
    obtain ⟨c0, c1, c2, _⟩ := proof_cells ((hW.block _ (by omega)).trans n0)
    exact ⟨c0, c1, c2⟩)
  refine wp_mono (Q := fun e a' W => e = .normal ∧ ∃ gb kv' vv' t4 t5 t6 t7 t8 t9 t10 t11 t12 t13 t14 t15, a' = { tmps := #[.agg #[.bool p.no, .slice ka p.k.length kc, .slice va p.v.length vc, .slice sa p.st.length sc], .pointer (some ⟨w.heap.size, 0, none⟩), .pointer (some ⟨w.heap.size + 1, 0, none⟩), .pointer (some ⟨gb, 0, none⟩), t4, t5, t6, t7, t8, t9, t10, t11, t12, t13, t14, t15, undef, undef, undef, undef, undef, undef, undef], defers := [] } ∧ LP (w.heap.size + 2) w2 p gb kv' vv' W) ?region ?rest
  case region =>
    have bd : Below (w.heap.size + 2) w2 w2.drew := below_drewN _ _ 1
    have hS0 := HFS.out _ bd
    refine last_region (fun W' : World => W'.cell? ⟨w.heap.size, 0, none⟩ = some (.bool p.no) ∧ W'.cell? ⟨w.heap.size, 1, none⟩ = some (.slice ka p.k.length kc) ∧ W'.cell? ⟨w.heap.size, 2, none⟩ = some (.slice va p.v.length vc)) 13 (by kernel_rfl) ?_
    refine wpAnyE_take (i := 0) (v := ?_) rfl (by kernel_rfl) (by kernel_rfl) (by kernel_rfl) (by kernel_rfl) (by kernel_rfl) (fun _ _ _ h => h) (Or.inl ⟨by rfl, ?_⟩) (by assumption) ?_; rotate_left; (focus (intro w hSw; (try dsimp only at hSw); (try obtain ⟨hSw1, hSw2, hSw3⟩ := hSw); go_simp <;> with_reducible rfl)); (try simp only [Act.put, List.getElem_toArray, List.getElem_cons_zero, List.getElem_cons_succ, List.setIfInBounds_toArray, List.set_cons_zero, List.set_cons_succ])
    refine wpAnyE_take (i := 1) (v := ?_) rfl (by kernel_rfl) (by kernel_rfl) (by kernel_rfl) (by kernel_rfl) (by kernel_rfl) (fun _ _ _ h => h) (Or.inl ⟨by rfl, ?_⟩) (by assumption) ?_; rotate_left; (focus (intro w hSw; (try dsimp only at hSw); (try obtain ⟨hSw1, hSw2, hSw3⟩ := hSw); go_simp <;> with_reducible rfl)); (try simp only [Act.put, List.getElem_toArray, List.getElem_cons_zero, List.getElem_cons_succ, List.setIfInBounds_toArray, List.set_cons_zero, List.set_cons_succ])
    refine wpAnyE_take (i := 2) (v := ?_) rfl (by kernel_rfl) (by kernel_rfl) (by kernel_rfl) (by kernel_rfl) (by kernel_rfl) (fun _ _ _ h => h) (Or.inl ⟨by rfl, ?_⟩) (by assumption) ?_; rotate_left; (focus (intro w hSw; (try dsimp only at hSw); (try obtain ⟨hSw1, hSw2, hSw3⟩ := hSw); go_simp <;> with_reducible rfl)); (try simp only [Act.put, List.getElem_toArray, List.getElem_cons_zero, List.getElem_cons_succ, List.setIfInBounds_toArray, List.set_cons_zero, List.set_cons_succ])
    refine wpAnyE_take (i := 3) (v := ?_) rfl (by kernel_rfl) (by kernel_rfl) (by kernel_rfl) (by kernel_rfl) (by kernel_rfl) (fun _ _ _ h => h) (Or.inl ⟨by rfl, ?_⟩) (by assumption) ?_; rotate_left; (focus (intro w hSw; (try dsimp only at hSw); (try obtain ⟨hSw1, hSw2, hSw3⟩ := hSw); go_simp <;> with_reducible rfl)); (try simp only [Act.put, List.getElem_toArray, List.getElem_cons_zero, List.getElem_cons_succ, List.setIfInBounds_toArray, List.set_cons_zero, List.set_cons_succ])
    refine wpAnyE_take (i := 4) (v := ?_) rfl (by kernel_rfl) (by kernel_rfl) (by kernel_rfl) (by kernel_rfl) (by kernel_rfl) (fun _ _ _ h => h) (Or.inl ⟨by rfl, ?_⟩) (by assumption) ?_; rotate_left; (focus (intro w hSw; (try dsimp only at hSw); (try obtain ⟨hSw1, hSw2, hSw3⟩ := hSw); go_simp <;> with_reducible rfl)); (try simp only [Act.put, List.getElem_toArray, List.getElem_cons_zero, List.getElem_cons_succ, List.setIfInBounds_toArray, List.set_cons_zero, List.set_cons_succ])
    refine wpAnyE_take (i := 6) (v := ?_) rfl (by kernel_rfl) (by kernel_rfl) (by kernel_rfl) (by kernel_rfl) (by kernel_rfl) (fun _ _ _ h => h) (Or.inl ⟨by rfl, ?_⟩) (by assumption) ?_; rotate_left; (focus (intro w hSw; (try dsimp only at hSw); (try obtain ⟨hSw1, hSw2, hSw3⟩ := hSw); go_simp <;> with_reducible rfl)); (try simp only [Act.put, List.getElem_toArray, List.getElem_cons_zero, List.getElem_cons_succ, List.setIfInBounds_toArray, List.set_cons_zero, List.set_cons_succ])
    refine wpAnyE_take (i := 7) (v := ?_) rfl (by kernel_rfl) (by kernel_rfl) (by kernel_rfl) (by kernel_rfl) (by kernel_rfl) (fun _ _ _ h => h) (Or.inl ⟨by rfl, ?_⟩) (by assumption) ?_; rotate_left; (focus (intro w hSw; (try dsimp only at hSw); (try obtain ⟨hSw1, hSw2, hSw3⟩ := hSw); go_simp <;> with_reducible rfl)); (try simp only [Act.put, List.getElem_toArray, List.getElem_cons_zero, List.getElem_cons_succ, List.setIfInBounds_toArray, List.set_cons_zero, List.set_cons_succ])
    refine wpAnyE_take (i := 8) (v := ?_) rfl (by kernel_rfl) (by kernel_rfl) (by kernel_rfl) (by kernel_rfl) (by kernel_rfl) (fun _ _ _ h => h) (Or.inl ⟨by rfl, ?_⟩) (by assumption) ?_; rotate_left; (focus (intro w hSw; (try dsimp only at hSw); (try obtain ⟨hSw1, hSw2, hSw3⟩ := hSw); go_simp <;> with_reducible rfl)); (try simp only [Act.put, List.getElem_toArray, List.getElem_cons_zero, List.getElem_cons_succ, List.setIfInBounds_toArray, List.set_cons_zero, List.set_cons_succ])
    refine takeE_two (i := 5) (j := 12) (by kernel_rfl) rfl rfl rfl rfl ?_ ?_
    · refine wp_call_of #[.slice ka p.k.length kc] (fun u w' => ∃ g1, u = .slice (some ⟨g1, 0, none⟩) p.k.length (p.k.length + 1) ∧ Lends w2.drew.heap.size w' (.slice (some ⟨g1, 0, none⟩) p.k.length (p.k.length + 1)) p.k ∧ Below w2.drew.heap.size w2.drew w') rfl (by kernel_rfl) (enters_of Tryd.func20 (by kernel_rfl) rfl) ((lentZ_any B _ p.k w2.drew (by have := (bd).size; omega) (hk.below ((bd).mono (by omega))) hkl').mono fun e w' ⟨v', h1, h2, h3⟩ => by obtain ⟨g1, rfl, h4⟩ := h2; exact ⟨_, h1, g1, rfl, ⟨g1, rfl, h4⟩, h3⟩) ?_
      rintro _ Y1 ⟨g1, rfl, Lk, dY1⟩
      have bY1 : Below (w.heap.size + 2) w2 Y1 := (bd).trans (dY1.mono (by have := (bd).size; omega))
      have hSY1 := HFS.out Y1 bY1
      refine ⟨.inl hSY1, ?_⟩
      simp only [Act.put, List.getElem_toArray, List.getElem_cons_zero, List.getElem_cons_succ, List.setIfInBounds_toArray, List.set_cons_zero, List.set_cons_succ]
      have z1 := dY1.size
      have zz : w2.drew.heap.size = w2.heap.size := rfl
      refine takeE_two (i := 9) (j := 12) (by kernel_rfl) rfl rfl rfl rfl ?_ ?_
      · refine wp_call_of #[.slice va p.v.length vc] (fun u w' => ∃ g2, u = .slice (some ⟨g2, 0, none⟩) p.v.length (p.v.length + 1) ∧ Lends Y1.heap.size w' (.slice (some ⟨g2, 0, none⟩) p.v.length (p.v.length + 1)) p.v ∧ Below Y1.heap.size Y1 w') rfl (by kernel_rfl) (enters_of Tryd.func20 (by kernel_rfl) rfl) ((lentZ_any B _ p.v Y1 (by have := (bY1).size; omega) (hv.below ((bY1).mono (by omega))) hvl').mono fun e w' ⟨v', h1, h2, h3⟩ => by obtain ⟨g2, rfl, h4⟩ := h2; exact ⟨_, h1, g2, rfl, ⟨g2, rfl, h4⟩, h3⟩) ?_
        rintro _ Y2 ⟨g2, rfl, Lv, dY2⟩
        have bY2 : Below (w.heap.size + 2) w2 Y2 := (bY1).trans (dY2.mono (by have := (bY1).size; omega))
        have hSY2 := HFS.out Y2 bY2
        refine ⟨.inl hSY2, ?_⟩
        simp only [Act.put, List.getElem_toArray, List.getElem_cons_zero, List.getElem_cons_succ, List.setIfInBounds_toArray, List.set_cons_zero, List.set_cons_succ]
        have z2 := dY2.size
        refine wpAnyE_take (i := 10) (v := .agg #[.slice (some ⟨g1, 0, none⟩) p.k.length (p.k.length + 1), .slice (some ⟨g2, 0, none⟩) p.v.length (p.v.length + 1)]) rfl (by kernel_rfl) (by kernel_rfl) (by kernel_rfl) (by kernel_rfl) (by kernel_rfl) (fun _ _ _ h => h) (yields_build _ rfl [(0, .slice (some ⟨g1, 0, none⟩) p.k.length (p.k.length + 1)), (1, .slice (some ⟨g2, 0, none⟩) p.v.length (p.v.length + 1))] #[.slice (some ⟨g1, 0, none⟩) p.k.length (p.k.length + 1), .slice (some ⟨g2, 0, none⟩) p.v.length (p.v.length + 1)] (by kernel_rfl) (by rfl) (by kernel_rfl)) hSY2 ?_
        simp only [Act.put, List.getElem_toArray, List.getElem_cons_zero, List.getElem_cons_succ, List.setIfInBounds_toArray, List.set_cons_zero, List.set_cons_succ]
        refine wpAnyE_take (i := 11) (v := .agg #[.bool p.no, .slice (some ⟨g1, 0, none⟩) p.k.length (p.k.length + 1), .slice (some ⟨g2, 0, none⟩) p.v.length (p.v.length + 1), .slice none 0 0]) rfl (by kernel_rfl) (by kernel_rfl) (by kernel_rfl) (by kernel_rfl) (by kernel_rfl) (fun _ _ _ h => h) (yields_build _ rfl [(0, .bool p.no), (1, .agg #[.slice (some ⟨g1, 0, none⟩) p.k.length (p.k.length + 1), .slice (some ⟨g2, 0, none⟩) p.v.length (p.v.length + 1)])] #[.bool p.no, .slice (some ⟨g1, 0, none⟩) p.k.length (p.k.length + 1), .slice (some ⟨g2, 0, none⟩) p.v.length (p.v.length + 1), .slice none 0 0] (by kernel_rfl) (by rfl) (by kernel_rfl)) hSY2 ?_
        simp only [Act.put, List.getElem_toArray, List.getElem_cons_zero, List.getElem_cons_succ, List.setIfInBounds_toArray, List.set_cons_zero, List.set_cons_succ]
        refine takeE_one (i := 12) (by kernel_rfl) rfl rfl ?_
        have bY3 : Below (w.heap.size + 2) w2 (Y2.alloc (.cells #[.bool false, .slice none 0 0, .slice none 0 0, .slice none 0 0] 29)) := (bY2).trans ((new_allocZ Y2 _).mono (by have := (bY2).size; omega))
        have hSY3 := HFS.out _ bY3
        have nB := World.alloc_heap_new Y2 (.cells #[.bool false, .slice none 0 0, .slice none 0 0, .slice none 0 0] 29)
        have dY3 := new_allocZ Y2 (.cells #[.bool false, .slice none 0 0, .slice none 0 0, .slice none 0 0] 29)
        refine wp_alloc_of rfl (alloc_proof _) ⟨.inl hSY3, ?_⟩
        simp only [Act.put, List.getElem_toArray, List.getElem_cons_zero, List.getElem_cons_succ, List.setIfInBounds_toArray, List.set_cons_zero, List.set_cons_succ]
        obtain ⟨Y3, hY3⟩ : ∃ Y3, Y2.alloc (.cells #[.bool false, .slice none 0 0, .slice none 0 0, .slice none 0 0] 29) = Y3 := ⟨_, rfl⟩
        rw [hY3] at bY3 hSY3 nB dY3 ⊢
        have z3 := dY3.size
        refine takeE_storerow (i := 13) (by kernel_rfl) rfl rfl 29 (.tmp 3) (.tmp 15) rfl Y2.heap.size #[.bool p.no, .slice (some ⟨g1, 0, none⟩) p.k.length (p.k.length + 1), .slice (some ⟨g2, 0, none⟩) p.v.length (p.v.length + 1), .slice none 0 0] (by kernel_rfl) (by kernel_rfl) 29 #[.bool false, .slice none 0 0, .slice none 0 0, .slice none 0 0] nB Tryd.infoProof rfl (one_fourZ _ _ _ _ _ _ _ _ _ _) (.inr rfl) ?_
        refine wpAnyE_done (by kernel_rfl) ?_ _
        refine ⟨rfl, Y2.heap.size, (.slice (some ⟨g1, 0, none⟩) p.k.length (p.k.length + 1)), (.slice (some ⟨g2, 0, none⟩) p.v.length (p.v.length + 1)), _, _, _, _, _, _, _, _, _, _, _, _, rfl, lp_of nB ((Lk.newer dY2).newer dY3) (Lv.newer dY3) ?_ ?_ ?_ ?_ ?_ ?_ ?_ bY3⟩
        all_goals first
          | omega
          | (intro g hg e; simp only [Value.ownBlock, Option.some.injEq] at hg e; have q1 := Lk.block g1 rfl; have q2 := Lv.block g2 rfl; omega)
          | (intro g hg; simp only [Value.ownBlock, Option.some.injEq] at hg; have q1 := Lk.block g1 rfl; have q2 := Lv.block g2 rfl; omega)
      · have bY2 : Below (w.heap.size + 2) w2 (Y1.alloc (.cells #[.bool false, .slice none 0 0, .slice none 0 0, .slice none 0 0] 29)) := (bY1).trans ((new_allocZ Y1 _).mono (by have := (bY1).size; omega))
        have hSY2 := HFS.out _ bY2
        have nB := World.alloc_heap_new Y1 (.cells #[.bool false, .slice none 0 0, .slice none 0 0, .slice none 0 0] 29)
        have dY2 := new_allocZ Y1 (.cells #[.bool false, .slice none 0 0, .slice none 0 0, .slice none 0 0] 29)
        refine wp_alloc_of rfl (alloc_proof _) ⟨.inl hSY2, ?_⟩
        simp only [Act.put, List.getElem_toArray, List.getElem_cons_zero, List.getElem_cons_succ, List.setIfInBounds_toArray, List.set_cons_zero, List.set_cons_succ]
        obtain ⟨Y2, hY2⟩ : ∃ Y2, Y1.alloc (.cells #[.bool false, .slice none 0 0, .slice none 0 0, .slice none 0 0] 29) = Y2 := ⟨_, rfl⟩
        rw [hY2] at bY2 hSY2 nB dY2 ⊢
        have z2 := dY2.size
        have zn := (Array.getElem?_eq_some_iff.1 nB).1
        refine takeE_one (i := 9) (by kernel_rfl) rfl rfl ?_
        refine wp_call_of #[.slice va p.v.length vc] (fun u w' => ∃ g2, u = .slice (some ⟨g2, 0, none⟩) p.v.length (p.v.length + 1) ∧ Lends Y2.heap.size w' (.slice (some ⟨g2, 0, none⟩) p.v.length (p.v.length + 1)) p.v ∧ Below Y2.heap.size Y2 w') rfl (by kernel_rfl) (enters_of Tryd.func20 (by kernel_rfl) rfl) ((lentZ_any B _ p.v Y2 (by have := (bY2).size; omega) (hv.below ((bY2).mono (by omega))) hvl').mono fun e w' ⟨v', h1, h2, h3⟩ => by obtain ⟨g2, rfl, h4⟩ := h2; exact ⟨_, h1, g2, rfl, ⟨g2, rfl, h4⟩, h3⟩) ?_
        rintro _ Y3 ⟨g2, rfl, Lv, dY3⟩
        have bY3 : Below (w.heap.size + 2) w2 Y3 := (bY2).trans (dY3.mono (by have := (bY2).size; omega))
        have hSY3 := HFS.out Y3 bY3
        refine ⟨.inl hSY3, ?_⟩
        simp only [Act.put, List.getElem_toArray, List.getElem_cons_zero, List.getElem_cons_succ, List.setIfInBounds_toArray, List.set_cons_zero, List.set_cons_succ]
        have z3 := dY3.size
        replace nB := (dY3.block _ zn).trans nB
        refine takeE_build (i := 10) [(0, .slice (some ⟨g1, 0, none⟩) p.k.length (p.k.length + 1)), (1, .slice (some ⟨g2, 0, none⟩) p.v.length (p.v.length + 1))] #[.slice (some ⟨g1, 0, none⟩) p.k.length (p.k.length + 1), .slice (some ⟨g2, 0, none⟩) p.v.length (p.v.length + 1)] (by kernel_rfl) rfl rfl rfl (by kernel_rfl) (by kernel_rfl) hSY3 ?_
        simp only [Act.put, List.getElem_toArray, List.getElem_cons_zero, List.getElem_cons_succ, List.setIfInBounds_toArray, List.set_cons_zero, List.set_cons_succ]
        refine takeE_build (i := 11) [(0, .bool p.no), (1, .agg #[.slice (some ⟨g1, 0, none⟩) p.k.length (p.k.length + 1), .slice (some ⟨g2, 0, none⟩) p.v.length (p.v.length + 1)])] #[.bool p.no, .slice (some ⟨g1, 0, none⟩) p.k.length (p.k.length + 1), .slice (some ⟨g2, 0, none⟩) p.v.length (p.v.length + 1), .slice none 0 0] (by kernel_rfl) rfl rfl rfl (by kernel_rfl) (by kernel_rfl) hSY3 ?_
        simp only [Act.put, List.getElem_toArray, List.getElem_cons_zero, List.getElem_cons_succ, List.setIfInBounds_toArray, List.set_cons_zero, List.set_cons_succ]
        refine takeE_storerow (i := 13) (by kernel_rfl) rfl rfl 29 (.tmp 3) (.tmp 15) rfl Y1.heap.size #[.bool p.no, .slice (some ⟨g1, 0, none⟩) p.k.length (p.k.length + 1), .slice (some ⟨g2, 0, none⟩) p.v.length (p.v.length + 1), .slice none 0 0] (by kernel_rfl) (by kernel_rfl) 29 #[.bool false, .slice none 0 0, .slice none 0 0, .slice none 0 0] nB Tryd.infoProof rfl (one_fourZ _ _ _ _ _ _ _ _ _ _) (.inr rfl) ?_
        refine wpAnyE_done (by kernel_rfl) ?_ _
        refine ⟨rfl, Y1.heap.size, (.slice (some ⟨g1, 0, none⟩) p.k.length (p.k.length + 1)), (.slice (some ⟨g2, 0, none⟩) p.v.length (p.v.length + 1)), _, _, _, _, _, _, _, _, _, _, _, _, rfl, lp_of nB ((Lk.newer dY2).newer dY3) (Lv) ?_ ?_ ?_ ?_ ?_ ?_ ?_ bY3⟩
        all_goals first
          | omega
          | (intro g hg e; simp only [Value.ownBlock, Option.some.injEq] at hg e; have q1 := Lk.block g1 rfl; have q2 := Lv.block g2 rfl; omega)
          | (intro g hg; simp only [Value.ownBlock, Option.some.injEq] at hg; have q1 := Lk.block g1 rfl; have q2 := Lv.block g2 rfl; omega)
    · have bY1 : Below (w.heap.size + 2) w2 (w2.drew.alloc (.cells #[.bool false, .slice none 0 0, .slice none 0 0, .slice none 0 0] 29)) := (bd).trans ((new_allocZ w2.drew _).mono (by have := (bd).size; omega))
      have hSY1 := HFS.out _ bY1
      have nB := World.alloc_heap_new w2.drew (.cells #[.bool false, .slice none 0 0, .slice none 0 0, .slice none 0 0] 29)
      have dY1 := new_allocZ w2.drew (.cells #[.bool false, .slice none 0 0, .slice none 0 0, .slice none 0 0] 29)
      refine wp_alloc_of rfl (alloc_proof _) ⟨.inl hSY1, ?_⟩
      simp only [Act.put, List.getElem_toArray, List.getElem_cons_zero, List.getElem_cons_succ, List.setIfInBounds_toArray, List.set_cons_zero, List.set_cons_succ]
      obtain ⟨Y1, hY1⟩ : ∃ Y1, w2.drew.alloc (.cells #[.bool false, .slice none 0 0, .slice none 0 0, .slice none 0 0] 29) = Y1 := ⟨_, rfl⟩
      rw [hY1] at bY1 hSY1 nB dY1 ⊢
      have z1 := dY1.size
      have zz : w2.drew.heap.size = w2.heap.size := rfl
      have zn := (Array.getElem?_eq_some_iff.1 nB).1
      refine takeE_one (i := 5) (by kernel_rfl) rfl rfl ?_
      refine wp_call_of #[.slice ka p.k.length kc] (fun u w' => ∃ g1, u = .slice (some ⟨g1, 0, none⟩) p.k.length (p.k.length + 1) ∧ Lends Y1.heap.size w' (.slice (some ⟨g1, 0, none⟩) p.k.length (p.k.length + 1)) p.k ∧ Below Y1.heap.size Y1 w') rfl (by kernel_rfl) (enters_of Tryd.func20 (by kernel_rfl) rfl) ((lentZ_any B _ p.k Y1 (by have := (bY1).size; omega) (hk.below ((bY1).mono (by omega))) hkl').mono fun e w' ⟨v', h1, h2, h3⟩ => by obtain ⟨g1, rfl, h4⟩ := h2; exact ⟨_, h1, g1, rfl, ⟨g1, rfl, h4⟩, h3⟩) ?_
      rintro _ Y2 ⟨g1, rfl, Lk, dY2⟩
      have bY2 : Below (w.heap.size + 2) w2 Y2 := (bY1).trans (dY2.mono (by have := (bY1).size; omega))
      have hSY2 := HFS.out Y2 bY2
      refine ⟨.inl hSY2, ?_⟩
      simp only [Act.put, List.getElem_toArray, List.getElem_cons_zero, List.getElem_cons_succ, List.setIfInBounds_toArray, List.set_cons_zero, List.set_cons_succ]
      have z2 := dY2.size
      replace nB := (dY2.block _ zn).trans nB
      refine takeE_one (i := 9) (by kernel_rfl) rfl rfl ?_
      refine wp_call_of #[.slice va p.v.length vc] (fun u w' => ∃ g2, u = .slice (some ⟨g2, 0, none⟩) p.v.length (p.v.length + 1) ∧ Lends Y2.heap.size w' (.slice (some ⟨g2, 0, none⟩) p.v.length (p.v.length + 1)) p.v ∧ Below Y2.heap.size Y2 w') rfl (by kernel_rfl) (enters_of Tryd.func20 (by kernel_rfl) rfl) ((lentZ_any B _ p.v Y2 (by have := (bY2).size; omega) (hv.below ((bY2).mono (by omega))) hvl').mono fun e w' ⟨v', h1, h2, h3⟩ => by obtain ⟨g2, rfl, h4⟩ := h2; exact ⟨_, h1, g2, rfl, ⟨g2, rfl, h4⟩, h3⟩) ?_
      rintro _ Y3 ⟨g2, rfl, Lv, dY3⟩
      have bY3 : Below (w.heap.size + 2) w2 Y3 := (bY2).trans (dY3.mono (by have := (bY2).size; omega))
      have hSY3 := HFS.out Y3 bY3
      refine ⟨.inl hSY3, ?_⟩
      simp only [Act.put, List.getElem_toArray, List.getElem_cons_zero, List.getElem_cons_succ, List.setIfInBounds_toArray, List.set_cons_zero, List.set_cons_succ]
      have z3 := dY3.size
      replace nB := (dY3.block _ (by omega)).trans nB
      refine takeE_build (i := 10) [(0, .slice (some ⟨g1, 0, none⟩) p.k.length (p.k.length + 1)), (1, .slice (some ⟨g2, 0, none⟩) p.v.length (p.v.length + 1))] #[.slice (some ⟨g1, 0, none⟩) p.k.length (p.k.length + 1), .slice (some ⟨g2, 0, none⟩) p.v.length (p.v.length + 1)] (by kernel_rfl) rfl rfl rfl (by kernel_rfl) (by kernel_rfl) hSY3 ?_
      simp only [Act.put, List.getElem_toArray, List.getElem_cons_zero, List.getElem_cons_succ, List.setIfInBounds_toArray, List.set_cons_zero, List.set_cons_succ]
      refine takeE_build (i := 11) [(0, .bool p.no), (1, .agg #[.slice (some ⟨g1, 0, none⟩) p.k.length (p.k.length + 1), .slice (some ⟨g2, 0, none⟩) p.v.length (p.v.length + 1)])] #[.bool p.no, .slice (some ⟨g1, 0, none⟩) p.k.length (p.k.length + 1), .slice (some ⟨g2, 0, none⟩) p.v.length (p.v.length + 1), .slice none 0 0] (by kernel_rfl) rfl rfl rfl (by kernel_rfl) (by kernel_rfl) hSY3 ?_
      simp only [Act.put, List.getElem_toArray, List.getElem_cons_zero, List.getElem_cons_succ, List.setIfInBounds_toArray, List.set_cons_zero, List.set_cons_succ]
      refine takeE_storerow (i := 13) (by kernel_rfl) rfl rfl 29 (.tmp 3) (.tmp 15) rfl w2.drew.heap.size #[.bool p.no, .slice (some ⟨g1, 0, none⟩) p.k.length (p.k.length + 1), .slice (some ⟨g2, 0, none⟩) p.v.length (p.v.length + 1), .slice none 0 0] (by kernel_rfl) (by kernel_rfl) 29 #[.bool false, .slice none 0 0, .slice none 0 0, .slice none 0 0] nB Tryd.infoProof rfl (one_fourZ _ _ _ _ _ _ _ _ _ _) (.inr rfl) ?_
      refine wpAnyE_done (by kernel_rfl) ?_ _
      refine ⟨rfl, w2.drew.heap.size, (.slice (some ⟨g1, 0, none⟩) p.k.length (p.k.length + 1)), (.slice (some ⟨g2, 0, none⟩) p.v.length (p.v.length + 1)), _, _, _, _, _, _, _, _, _, _, _, _, rfl, lp_of nB (Lk.newer dY3) (Lv) ?_ ?_ ?_ ?_ ?_ ?_ ?_ bY3⟩
      all_goals first
        | omega
        | (intro g hg e; simp only [Value.ownBlock, Option.some.injEq] at hg e; have q1 := Lk.block g1 rfl; have q2 := Lv.block g2 rfl; omega)
        | (intro g hg; simp only [Value.ownBlock, Option.some.injEq] at hg; have q1 := Lk.block g1 rfl; have q2 := Lv.block g2 rfl; omega)
  case rest =>
    rintro e a' W ⟨rfl, gb, kv', vv', t4, t5, t6, t7, t8, t9, t10, t11, t12, t13, t14, t15, rfl, hL⟩
    obtain ⟨g1, rfl, _⟩ := id hL.k
    obtain ⟨g2, rfl, _⟩ := id hL.v
    obtain ⟨_, _, _, c3⟩ := proof_cells ((hL.below.block _ (by omega)).trans n0)
    obtain ⟨_, _, _, q3⟩ := proof_cells hL.bx
    have HN1 := hid ((hL.below.block _ (by omega)).trans n1)
    have hst := hp.hs.below ((hbn.trans (hL.below.mono (by omega))).mono hB)
    have hzW := hL.below.size
    have hBW : w.heap.size + 2 ≤ W.heap.size := by omega
    have HL := hid hL
    have hlow := hL.low
    have HBN := hid hbn
    clear hL
    -- what is so once the steps are there
    have HFIN : Hid (∀ (W3 : World) (sv' : Value), W.grownBy W3 (Value.ownBlock (.slice none 0 0)) → W3.ownsRow (w.heap.size + 2) 66 34 sv' p.st.length (p.st.flatMap zc) → W3.heap[gb]? = some (.cells #[.bool p.no, .slice (some ⟨g1, 0, none⟩) p.k.length (p.k.length + 1), .slice (some ⟨g2, 0, none⟩) p.v.length (p.v.length + 1), .slice none 0 0] 29 (0, 0)) ∧ W3.heap[w.heap.size + 1]? = some (.cells #[.bool false, .slice none 0 0, .slice none 0 0, .slice none 0 0] 29 (0, 0)) ∧ Lends (w.heap.size + 2) W3 (.slice (some ⟨g1, 0, none⟩) p.k.length (p.k.length + 1)) p.k ∧ Lends (w.heap.size + 2) W3 (.slice (some ⟨g2, 0, none⟩) p.v.length (p.v.length + 1)) p.v ∧ Below (w.heap.size + 2) w2 W3) := hid (fun W3 sv' hg ho => by
      have sg : Spares (fun _ => False) W W3 := Spares.of_grown hg (fun k e => by cases e)
      exact ⟨(sg.block _ (block_lt HL.out.bx) id).trans HL.out.bx, (sg.block _ (block_lt HN1.out) id).trans HN1.out, HL.out.k.sparesZ sg (fun _ _ => id), HL.out.v.sparesZ sg (fun _ _ => id), HL.out.below.trans (sg.below (fun i hi => hi.elim) hBW)⟩)
    obtain ⟨i0, hi, hz0, hzz1, hzz2⟩ := info_parts Tryd.infoStep
    have hokS := hst.ok
    cases sa with
    | some ad =>
      go_wp2_with (first
            | (at_builtin; go_loud (refine wpList_append_own W rfl (.tmp 17) (.tmp 19) 27 rfl (w.heap.size + 2) 66 i0 _ 34 48 Tryd.underlying27 hi hz0 hzz1 hzz2 rfl (by decide) (.slice none 0 0) 0 [] rfl (World.ownsRow_nil _ _ _ _) ad p.st.length sc (p.st.flatMap zc) rfl (flat_len _ hokS) (stps_news hst) (fun u hu => by obtain ⟨s, _, h2⟩ := List.mem_flatMap.1 hu; exact zc_one s u h2) (by unfold maxLen; omega) (by omega) hBW ?_)
               intro sv' W3 ho3 hg3 _
               rw [Nat.zero_add, List.nil_append] at ho3
               obtain ⟨sA, sC, rfl, _, _⟩ := (stps_of_row ho3 hokS).form
               obtain ⟨f1, f2, f3, f4, f5⟩ := HFIN.out W3 _ hg3 ho3
               obtain ⟨_, _, _, r3⟩ := proof_cells f1
               have hfz : W3.frozen? ⟨gb, 3, none⟩ = false := by simp [World.frozen?, f1]
               have s4 : Spares (fun i => i = gb) W3 (W3.setCell ⟨gb, 3, none⟩ (.slice sA p.st.length sC)) := spares_set W3 ⟨gb, 3, none⟩ (.slice sA p.st.length sC)
               have H4 : Hid ((W3.setCell ⟨gb, 3, none⟩ (.slice sA p.st.length sC)).heap[gb]? = some (.cells #[.bool p.no, .slice (some ⟨g1, 0, none⟩) p.k.length (p.k.length + 1), .slice (some ⟨g2, 0, none⟩) p.v.length (p.v.length + 1), .slice sA p.st.length sC] 29 (0, 0))) := hid (heap_setCell_same _ _ _ _ _ _ f1)
               have HN4 := hid ((s4.block _ (block_lt f2) (by omega)).trans f2)
               have HE4 := hid (lent_end HBN.out hsn hlow HL.out.ap HL.out.nk HL.out.nv f3 f4 ho3 f5 (row_type_ne ho3 f1) (W3.setCell ⟨gb, 3, none⟩ (.slice sA p.st.length sC)) s4)
               clear f1 f2 f3 f4 f5 s4 hg3 ho3)
            | (refine wpList_load_z rfl 29 (.tmp 3) rfl ⟨gb, 0, none⟩ rfl #[.bool p.no, .slice (some ⟨g1, 0, none⟩) p.k.length (p.k.length + 1), .slice (some ⟨g2, 0, none⟩) p.v.length (p.v.length + 1), .slice sA p.st.length sC] (load_row_proof H4.out rfl) ?_)
            | (refine wpList_store_row rfl 29 (.tmp 2) (.tmp 22) rfl (w.heap.size + 1) #[.bool p.no, .slice (some ⟨g1, 0, none⟩) p.k.length (p.k.length + 1), .slice (some ⟨g2, 0, none⟩) p.v.length (p.v.length + 1), .slice sA p.st.length sC] rfl rfl 29 #[.bool false, .slice none 0 0, .slice none 0 0, .slice none 0 0] HN4.out Tryd.infoProof rfl (one_fourZ _ _ _ _ _ _ _ _ _ _) ?_)
            | (refine bodyPost_ret (v := .agg #[.bool p.no, .slice (some ⟨g1, 0, none⟩) p.k.length (p.k.length + 1), .slice (some ⟨g2, 0, none⟩) p.v.length (p.v.length + 1), .slice sA p.st.length sC]) (results_cell_row (p := 2) (ty := 29) rfl _ _ (w.heap.size + 1) 29 #[.bool p.no, .slice (some ⟨g1, 0, none⟩) p.k.length (p.k.length + 1), .slice (some ⟨g2, 0, none⟩) p.v.length (p.v.length + 1), .slice sA p.st.length sC] (0, 0) _ rfl (setRow_heap _ _ _ _ _ _ HN4.out) Tryd.underlying29 rfl Tryd.infoProof) rfl (HE4.out _)))
    | none =>
      obtain rfl : sc = 0 := hnc _ _ rfl
      have hl0 : p.st.length = 0 := by omega
      have hst1 : p.st = [] := List.eq_nil_of_length_eq_zero hl0
      have HO3 : Hid (W.ownsRow (w.heap.size + 2) 66 34 (.slice none 0 0) p.st.length (p.st.flatMap zc)) := hid (by rw [hst1]; exact World.ownsRow_nil _ _ _ _)
      rw [hl0] at c3
      clear hst1 hl0 hs1
      go_wp2_with (first
            | (at_builtin; refine wpList_append_own_none rfl (.tmp 17) (.tmp 19) 27 rfl (w.heap.size + 2) 66 i0 34 Tryd.underlying27 hi (.slice none 0 0) 0 [] rfl (World.ownsRow_nil _ _ _ _) rfl ?_
               obtain ⟨f1, f2, f3, f4, f5⟩ := HFIN.out W _ (World.grownBy.refl W _) HO3.out
               have hfz : W.frozen? ⟨gb, 3, none⟩ = false := by simp [World.frozen?, f1]
               have s4 : Spares (fun i => i = gb) W (W.setCell ⟨gb, 3, none⟩ (.slice none 0 0)) := spares_set W ⟨gb, 3, none⟩ (.slice none 0 0)
               have H4 : Hid ((W.setCell ⟨gb, 3, none⟩ (.slice none 0 0)).heap[gb]? = some (.cells #[.bool p.no, .slice (some ⟨g1, 0, none⟩) p.k.length (p.k.length + 1), .slice (some ⟨g2, 0, none⟩) p.v.length (p.v.length + 1), .slice none 0 0] 29 (0, 0))) := hid (heap_setCell_same _ _ _ _ _ _ f1)
               have HN4 := hid ((s4.block _ (block_lt f2) (by omega)).trans f2)
               have HE4 := hid (lent_end HBN.out hsn hlow HL.out.ap HL.out.nk HL.out.nv f3 f4 HO3.out f5 (fun i hi => by cases hi) (W.setCell ⟨gb, 3, none⟩ (.slice none 0 0)) s4)
               clear f1 f2 f3 f4 f5 s4)
            | (refine wpList_load_z rfl 29 (.tmp 3) rfl ⟨gb, 0, none⟩ rfl #[.bool p.no, .slice (some ⟨g1, 0, none⟩) p.k.length (p.k.length + 1), .slice (some ⟨g2, 0, none⟩) p.v.length (p.v.length + 1), .slice none 0 0] (load_row_proof H4.out rfl) ?_)
            | (refine wpList_store_row rfl 29 (.tmp 2) (.tmp 22) rfl (w.heap.size + 1) #[.bool p.no, .slice (some ⟨g1, 0, none⟩) p.k.length (p.k.length + 1), .slice (some ⟨g2, 0, none⟩) p.v.length (p.v.length + 1), .slice none 0 0] rfl rfl 29 #[.bool false, .slice none 0 0, .slice none 0 0, .slice none 0 0] HN4.out Tryd.infoProof rfl (one_fourZ _ _ _ _ _ _ _ _ _ _) ?_)
            | (refine bodyPost_ret (v := .agg #[.bool p.no, .slice (some ⟨g1, 0, none⟩) p.k.length (p.k.length + 1), .slice (some ⟨g2, 0, none⟩) p.v.length (p.v.length + 1), .slice none 0 0]) (results_cell_row (p := 2) (ty := 29) rfl _ _ (w.heap.size + 1) 29 #[.bool p.no, .slice (some ⟨g1, 0, none⟩) p.k.length (p.k.length + 1), .slice (some ⟨g2, 0, none⟩) p.v.length (p.v.length + 1), .slice none 0 0] (0, 0) _ rfl (setRow_heap _ _ _ _ _ _ HN4.out) Tryd.underlying29 rfl Tryd.infoProof) rfl (HE4.out _)))
end Go.Proofs.YtmafaioohiaenaaDoor
