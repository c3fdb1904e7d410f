/- Contracts of trie.rootOf and trie.RootOf. -/
import Derived.Test.YthkeofinamedfaaDoorAllF
import Derived.Test.YthkeofinamedfaaDoorDeleteF
import Derived.Deep.CutBlock
namespace Go.Proofs.YthkeofinamedfaaDoor
open Go.RowKit Go.Shelf
set_option linter.unusedVariables false
set_option linter.unusedSimpArgs false
set_option maxRecDepth 20000

theorem ent_at {xs : List EntV} {l : List Ent} (h : xs.map EntV.ent = l) {i : Nat} {x : EntV} (hi : xs[i]? = some x) : l[i]? = some (x.k, x.v) := by
  rw [← h, List.getElem?_map, hi]; rfl

theorem side_bits {p : Nat} {l r : Tri} (h : (Tri.fork p l r).WF) {xs : List EntV} (hx : xs.map EntV.ent = (Tri.fork p l r).ents) {i : Nat} {x : EntV} (hi : xs[i]? = some x) : bit x.k p = decide (l.ents.length ≤ i) := by
  have h1 := ent_at hx hi
  simp only [Tri.ents] at h1
  obtain ⟨_, _, h0, h1', _⟩ := h
  rcases Nat.lt_or_ge i l.ents.length with hlt | hge
  · rw [List.getElem?_append_left hlt] at h1
    have := h0 _ (List.mem_of_getElem? h1)
    simp only at this
    rw [this, decide_eq_false (by omega)]
  · rw [List.getElem?_append_right hge] at h1
    have := h1' _ (List.mem_of_getElem? h1)
    simp only at this
    rw [this, decide_eq_true hge]

theorem ends_unlike {p : Nat} {l r : Tri} (h : (Tri.fork p l r).WF) {xs : List EntV} (hx : xs.map EntV.ent = (Tri.fork p l r).ents) {j : Nat} {x y : EntV} (hi : xs[0]? = some x) (hj : xs[j]? = some y) (hjl : l.ents.length ≤ j) : fu x.k y.k = p := by
  have b1 := side_bits h hx hi
  have b2 := side_bits h hx hj
  have m1 := List.mem_of_getElem? (ent_at hx hi)
  have m2 := List.mem_of_getElem? (ent_at hx hj)
  have := Tri.ents_pos l
  rw [decide_eq_false (by omega)] at b1
  rw [decide_eq_true hjl] at b2
  exact fu_unique _ _ _ (fun i hi => Tri.alike p l r h _ _ m1 m2 i hi) (by rw [b1, b2]; simp)

theorem fork_parts {p : Nat} {l r : Tri} {xs : List EntV} (hx : xs.map EntV.ent = (Tri.fork p l r).ents) : (xs.take l.ents.length).map EntV.ent = l.ents ∧ (xs.drop l.ents.length).map EntV.ent = r.ents ∧ xs.length = l.ents.length + r.ents.length := by
  refine ⟨?_, ?_, ?_⟩
  · rw [List.map_take, hx, Tri.ents, List.take_left]
  · rw [List.map_drop, hx, Tri.ents, List.drop_left]
  · have := congrArg List.length hx; simpa [Tri.ents] using this

set_option maxHeartbeats 2000000 in
/-- The closure: the bit of an entry's key at a place. -/
theorem rootOf1_any (bl bp : Nat) (v : Value) (xs : List EntV) (p i : Nat) (x : EntV) (w : World) (hi : xs[i]? = some x) (hp : p < 1080) (hE : Ents w.heap.size w v xs)
    (h1 : w.cell? ⟨bl, 0, none⟩ = some v) (h2 : w.cell? ⟨bp, 0, none⟩ = some (.int .i64 p)) :
    Calls Tryd.prog 69 #[.int .i64 i, .pointer (some ⟨bl, 0, none⟩), .pointer (some ⟨bp, 0, none⟩)] w fun e w' => e = .returned (.bool (bit x.k p)) ∧ ∃ q, w' = w.drewN q := by
  obtain ⟨a, c, rfl, hc1, hc2, _⟩ := id hE
  have hlt : i < xs.length := (List.getElem?_eq_some_iff.1 hi).1
  obtain ⟨b, off, ka, kc, va, vc, kb, vb, rfl, hb, hx, c0, c1, s1, s2⟩ := hE.at i hlt
  rw [hi] at hx
  cases hx
  unfold maxLen at hc2
  have hii : (i : Int) < (xs.length : Int) := by omega
  have hi0 : (0 : Int) ≤ (i : Int) := by omega
  have hbit := fun m => bit_any _ (.slice ka kb.length kc) kb p (w.drewN m) (s1.below (below_drewN _ _ m)) (by omega) (by omega)
  simp only [bitI_nat] at hbit
  generalize bit kb p = bb at *
  clear s1 s2 hE
  go_enter Tryd.func69, Tryd.ntmps69
  go_wp2_with fail
  go_quiet ((go_at_call 20; exact Calls.quiet_of_same (hbit _)))
  go_wp2
  go_ret
  exact ⟨rfl, nq, rfl⟩

theorem heap_setCells : ∀ (vs : List Value) (W : World) (g o k : Nat), k ≠ g → (W.setCells g o vs).heap[k]? = W.heap[k]?
  | [], W, g, o, k, h => rfl
  | v :: vs, W, g, o, k, h => by
    simp only [World.setCells]
    rw [heap_setCells vs _ g (o + 1) k h]
    exact Below.heap_setCell W ⟨g, o, none⟩ v k h

theorem cell_setCells (vs : List Value) (W : World) (g o : Nat) (ad : Addr) (h : ad.block ≠ g) : (W.setCells g o vs).cell? ad = W.cell? ad := World.cell?_of_block (heap_setCells vs W g o ad.block h)

theorem Tryd.infoInt4 : (Tryd.prog.info? 3).map (·.size) = some 1 := by kernel_rfl

set_option maxHeartbeats 8000000 in
theorem rootOf_any : ∀ (t : Tri), t.WF → ∀ (v : Value) (xs : List EntV) (w : World), Ents w.heap.size w v xs → xs.map EntV.ent = t.ents → xs.length < 1000000000 → Tables w →
    Calls Tryd.prog 44 #[v] w fun e w' => e = .returned (.agg (sumV (rootT t))) ∧ Below w.heap.size w w' := by
  intro t
  induction t with
  | leaf k0 v0 =>
    intro hwf v xs w hE hx hn ht
    have hl1 : xs.length = 1 := by have := congrArg List.length hx; simpa [Tri.ents] using this
    obtain ⟨a, c, rfl, hc1, hc2, _⟩ := id hE
    obtain ⟨b, off, ka, kc, va, vc, kb, vb, rfl, hb, hx0, c0, c1, s1, s2⟩ := hE.at 0 (by omega)
    have e0 := ent_at hx hx0
    simp only [Tri.ents, List.getElem?_cons_zero, Option.some.injEq, Prod.mk.injEq] at e0
    obtain ⟨rfl, rfl⟩ := e0
    rw [hl1] at hc1 ⊢
    unfold maxLen at hc2
    have HS := hid (isSum (rootT (.leaf k0 v0)) (rootT_length _))
    simp only [rootT] at HS ⊢
    obtain ⟨h20, h21, hbn, hz⟩ := alloc2 w (.cells #[.slice (some ⟨b, off, none⟩) 1 c] 33) (.cells zero32 37)
    go_enter Tryd.func44, Tryd.ntmps44
    go_upto_block 0 with fail
    generalize hw1 : (w.alloc _).alloc _ = w1
    replace hbn : Below w.heap.size w w1 := by rw [← hw1]; exact hbn
    replace h20 : w1.heap[w.heap.size]? = some (.cells #[.slice (some ⟨b, off, none⟩) 1 c] 33 (0, 0)) := by rw [← hw1]; exact h20
    replace h21 : w1.heap[w.heap.size + 1]? = some (.cells zero32 37 (0, 0)) := by rw [← hw1]; exact h21
    clear hw1 hz
    have q0 : w1.cell? ⟨w.heap.size, 0, none⟩ = some (.slice (some ⟨b, off, none⟩) 1 c) := by rw [cell_of_row _ _ _ _ _ _ h20]; rfl
    have q1 : w1.cell? ⟨b, off, none⟩ = some (.slice ka k0.length kc) := (hbn.cell (p := ⟨b, off, none⟩) hb).trans (by simpa using c0)
    have q2 : w1.cell? ⟨b, off + 1, none⟩ = some (.slice va v0.length vc) := (hbn.cell (p := ⟨b, off + 1, none⟩) hb).trans (by simpa using c1)
    have HLS := leafSum_any _ _ k0 v0 w1 (Says.new s1 hbn) (Says.new s2 hbn) (ht.below hbn (by have := ht.lt; omega))
    obtain ⟨A, hA⟩ : ∃ A, sumV (leafS (k0, v0)) = A := ⟨_, rfl⟩
    rw [hA] at HLS HS
    have HA := hid hA
    clear hA
    have HN := hid h21
    have HB := hid hbn
    clear h20 h21 hbn hE hx hx0 c0 c1 s1 s2 ht
    go_wp2_with (first
      | (go_at_call 60; refine HLS.mono ?_; clear HLS; rintro e w2 ⟨rfl, hb2⟩
         have H2 := hid ((hb2.block _ (block_lt HN.out)).trans HN.out)
         have HB2 := hid (HB.out.trans (hb2.mono HB.out.size)))
      | (refine wpList_store_row rfl 37 (.tmp 2) (.tmp 15) rfl (w.heap.size + 1) A rfl rfl 37 zero32 H2.out HS.out.info HS.out.size HS.out.one ?_)
      | (refine bodyPost_ret (v := .agg A) (results_cell_row (p := 2) (ty := 37) rfl _ _ (w.heap.size + 1) 37 A (0, 0) _ rfl (setRow_heap _ _ _ _ _ _ H2.out) Tryd.underlying37 rfl HS.out.info) rfl ⟨by rw [HA.out], below_setRow HB2.out (Nat.le_succ _) _⟩))
  | fork p l r ihl ihr =>
    intro hwf v xs w hE hx hn ht
    obtain ⟨a, c, rfl, hc1, hc2, _⟩ := id hE
    unfold maxLen at hc2
    obtain ⟨hx1, hx2, hxl⟩ := fork_parts hx
    have hp := Tri.place_bound p _ _ hwf
    have pl := Tri.ents_pos l
    have pr := Tri.ents_pos r
    obtain ⟨nl, hnx⟩ : ∃ nl, xs.length = nl + 1 := ⟨xs.length - 1, by omega⟩
    obtain ⟨b, off, ka, kc, va, vc, kb, vb, rfl, hb, hx0, c0, _, s1, _⟩ := hE.at 0 (by omega)
    obtain ⟨b', off', la, lc, ua, uc, lb, ub, hbb, hb', hxn, d0, _, t1, _⟩ := hE.at nl (by omega)
    simp only [Option.some.injEq, Addr.mk.injEq, and_true] at hbb
    obtain ⟨rfl, rfl⟩ := hbb
    have hfu := ends_unlike hwf hx hx0 hxn (by omega)
    simp only at hfu
    have hkl : kb.length ≤ 140737488355328 := by
      have := (Tri.short_of _ hwf _ (List.mem_of_getElem? (ent_at hx hx0))).1
      simp at this; omega
    have hll : lb.length ≤ 140737488355328 := by
      have := (Tri.short_of _ hwf _ (List.mem_of_getElem? (ent_at hx hxn))).1
      simp at this; omega
    have HSB : Hid (∀ i x, xs[i]? = some x → bit x.k p = decide (l.ents.length ≤ i)) := hid (fun i x hi => side_bits hwf hx hi)
    obtain ⟨wl, wr', _⟩ := hwf
    have hlt := ht.lt
    have HLR : Hid (xs.length = l.ents.length + r.ents.length) := hid hxl
    rw [hnx] at hE hc1 hn ⊢
    obtain ⟨m, hm⟩ : ∃ m, l.ents.length = m := ⟨_, rfl⟩
    have hm0 : 0 < m := by omega
    have hmn : m < nl + 1 := by omega
    rw [hm] at HSB hx1 hx2
    have HEB : Hid (∀ W, Below w.heap.size w W → Ents w.heap.size W (.slice (some ⟨b, off, none⟩) (nl + 1) c) xs) := hid (fun W h => hE.below h)
    have HIL : Hid (∀ W, Below w.heap.size w W → Calls Tryd.prog 44 #[.slice (some ⟨b, off, none⟩) m c] W fun e w' => e = .returned (.agg (sumV (rootT l))) ∧ Below W.heap.size W w') := hid (fun W h => ihl wl _ (xs.take m) W (((HEB.out W h).take m (by omega)).mono h.size) hx1 (by simp; omega) (ht.below h (by omega)))
    have HIR : Hid (∀ W, Below w.heap.size w W → Calls Tryd.prog 44 #[.slice (some ⟨b, off + m * 2, none⟩) (nl + 1 - m) (c - m)] W fun e w' => e = .returned (.agg (sumV (rootT r))) ∧ Below W.heap.size W w') := hid (fun W h => ihr wr' _ (xs.drop m) W (by have := ((HEB.out W h).drop m (by omega)).mono h.size; rw [hnx] at this; exact this) hx2 (by simp; omega) (ht.below h (by omega)))
    have HIF : Hid (∀ W, Below w.heap.size w W → Calls Tryd.prog 61 #[.int .i64 p, .agg (sumV (rootT l)), .agg (sumV (rootT r))] W fun e w' => e = .returned (.agg ((forkS p (rootT l) (rootT r)).map by8).toArray) ∧ Below W.heap.size W w') := hid (fun W hW => forkSum_any p _ _ W hp (rootT_length _) (rootT_length _) (ht.below hW (by omega)))
    have hI : (Tryd.prog.info? 37).map (·.size) = some ((forkS p (rootT l) (rootT r)).map by8).length := by rw [List.length_map, show (forkS p (rootT l) (rootT r)).length = 32 from ofS_length _ _]; exact Tryd.infoSum
    have hone : ∀ v ∈ (forkS p (rootT l) (rootT r)).map by8, v.oneCell' = true := by8_one _
    have HLN : Hid (((forkS p (rootT l) (rootT r)).map by8).length = 32) := hid (by rw [List.length_map]; exact ofS_length _ _)
    have HEQ : Hid (sumV (forkS p (rootT l) (rootT r)) = ((forkS p (rootT l) (rootT r)).map by8).toArray) := hid rfl
    simp only [rootT]
    generalize (forkS p (rootT l) (rootT r)).map by8 = cs at *
    generalize sumV (rootT l) = AL at *
    generalize sumV (rootT r) = AR at *
    have HNX := hid hnx
    have HFU := hid hfu
    clear ihl ihr hxl pl pr hm hnx hx1 hx2 hfu hx wl wr' HLR
    obtain ⟨h20, h21, hbn, hz⟩ := alloc2 w (.cells #[.slice (some ⟨b, off, none⟩) (nl + 1) c] 33) (.cells zero32 37)
    have hn2 : (2 : Int) ≤ (nl : Int) + 1 := by omega
    have e0 : ((nl : Int) + 1 == 0) = false := by simp; omega
    have e1 : ((nl : Int) + 1 == 1) = false := by simp; omega
    go_enter Tryd.func44, Tryd.ntmps44
    go_upto_block 0 with fail
    generalize hw1 : (w.alloc _).alloc _ = w1
    replace hbn : Below w.heap.size w w1 := by rw [← hw1]; exact hbn
    replace h20 : w1.heap[w.heap.size]? = some (.cells #[.slice (some ⟨b, off, none⟩) (nl + 1) c] 33 (0, 0)) := by rw [← hw1]; exact h20
    replace h21 : w1.heap[w.heap.size + 1]? = some (.cells zero32 37 (0, 0)) := by rw [← hw1]; exact h21
    replace hz : w1.heap.size = w.heap.size + 2 := by rw [← hw1]; exact hz
    clear hw1
    have q0 : w1.cell? ⟨w.heap.size, 0, none⟩ = some (.slice (some ⟨b, off, none⟩) (nl + 1) c) := by rw [cell_of_row _ _ _ _ _ _ h20]; rfl
    have q1 : w1.cell? ⟨b, off, none⟩ = some (.slice ka kb.length kc) := (hbn.cell (p := ⟨b, off, none⟩) hb).trans (by simpa using c0)
    have q2 : w1.cell? ⟨b, off + nl * 2, none⟩ = some (.slice la lb.length lc) := (hbn.cell (p := ⟨b, off + nl * 2, none⟩) hb).trans d0
    have hnl0 : (0 : Int) ≤ (nl : Int) := by omega
    have hnli : (nl : Int) < (nl : Int) + 1 := by omega
    have hwr : IntKind.i64.wrap (nl : Int) = (nl : Int) := by rw [IntKind.wrap_i64]; omega
    have HUN := hid (fun W (hW : Below w.heap.size w W) => unlike_any _ _ (.slice ka kb.length kc) (.slice la lb.length lc) kb lb W (s1.below hW) (t1.below hW) hkl hll)
    rw [HFU.out] at HUN
    have HBN := hid hbn
    have HB1 := hid hbn.drew
    have H20 := hid h20
    have H21 := hid h21
    have HZ := hid hz
    have HSS : Hid (∀ W, Below w1.heap.size w1 W → W.cell? ⟨w.heap.size, 0, none⟩ = some (.slice (some ⟨b, off, none⟩) (nl + 1) c) ∧ W.cell? ⟨b, off, none⟩ = some (.slice ka kb.length kc) ∧ W.cell? ⟨b, off + nl * 2, none⟩ = some (.slice la lb.length lc)) := hid (fun W hW => ⟨(hW.cell (p := ⟨w.heap.size, 0, none⟩) (World.block_lt_of_cell? _ _ q0)).trans q0, (hW.cell (p := ⟨b, off, none⟩) (World.block_lt_of_cell? _ _ q1)).trans q1, (hW.cell (p := ⟨b, off + nl * 2, none⟩) (World.block_lt_of_cell? _ _ q2)).trans q2⟩)
    have hS0 := HSS.out w1.drew (below_drewN _ _ 1)
    clear hbn h20 h21 hz s1 t1 c0 d0 hE hx0 hxn
    go_wp2_with fail
    refine last_region (fun w' => w'.cell? ⟨w.heap.size, 0, none⟩ = some (.slice (some ⟨b, off, none⟩) (nl + 1) c) ∧ w'.cell? ⟨b, off, none⟩ = some (.slice ka kb.length kc) ∧ w'.cell? ⟨b, off + nl * 2, none⟩ = some (.slice la lb.length lc)) 13 (by kernel_rfl) ?_
    refine wpAnyE_take (i := 0) (v := ?_) rfl (by kernel_rfl) (by kernel_rfl) (by kernel_rfl) (by kernel_rfl) (by kernel_rfl) (fun _ _ _ h => h) (Or.inl ⟨by rfl, ?_⟩) (by assumption) ?_; rotate_left; (focus (intro w hSw; (try dsimp only at hSw); (try obtain ⟨hSw1, hSw2, hSw3⟩ := hSw); go_simp <;> with_reducible rfl)); (try simp only [Act.put, List.getElem_toArray, List.getElem_cons_zero, List.getElem_cons_succ, List.setIfInBounds_toArray, List.set_cons_zero, List.set_cons_succ])
    refine wpAnyE_take (i := 1) (v := ?_) rfl (by kernel_rfl) (by kernel_rfl) (by kernel_rfl) (by kernel_rfl) (by kernel_rfl) (fun _ _ _ h => h) (Or.inl ⟨by rfl, ?_⟩) (by assumption) ?_; rotate_left; (focus (intro w hSw; (try dsimp only at hSw); (try obtain ⟨hSw1, hSw2, hSw3⟩ := hSw); go_simp <;> with_reducible rfl)); (try simp only [Act.put, List.getElem_toArray, List.getElem_cons_zero, List.getElem_cons_succ, List.setIfInBounds_toArray, List.set_cons_zero, List.set_cons_succ])
    refine wpAnyE_take (i := 2) (v := ?_) rfl (by kernel_rfl) (by kernel_rfl) (by kernel_rfl) (by kernel_rfl) (by kernel_rfl) (fun _ _ _ h => h) (Or.inl ⟨by rfl, ?_⟩) (by assumption) ?_; rotate_left; (focus (intro w hSw; (try dsimp only at hSw); (try obtain ⟨hSw1, hSw2, hSw3⟩ := hSw); go_simp <;> with_reducible rfl)); (try simp only [Act.put, List.getElem_toArray, List.getElem_cons_zero, List.getElem_cons_succ, List.setIfInBounds_toArray, List.set_cons_zero, List.set_cons_succ])
    refine wpAnyE_take (i := 3) (v := ?_) rfl (by kernel_rfl) (by kernel_rfl) (by kernel_rfl) (by kernel_rfl) (by kernel_rfl) (fun _ _ _ h => h) (Or.inl ⟨by rfl, ?_⟩) (by assumption) ?_; rotate_left; (focus (intro w hSw; (try dsimp only at hSw); (try obtain ⟨hSw1, hSw2, hSw3⟩ := hSw); go_simp <;> with_reducible rfl)); (try simp only [Act.put, List.getElem_toArray, List.getElem_cons_zero, List.getElem_cons_succ, List.setIfInBounds_toArray, List.set_cons_zero, List.set_cons_succ])
    refine wpAnyE_take (i := 4) (v := ?_) rfl (by kernel_rfl) (by kernel_rfl) (by kernel_rfl) (by kernel_rfl) (by kernel_rfl) (fun _ _ _ h => h) (Or.inl ⟨by rfl, ?_⟩) (by assumption) ?_; rotate_left; (focus (intro w hSw; (try dsimp only at hSw); (try obtain ⟨hSw1, hSw2, hSw3⟩ := hSw); go_simp <;> with_reducible rfl)); (try simp only [Act.put, List.getElem_toArray, List.getElem_cons_zero, List.getElem_cons_succ, List.setIfInBounds_toArray, List.set_cons_zero, List.set_cons_succ])
    refine wpAnyE_take (i := 5) (v := ?_) rfl (by kernel_rfl) (by kernel_rfl) (by kernel_rfl) (by kernel_rfl) (by kernel_rfl) (fun _ _ _ h => h) (Or.inl ⟨by rfl, ?_⟩) (by assumption) ?_; rotate_left; (focus (intro w hSw; (try dsimp only at hSw); (try obtain ⟨hSw1, hSw2, hSw3⟩ := hSw); go_simp <;> with_reducible rfl)); (try simp only [Act.put, List.getElem_toArray, List.getElem_cons_zero, List.getElem_cons_succ, List.setIfInBounds_toArray, List.set_cons_zero, List.set_cons_succ])
    refine wpAnyE_take (i := 6) (v := ?_) rfl (by kernel_rfl) (by kernel_rfl) (by kernel_rfl) (by kernel_rfl) (by kernel_rfl) (fun _ _ _ h => h) (Or.inl ⟨by rfl, ?_⟩) (by assumption) ?_; rotate_left; (focus (intro w hSw; (try dsimp only at hSw); (try obtain ⟨hSw1, hSw2, hSw3⟩ := hSw); go_simp <;> with_reducible rfl)); (try simp only [Act.put, List.getElem_toArray, List.getElem_cons_zero, List.getElem_cons_succ, List.setIfInBounds_toArray, List.set_cons_zero, List.set_cons_succ])
    refine wpAnyE_take (i := 7) (v := ?_) rfl (by kernel_rfl) (by kernel_rfl) (by kernel_rfl) (by kernel_rfl) (by kernel_rfl) (fun _ _ _ h => h) (Or.inl ⟨by rfl, ?_⟩) (by assumption) ?_; rotate_left; (focus (intro w hSw; (try dsimp only at hSw); (try obtain ⟨hSw1, hSw2, hSw3⟩ := hSw); go_simp <;> with_reducible rfl)); (try simp only [Act.put, List.getElem_toArray, List.getElem_cons_zero, List.getElem_cons_succ, List.setIfInBounds_toArray, List.set_cons_zero, List.set_cons_succ])
    refine wpAnyE_take (i := 8) (v := ?_) rfl (by kernel_rfl) (by kernel_rfl) (by kernel_rfl) (by kernel_rfl) (by kernel_rfl) (fun _ _ _ h => h) (Or.inl ⟨by rfl, ?_⟩) (by assumption) ?_; rotate_left; (focus (intro w hSw; (try dsimp only at hSw); (try obtain ⟨hSw1, hSw2, hSw3⟩ := hSw); go_simp <;> with_reducible rfl)); (try simp only [Act.put, List.getElem_toArray, List.getElem_cons_zero, List.getElem_cons_succ, List.setIfInBounds_toArray, List.set_cons_zero, List.set_cons_succ])
    refine wpAnyE_take (i := 9) (v := ?_) rfl (by kernel_rfl) (by kernel_rfl) (by kernel_rfl) (by kernel_rfl) (by kernel_rfl) (fun _ _ _ h => h) (Or.inl ⟨by rfl, ?_⟩) (by assumption) ?_; rotate_left; (focus (intro w hSw; (try dsimp only at hSw); (try obtain ⟨hSw1, hSw2, hSw3⟩ := hSw); go_simp <;> with_reducible rfl)); (try simp only [Act.put, List.getElem_toArray, List.getElem_cons_zero, List.getElem_cons_succ, List.setIfInBounds_toArray, List.set_cons_zero, List.set_cons_succ])
    refine wpAnyE_take (i := 10) (v := ?_) rfl (by kernel_rfl) (by kernel_rfl) (by kernel_rfl) (by kernel_rfl) (by kernel_rfl) (fun _ _ _ h => h) (Or.inl ⟨by rfl, ?_⟩) (by assumption) ?_; rotate_left; (focus (intro w hSw; (try dsimp only at hSw); (try obtain ⟨hSw1, hSw2, hSw3⟩ := hSw); go_simp <;> with_reducible rfl)); (try simp only [Act.put, List.getElem_toArray, List.getElem_cons_zero, List.getElem_cons_succ, List.setIfInBounds_toArray, List.set_cons_zero, List.set_cons_succ])
    have hbA : Below w1.drew.heap.size w1.drew (w1.drew.alloc (.cells #[.int .i64 0] 3)) := (Below.refl _ _).alloc (Nat.le_refl _) _
    have hnA := World.alloc_heap_new w1.drew (.cells #[.int .i64 0] 3)
    refine takeE_call_alloc (i := 11) (j := 12) #[.slice ka kb.length kc, .slice la lb.length lc] (fun v => v = .int .i64 p) (.cells #[.int .i64 0] 3) (by kernel_rfl) (by kernel_rfl) (by kernel_rfl) rfl rfl rfl rfl (by decide) rfl rfl (fun W => by rfl) (by kernel_rfl) (by kernel_rfl) (enters_of Tryd.func49 (by kernel_rfl) rfl) (fun u => rfl)
      ((HUN.out _ HB1.out).mono fun e w' ⟨h1, h2⟩ => ⟨_, h1, rfl, h2⟩) ((HUN.out _ (HB1.out.alloc HB1.out.size _)).mono fun e w' ⟨h1, h2⟩ => ⟨_, h1, rfl, h2⟩) (fun q => HSS.out _ ((below_drewN _ _ 1).trans (below_drewN _ _ q))) (fun q => HSS.out _ (((below_drewN _ _ 1).trans hbA).trans (below_drewN _ _ q))) ?_
    rintro _ q rfl
    simp only [Act.put, List.getElem_toArray, List.getElem_cons_zero, List.getElem_cons_succ, List.setIfInBounds_toArray, List.set_cons_zero, List.set_cons_succ]
    have hbq : Below w1.heap.size w1 ((w1.drew.alloc (.cells #[.int .i64 0] 3)).drewN q) := ((below_drewN _ _ 1).trans hbA).trans (below_drewN _ _ q)
    have hnq : ((w1.drew.alloc (.cells #[.int .i64 0] 3)).drewN q).heap[w1.heap.size]? = some (.cells #[.int .i64 0] 3 (0, 0)) := hnA
    rw [show w1.drew.heap.size = w1.heap.size from rfl]
    generalize (w1.drew.alloc (.cells #[.int .i64 0] 3)).drewN q = w2 at *
    refine takeE_store (i := 13) (pi := ⟨w1.heap.size, 0, none⟩) (v := .int .i64 p) (u := .int .i64 0) Tryd.infoInt4 (by kernel_rfl) rfl rfl rfl rfl (by kernel_rfl) (by kernel_rfl) rfl rfl (by rw [cell_of_row _ _ _ _ _ _ hnq]; rfl) (by simp [World.frozen?, hnq]) (.inr rfl) ?_
    refine wpAnyE_done (by kernel_rfl) ?_ _
    have hb3 : Below w1.heap.size w1 (w2.setCell ⟨w1.heap.size, 0, none⟩ (.int .i64 p)) := hbq.setCell (p := ⟨w1.heap.size, 0, none⟩) (Nat.le_refl _) _
    have hn3 : (w2.setCell ⟨w1.heap.size, 0, none⟩ (.int .i64 p)).heap[w1.heap.size]? = some (.cells #[.int .i64 p] 3 (0, 0)) := heap_setCell_same _ _ _ _ _ _ hnq
    generalize w2.setCell ⟨w1.heap.size, 0, none⟩ (.int .i64 p) = w3 at *
    have HB3 := hid (HBN.out.trans (hb3.mono HBN.out.size))
    have r0 : w3.cell? ⟨w.heap.size, 0, none⟩ = some (.slice (some ⟨b, off, none⟩) (nl + 1) c) := (HSS.out _ hb3).1
    have r3 : w3.cell? ⟨w1.heap.size, 0, none⟩ = some (.int .i64 p) := by rw [cell_of_row _ _ _ _ _ _ hn3]; rfl
    have H213 : Hid (w3.heap[w.heap.size + 1]? = some (.cells zero32 37 (0, 0))) := hid ((hb3.block _ (block_lt H21.out)).trans H21.out)
    obtain ⟨pb, hpb⟩ : ∃ pb, w1.heap.size = pb := ⟨_, rfl⟩
    have hpbz : w.heap.size + 2 ≤ pb := by have := HZ.out; omega
    rw [hpb] at r3 hn3 ⊢
    have HPZ : Hid (pb < w3.heap.size) := hid (block_lt hn3)
    clear hbq hnq hbA hnA hpb HSS hS0 HUN HB1 H20 HZ H21 HBN
    have HSE := hid (search_any 69 #[.pointer (some ⟨w.heap.size, 0, none⟩), .pointer (some ⟨pb, 0, none⟩)] (nl + 1) m w3 (enters_of Tryd.func69 (by kernel_rfl) rfl) (by omega) (by omega) (fun mm i hi => by
      obtain ⟨x, hx⟩ : ∃ x, xs[i]? = some x := ⟨_, List.getElem?_eq_getElem (by rw [HNX.out]; exact hi)⟩
      have h1 := rootOf1_any w.heap.size pb (.slice (some ⟨b, off, none⟩) (nl + 1) c) xs p i x (w3.drewN mm) hx hp (((HEB.out _ (HB3.out.trans (below_drewN _ _ mm)))).mono (by have := HB3.out.size; exact this)) r0 r3
      rw [HSB.out i x hx] at h1
      exact h1))
    rw [show ((nl + 1 : Nat) : Int) = (nl : Int) + 1 by omega] at HSE
    have hmi : (m : Int) ≤ (nl : Int) + 1 := by omega
    have hmi0 : (0 : Int) ≤ (m : Int) := by omega
    have hmc : (m : Int) ≤ (c : Int) := by omega
    have hcm : ¬ c = m := by omega
    have hcm2 : ¬ (c : Int) = (m : Int) := by omega
    simp only [Only]
    go_wp2_with (first
      | (go_at_call 68; refine HSE.out.mono ?_; rintro e w4 ⟨rfl, q4, rfl⟩
         have HB4 := hid (HB3.out.trans (below_drewN _ w3 q4))
         have r04 : (w3.drewN q4).cell? ⟨w.heap.size, 0, none⟩ = some (.slice (some ⟨b, off, none⟩) (nl + 1) c) := r0
         have r34 : (w3.drewN q4).cell? ⟨pb, 0, none⟩ = some (.int .i64 p) := r3
         have H214 : Hid ((w3.drewN q4).heap[w.heap.size + 1]? = some (.cells zero32 37 (0, 0))) := H213
         have HPZ4 : Hid (pb < (w3.drewN q4).heap.size) := HPZ
         generalize w3.drewN q4 = w5 at *))
    have HC : Hid (∀ W, Below w5.heap.size w5 W → W.cell? ⟨pb, 0, none⟩ = some (.int .i64 p) ∧ W.cell? ⟨w.heap.size, 0, none⟩ = some (.slice (some ⟨b, off, none⟩) (nl + 1) c)) := hid (fun W hW => ⟨(hW.cell (p := ⟨pb, 0, none⟩) HPZ4.out).trans r34, (hW.cell (p := ⟨w.heap.size, 0, none⟩) (World.block_lt_of_cell? _ _ r04)).trans r04⟩)
    have hS5 := HC.out w5.drew (below_drewN _ _ 1)
    have HL1 := HIL.out w5.drew HB4.out.drew
    clear r0 r3 hn3 q0 q1 q2 hb3 HB3 H213 HPZ HSE
    go_region_held3 (fun w' => w'.cell? ⟨pb, 0, none⟩ = some (.int .i64 p) ∧ w'.cell? ⟨w.heap.size, 0, none⟩ = some (.slice (some ⟨b, off, none⟩) (nl + 1) c))
      (first | assumption | exact ⟨(cell_setCells _ _ _ _ ⟨pb, 0, none⟩ (by have : w.heap.size + 2 ≤ pb := hpbz; show pb ≠ _; omega)).trans hS8.1, (cell_setCells _ _ _ _ ⟨w.heap.size, 0, none⟩ (by show w.heap.size ≠ _; omega)).trans hS8.2⟩)
      (first
        | (go_at_call 44; refine HL1.mono ?_; clear HL1; rintro e w6 ⟨rfl, hb6⟩
           have hB6 : Below w5.heap.size w5 w6 := (below_drewN _ w5 1).trans hb6
           have hS6 := HC.out w6 hB6
           have HR1 := HIR.out w6 (HB4.out.trans (hB6.mono HB4.out.size)))
        | (go_at_call 44; refine HR1.mono ?_; clear HR1; rintro e w7 ⟨rfl, hb7⟩
           have hB7 : Below w5.heap.size w5 w7 := hB6.trans (hb7.mono hB6.size)
           have hS7 := HC.out w7 hB7
           have HF1 := HIF.out w7 (HB4.out.trans (hB7.mono HB4.out.size)))
        | (go_at_call 61; refine HF1.mono ?_; clear HF1; rintro e w8 ⟨rfl, hb8⟩
           have hB8 : Below w5.heap.size w5 w8 := hB7.trans (hb8.mono hB7.size)
           have hS8 := HC.out w8 hB8
           have HN8 := hid ((hB8.block _ (block_lt H214.out)).trans H214.out)
           have hth : w8.there (w.heap.size + 1) 0 cs.length := there_zero _ _ _ HLN.out HN8.out))
    have HFB : Hid (Below w.heap.size w (w8.setCells (w.heap.size + 1) 0 cs)) := hid (below_setCells_w3 (HB4.out.trans (hB8.mono HB4.out.size)) (Nat.le_succ _) cs 0)
    have HFH : Hid ((w8.setCells (w.heap.size + 1) 0 cs).heap[w.heap.size + 1]? = some (.cells cs.toArray 37 (0, 0))) := hid (by
      have := setCells_row w8 (w.heap.size + 1) zero32 cs.toArray 37 HN8.out (by rw [show cs.toArray.size = 32 from (by rw [List.size_toArray]; exact HLN.out)]; rfl)
      simpa using this)
    have HI : Hid ((Tryd.prog.info? 37).map (·.size) = some cs.toArray.size) := hid (by rw [List.size_toArray]; exact hI)
    generalize w8.setCells (w.heap.size + 1) 0 cs = we at *
    go_wp2_with (refine bodyPost_ret (v := .agg cs.toArray) (results_cell_row (p := 2) (ty := 37) rfl _ _ (w.heap.size + 1) 37 cs.toArray (0, 0) _ rfl HFH.out Tryd.underlying37 rfl HI.out) rfl ⟨by rw [HEQ.out], HFB.out⟩)
end Go.Proofs.YthkeofinamedfaaDoor

/- Contract of trie.RootOf. -/

namespace Go.Proofs.YthkeofinamedfaaDoor
open Go.RowKit Go.Shelf
set_option linter.unusedVariables false
set_option linter.unusedSimpArgs false
set_option maxRecDepth 20000

theorem rises_of_adj : ∀ (l : List Ent), (∀ i e f, l[i]? = some e → l[i + 1]? = some f → Op.bytesLess e.1 f.1 = true) → Tri.Rises l
  | [], _ => List.Pairwise.nil
  | [e], _ => by simp [Tri.Rises]
  | e :: f :: l, h => by
    have ih := rises_of_adj (f :: l) (fun i a b ha hb => h (i + 1) a b (by simpa using ha) (by simpa using hb))
    have h0 := h 0 e f rfl rfl
    refine List.pairwise_cons.2 ⟨fun g hg => ?_, ih⟩
    rcases List.mem_cons.1 hg with rfl | hg
    · exact h0
    · exact less_trans _ _ _ h0 ((List.pairwise_cons.1 ih).1 g hg)

theorem adj_of_rises {l : List Ent} (h : Tri.Rises l) {i : Nat} {e f : Ent} (hi : l[i]? = some e) (hj : l[i + 1]? = some f) : Op.bytesLess e.1 f.1 = true := by
  obtain ⟨h1, e1⟩ := List.getElem?_eq_some_iff.1 hi
  obtain ⟨h2, e2⟩ := List.getElem?_eq_some_iff.1 hj
  have := (List.pairwise_iff_getElem.1 h) i (i + 1) h1 h2 (by omega)
  rw [e1, e2] at this
  exact this

/-- What RootOf answers of entries. -/
def RootsTo (L : List Ent) (A : Array Value) (e : Int) : Prop :=
  ((∃ x ∈ L, ¬ Tri.short x) ∧ A = zero32 ∧ e = 2) ∨ ((∀ x ∈ L, Tri.short x) ∧ ¬ Tri.Rises L ∧ A = zero32 ∧ e = 1) ∨ (∃ T, Tri.WFO T ∧ Tri.entsO T = L ∧ A = sumV (rootO T) ∧ e = 0)

theorem rootsTo_of {T : Option Tri} (hT : Tri.WFO T) {A : Array Value} {e : Int} (h : RootsTo (Tri.entsO T) A e) : A = sumV (rootO T) ∧ e = 0 := by
  have hs : ∀ x ∈ Tri.entsO T, Tri.short x := by
    cases T with
    | none => intro x hx; cases hx
    | some t => exact Tri.short_of t hT
  have hr : Tri.Rises (Tri.entsO T) := by
    cases T with
    | none => exact List.Pairwise.nil
    | some t => exact Tri.rises t hT
  rcases h with ⟨⟨x, hx, hn⟩, _⟩ | ⟨_, hn, _⟩ | ⟨T', hT', he, hA, h0⟩
  · exact absurd (hs x hx) hn
  · exact absurd hr hn
  · refine ⟨?_, h0⟩
    have : T' = T := by
      cases T with
      | none =>
        cases T' with
        | none => rfl
        | some t' => exact absurd he (Tri.ents_ne t')
      | some t =>
        cases T' with
        | none => exact absurd he.symm (Tri.ents_ne t)
        | some t' => rw [Tri.unique t' t hT' hT he]
    rw [hA, this]

set_option maxHeartbeats 4000000 in
theorem rootOf0_any (a : Option Addr) (c : Nat) (w : World) (ht : Tables w) :
    Calls Tryd.prog 44 #[.slice a 0 c] w fun e w' => e = .returned (.agg (sumV (rootO none))) ∧ Below w.heap.size w w' := by
  obtain ⟨h20, h21, hbn, hz⟩ := alloc2 w (.cells #[.slice a 0 c] 33) (.cells zero32 37)
  have HS : Hid (IsSum (sumV noneS)) := hid (isSum (rootO none) (rootO_length _))
  show Calls Tryd.prog 44 #[.slice a 0 c] w fun e w' => e = .returned (.agg (sumV noneS)) ∧ Below w.heap.size w w'
  go_enter Tryd.func44, Tryd.ntmps44
  go_upto_block 0 with fail
  generalize hw1 : (w.alloc _).alloc _ = w1
  replace hbn : Below w.heap.size w w1 := by rw [← hw1]; exact hbn
  replace h21 : w1.heap[w.heap.size + 1]? = some (.cells zero32 37 (0, 0)) := by rw [← hw1]; exact h21
  clear hw1 hz h20
  have HLS := noneSum_any w1 (ht.below hbn (by have := ht.lt; omega))
  obtain ⟨A, hA⟩ : ∃ A, sumV noneS = A := ⟨_, rfl⟩
  rw [hA] at HLS HS
  have HA := hid hA
  clear hA
  have HN := hid h21
  have HB := hid hbn
  clear h21 hbn ht
  go_wp2_with (first
    | (go_at_call 37; refine HLS.mono ?_; clear HLS; rintro e w2 ⟨rfl, hb2⟩
       have H2 := hid ((hb2.block _ (block_lt HN.out)).trans HN.out)
       have HB2 := hid (HB.out.trans (hb2.mono HB.out.size)))
    | (refine wpList_store_row rfl 37 (.tmp 2) (.tmp 9) rfl (w.heap.size + 1) A rfl rfl 37 zero32 H2.out HS.out.info HS.out.size HS.out.one ?_)
    | (refine bodyPost_ret (v := .agg A) (results_cell_row (p := 2) (ty := 37) rfl _ _ (w.heap.size + 1) 37 A (0, 0) _ rfl (setRow_heap _ _ _ _ _ _ H2.out) Tryd.underlying37 rfl HS.out.info) rfl ⟨by rw [HA.out], below_setRow HB2.out (Nat.le_succ _) _⟩))

set_option maxHeartbeats 8000000 in
theorem roots_any (v : Value) (xs : List EntV) (w : World) (hE : Ents w.heap.size w v xs) (hn : xs.length < 1000000000) (ht : Tables w) :
    Calls Tryd.prog 18 #[v] w fun e w' => ∃ A er, e = .returned (.tuple #[.agg A, .int .i64 er]) ∧ RootsTo (xs.map EntV.ent) A er ∧ IsSum A ∧ Below w.heap.size w w' := by
  obtain ⟨a, c, rfl, hc1, hc2, _⟩ := id hE
  unfold maxLen at hc2
  have hlt := ht.lt
  have HE := hid hE
  have HT := hid ht
  clear hE ht
  have hnew := heap_alloc_new w (.cells zero32 37)
  have hbn : Below w.heap.size w (w.alloc (.cells zero32 37)) := (Below.refl _ _).alloc (Nat.le_refl _) _
  go_enter Tryd.func18, Tryd.ntmps18
  go_wp2_with fail
  generalize hw1 : w.alloc _ = w1
  replace hbn : Below w.heap.size w w1 := by rw [← hw1]; exact hbn
  replace hnew : w1.heap[w.heap.size]? = some (.cells zero32 37 (0, 0)) := by rw [← hw1]; exact hnew
  clear hw1
  have HN := hid hnew
  have HBN := hid hbn
  clear hnew hbn
  have HIZ : Hid (IsSum zero32) := hid ⟨Tryd.infoSum, zero32_one, rfl⟩
  go_loopw [9] (fun i wr => ∃ k : Nat, k ≤ xs.length ∧ i = .int .i64 (k : Int) ∧ Hid (∀ j x, j < k → xs[j]? = some x → Tri.short x.ent) ∧ Hid (Below w1.heap.size w1 wr)) (fun i _ => xs.length - (intOf i).toNat)
  case atStart => exact ⟨0, by omega, rfl, hid (fun j x h => absurd h (Nat.not_lt_zero _)), hid (Below.refl _ _)⟩
  case round =>
    obtain ⟨k, hk, rfl, HSH, HBR⟩ := hrel
    have HB := hid (HBN.out.trans (HBR.out.mono HBN.out.size))
    have HNR := hid ((HBR.out.block _ (block_lt HN.out)).trans HN.out)
    by_cases hlt' : k < xs.length
    · have hki : (k : Int) < (xs.length : Int) := by omega
      have hk0 : (0 : Int) ≤ (k : Int) := by omega
      obtain ⟨b, off, ka, kc, va, vc, kb, vb, rfl, hb, hx, c0, c1, s1, s2⟩ := (HE.out.below HB.out).at k hlt'
      have hbA : Below wr.heap.size wr (wr.alloc (.cells #[.slice ka kb.length kc, .slice va vb.length vc] 52)) := (Below.refl _ _).alloc (Nat.le_refl _) _
      have HL := isLong_any _ _ (.slice ka kb.length kc) (.slice va vb.length vc) kb vb (wr.alloc (.cells #[.slice ka kb.length kc, .slice va vb.length vc] 52)) (s1.below (hbA.mono HB.out.size)) (s2.below (hbA.mono HB.out.size))
      have HBA := hid hbA
      have HX := hid hx
      clear hbA hx s1 s2
      by_cases hlong : 120 < kb.length ∨ 1200 < vb.length
      · rw [decide_eq_true hlong] at HL
        have HR : Hid (∃ x ∈ xs.map EntV.ent, ¬ Tri.short x) := hid ⟨(kb, vb), List.mem_of_getElem? (ent_at rfl HX.out), by simp only [Tri.short]; omega⟩
        have HNA := hid ((HBA.out.block _ (block_lt HNR.out)).trans HNR.out)
        have HBZ := hid (HB.out.trans (HBA.out.mono HB.out.size))
        clear hlong HX
        go_wp2_with (first
          | (go_at_call 42; refine HL.mono ?_; clear HL; rintro e w2 ⟨rfl, rfl⟩; generalize wr.alloc (.cells #[.slice ka kb.length kc, .slice va vb.length vc] 52) = w3 at *)
          | (refine wpList_store_row rfl 37 (.tmp 2) (.tmp 18) rfl w.heap.size zero32 rfl rfl 37 zero32 HNA.out Tryd.infoSum rfl zero32_one ?_)
          | (refine bodyPost_ret (v := .tuple #[.agg zero32, .int .i64 2]) (results_row_tmp (p := 2) (u := 3) (ty := 37) rfl _ _ w.heap.size 37 zero32 (0, 0) _ _ rfl (setRow_heap _ _ _ _ _ _ HNA.out) Tryd.underlying37 Tryd.infoSum) rfl ⟨_, _, rfl, .inl ⟨HR.out, rfl, rfl⟩, HIZ.out, below_setRow HBZ.out (Nat.le_refl _) _⟩))
      · rw [decide_eq_false hlong] at HL
        have HSH2 : Hid (∀ j x, j < k + 1 → xs[j]? = some x → Tri.short x.ent) := hid (fun j x hj hx => by
          rcases Nat.lt_or_ge j k with h | h
          · exact HSH.out j x h hx
          · have : j = k := by omega
            subst this
            rw [HX.out] at hx
            cases hx
            simp only [Tri.short, EntV.ent]
            omega)
        have HBZ := hid (HBR.out.trans (HBA.out.mono HBR.out.size))
        have HKX := hid hlt'
        clear hlong HX HSH
        go_wp2_with (first
          | (go_at_call 42; refine HL.mono ?_; clear HL; rintro e w2 ⟨rfl, rfl⟩; generalize wr.alloc (.cells #[.slice ka kb.length kc, .slice va vb.length vc] 52) = w3 at *))
        go_roundw
        case rel => exact ⟨k + 1, HKX.out, by go_num, HSH2, HBZ⟩
        case measure => have := HKX.out; simp [intOf]; omega
    · have hki : (xs.length : Int) ≤ (k : Int) := by omega
      have HSA : Hid (∀ x ∈ xs.map EntV.ent, Tri.short x) := hid (fun x hx => by
        obtain ⟨y, hy, rfl⟩ := List.mem_map.1 hx
        obtain ⟨j, hj⟩ := List.getElem?_of_mem hy
        exact HSH.out j y (by have := (List.getElem?_eq_some_iff.1 hj).1; omega) hj)
      clear HSH
      go_wp2_with fail
      clear HBN HN hki hlt' hk HBR
      go_loopw [6] (fun i wq => ∃ k : Nat, 1 ≤ k ∧ k ≤ xs.length + 1 ∧ i = .int .i64 (k : Int) ∧ Hid (∀ j e f, j + 1 < k → (xs.map EntV.ent)[j]? = some e → (xs.map EntV.ent)[j + 1]? = some f → Op.bytesLess e.1 f.1 = true) ∧ Hid (Below w.heap.size w wq) ∧ Hid (wq.heap[w.heap.size]? = some (.cells zero32 37 (0, 0)))) (fun i _ => xs.length + 1 - (intOf i).toNat)
      case atStart => exact ⟨1, by omega, by omega, rfl, hid (fun j e f h => absurd h (by omega)), HB, HNR⟩
      case round =>
        clear HB HNR
        obtain ⟨k, hk1, hk2, rfl, HAD, HB, HNR⟩ := hrel
        by_cases hlt' : k < xs.length
        · have hki : (k : Int) < (xs.length : Int) := by omega
          have hk0 : (0 : Int) ≤ (k : Int) := by omega
          obtain ⟨j, hj⟩ : ∃ j, j + 1 = k := ⟨k - 1, by omega⟩
          obtain ⟨b, off, ka, kc, va, vc, kb, vb, rfl, hb, hx, c0, c1, s1, s2⟩ := (HE.out.below HB.out).at k hlt'
          obtain ⟨b', off', la, lc, ua, uc, lb, ub, hbb, hb', hy, d0, d1, t1, t2⟩ := (HE.out.below HB.out).at j (by omega)
          simp only [Option.some.injEq, Addr.mk.injEq, and_true] at hbb
          obtain ⟨rfl, rfl⟩ := hbb
          have hsub : (k : Int) - 1 = (j : Int) := by omega
          have hj0 : (0 : Int) ≤ (j : Int) := by omega
          have hjn : (j : Int) < (xs.length : Int) := by omega
          have hcmp := fun m => compare_any _ _ (.slice la lb.length lc) (.slice ka kb.length kc) lb kb (wr.drewN m) (t1.below (below_drewN _ _ m)) (s1.below (below_drewN _ _ m))
          have hcl := cmp_less lb kb
          have hx1 := ent_at (rfl : xs.map EntV.ent = _) hx
          have hx2 := ent_at (rfl : xs.map EntV.ent = _) hy
          obtain ⟨cr1, cr2⟩ := cmp_range lb kb
          generalize Lib.compareBytes lb kb = cv at *
          have HBQ : Hid (∀ m, Below w.heap.size w (wr.drewN m)) := hid (fun m => HB.out.trans (below_drewN _ _ m))
          cases hless : Op.bytesLess lb kb with
          | false =>
            rw [hless] at hcl
            have hcv : (0 : Int) ≤ cv := by simpa using hcl
            have hcv' : ¬ cv < 0 := by omega
            have HR : Hid (¬ Tri.Rises (xs.map EntV.ent)) := hid (fun hr => by
              have := adj_of_rises hr hx2 (by rw [hj]; exact hx1)
              simp only at this
              rw [hless] at this
              cases this)
            clear hcl hless hx hy hx1 hx2 s1 s2 t1 t2 c1 d1
            go_wp2_with fail
            go_quiet ((go_at_call 43; exact Calls.quiet_of_same (hcmp _)))
            have HNQ : Hid ((wr.drewN nq).heap[w.heap.size]? = some (.cells zero32 37 (0, 0))) := HNR
            have HBW := hid (HBQ.out nq)
            generalize wr.drewN nq = wz at *
            go_wp2_with (first
              | (refine wpList_store_row rfl 37 (.tmp 2) (.tmp 39) rfl w.heap.size zero32 rfl rfl 37 zero32 HNQ.out Tryd.infoSum rfl zero32_one ?_)
              | (refine bodyPost_ret (v := .tuple #[.agg zero32, .int .i64 1]) (results_row_tmp (p := 2) (u := 3) (ty := 37) rfl _ _ w.heap.size 37 zero32 (0, 0) _ _ rfl (setRow_heap _ _ _ _ _ _ HNQ.out) Tryd.underlying37 Tryd.infoSum) rfl ⟨_, _, rfl, .inr (.inl ⟨HSA.out, HR.out, rfl, rfl⟩), HIZ.out, below_setRow HBW.out (Nat.le_refl _) _⟩))
          | true =>
            rw [hless] at hcl
            have hcv : cv < 0 := by simpa using hcl
            have HAD2 : Hid (∀ j e f, j + 1 < k + 1 → (xs.map EntV.ent)[j]? = some e → (xs.map EntV.ent)[j + 1]? = some f → Op.bytesLess e.1 f.1 = true) := hid (fun i e f hi he hf => by
              rcases Nat.lt_or_ge (i + 1) k with h | h
              · exact HAD.out i e f h he hf
              · have : i = j := by omega
                subst this
                rw [hx2] at he
                rw [hj, hx1] at hf
                cases he
                cases hf
                exact hless)
            have HKX := hid hlt'
            clear hcl hless hx hy hx1 hx2 s1 s2 t1 t2 c1 d1 HAD hj
            go_wp2_with fail
            go_quiet ((go_at_call 43; exact Calls.quiet_of_same (hcmp _)))
            have HNQ : Hid ((wr.drewN nq).heap[w.heap.size]? = some (.cells zero32 37 (0, 0))) := HNR
            have HBW := hid (HBQ.out nq)
            generalize wr.drewN nq = wz at *
            go_wp2
            go_roundw
            case rel => exact ⟨k + 1, by omega, by have := HKX.out; omega, by go_num, HAD2, HBW, HNQ⟩
            case measure => have := HKX.out; simp [intOf]; omega
        · have hki : (xs.length : Int) ≤ (k : Int) := by omega
          have hR : Tri.Rises (xs.map EntV.ent) := rises_of_adj _ (fun j e f he hf => HAD.out j e f (by have := (List.getElem?_eq_some_iff.1 hf).1; simp at this; omega) he hf)
          obtain ⟨T, hT, hTe⟩ := Tri.exists_of _ hR HSA.out
          have HS := hid (isSum (rootO T) (rootO_length _))
          have HRO : Calls Tryd.prog 44 #[.slice a xs.length c] wr fun e w' => e = .returned (.agg (sumV (rootO T))) ∧ Below wr.heap.size wr w' := by
            cases T with
            | none =>
              have h0 : xs = [] := by simpa [Tri.entsO] using hTe.symm
              subst h0
              exact rootOf0_any a c wr (HT.out.below HB.out (by omega))
            | some t => exact rootOf_any t hT _ xs wr ((HE.out.below HB.out).mono HB.out.size) hTe.symm hn (HT.out.below HB.out (by omega))
          have HRR : Hid (RootsTo (xs.map EntV.ent) (sumV (rootO T)) 0) := hid (.inr (.inr ⟨T, hT, hTe, rfl, rfl⟩))
          clear hR hT hTe HAD
          generalize sumV (rootO T) = A at *
          go_wp2_with (first
            | (go_at_call 44; refine HRO.mono ?_; clear HRO; rintro e w2 ⟨rfl, hb2⟩
               have H2 := hid ((hb2.block _ (block_lt HNR.out)).trans HNR.out)
               have HB2 := hid (HB.out.trans (hb2.mono HB.out.size)))
            | (refine wpList_store_row rfl 37 (.tmp 2) (.tmp 41) rfl w.heap.size A rfl rfl 37 zero32 H2.out HS.out.info HS.out.size HS.out.one ?_)
            | (refine bodyPost_ret (v := .tuple #[.agg A, .int .i64 0]) (results_row_tmp (p := 2) (u := 3) (ty := 37) rfl _ _ w.heap.size 37 A (0, 0) _ _ rfl (setRow_heap _ _ _ _ _ _ H2.out) Tryd.underlying37 HS.out.info) rfl ⟨_, _, rfl, HRR.out, HS.out, below_setRow HB2.out (Nat.le_refl _) _⟩))
end Go.Proofs.YthkeofinamedfaaDoor
