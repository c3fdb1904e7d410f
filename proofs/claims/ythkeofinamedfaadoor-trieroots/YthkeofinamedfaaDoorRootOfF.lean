/- Contracts of trie.rootOf and trie.RootOf. -/
import Derived.Test.YthkeofinamedfaaDoorEntsF
import Derived.Test.YthkeofinamedfaaDoorHeld2
import Derived.Deep.CutBlock
namespace Go.Proofs.YthkeofinamedfaaDoor
open Go.RowKit Go.Shelf
set_option linter.unusedVariables false
set_option linter.unusedSimpArgs false
set_option maxRecDepth 20000

theorem ent_at {xs : List EntV} {l : List Ent} (h : xs.map EntV.ent = l) {i : Nat} {x : EntV} (hi : xs[i]? = some x) : l[i]? = some (x.k, x.v) := by
  rw [← h, List.getElem?_map, hi]; rfl

theorem side_bits {p : Nat} {l r : Tri} (h : (Tri.fork p l r).WF) {xs : List EntV} (hx : xs.map EntV.ent = (Tri.fork p l r).ents) {i : Nat} {x : EntV} (hi : xs[i]? = some x) : bit x.k p = decide (l.ents.length ≤ i) := by
  have h1 := ent_at hx hi
  simp only [Tri.ents] at h1
  obtain ⟨_, _, h0, h1', _⟩ := h
  rcases Nat.lt_or_ge i l.ents.length with hlt | hge
  · rw [List.getElem?_append_left hlt] at h1
    have := h0 _ (List.mem_of_getElem? h1)
    simp only at this
    rw [this, decide_eq_false (by omega)]
  · rw [List.getElem?_append_right hge] at h1
    have := h1' _ (List.mem_of_getElem? h1)
    simp only at this
    rw [this, decide_eq_true hge]

theorem ends_unlike {p : Nat} {l r : Tri} (h : (Tri.fork p l r).WF) {xs : List EntV} (hx : xs.map EntV.ent = (Tri.fork p l r).ents) {j : Nat} {x y : EntV} (hi : xs[0]? = some x) (hj : xs[j]? = some y) (hjl : l.ents.length ≤ j) : fu x.k y.k = p := by
  have b1 := side_bits h hx hi
  have b2 := side_bits h hx hj
  have m1 := List.mem_of_getElem? (ent_at hx hi)
  have m2 := List.mem_of_getElem? (ent_at hx hj)
  have := Tri.ents_pos l
  rw [decide_eq_false (by omega)] at b1
  rw [decide_eq_true hjl] at b2
  exact fu_unique _ _ _ (fun i hi => Tri.alike p l r h _ _ m1 m2 i hi) (by rw [b1, b2]; simp)

theorem fork_parts {p : Nat} {l r : Tri} {xs : List EntV} (hx : xs.map EntV.ent = (Tri.fork p l r).ents) : (xs.take l.ents.length).map EntV.ent = l.ents ∧ (xs.drop l.ents.length).map EntV.ent = r.ents ∧ xs.length = l.ents.length + r.ents.length := by
  refine ⟨?_, ?_, ?_⟩
  · rw [List.map_take, hx, Tri.ents, List.take_left]
  · rw [List.map_drop, hx, Tri.ents, List.drop_left]
  · have := congrArg List.length hx; simpa [Tri.ents] using this

set_option maxHeartbeats 2000000 in
/-- The closure: the bit of an entry's key at a place. -/
theorem rootOf1_any (bl bp : Nat) (v : Value) (xs : List EntV) (p i : Nat) (x : EntV) (w : World) (hi : xs[i]? = some x) (hp : p < 1080) (hE : Ents w.heap.size w v xs)
    (h1 : w.cell? ⟨bl, 0, none⟩ = some v) (h2 : w.cell? ⟨bp, 0, none⟩ = some (.int .i64 p)) :
    Calls Tryd.prog 69 #[.int .i64 i, .pointer (some ⟨bl, 0, none⟩), .pointer (some ⟨bp, 0, none⟩)] w fun e w' => e = .returned (.bool (bit x.k p)) ∧ ∃ q, w' = w.drewN q := by
  obtain ⟨a, c, rfl, hc1, hc2, _⟩ := id hE
  have hlt : i < xs.length := (List.getElem?_eq_some_iff.1 hi).1
  obtain ⟨b, off, ka, kc, va, vc, kb, vb, rfl, hb, hx, c0, c1, s1, s2⟩ := hE.at i hlt
  rw [hi] at hx
  cases hx
  unfold maxLen at hc2
  have hii : (i : Int) < (xs.length : Int) := by omega
  have hi0 : (0 : Int) ≤ (i : Int) := by omega
  have hbit := fun m => bit_any _ (.slice ka kb.length kc) kb p (w.drewN m) (s1.below (below_drewN _ _ m)) (by omega) (by omega)
  simp only [bitI_nat] at hbit
  generalize bit kb p = bb at *
  clear s1 s2 hE
  go_enter Tryd.func69, Tryd.ntmps69
  go_wp2_with fail
  go_quiet ((go_at_call 20; exact Calls.quiet_of_same (hbit _)))
  go_wp2
  go_ret
  exact ⟨rfl, nq, rfl⟩

theorem heap_setCells : ∀ (vs : List Value) (W : World) (g o k : Nat), k ≠ g → (W.setCells g o vs).heap[k]? = W.heap[k]?
  | [], W, g, o, k, h => rfl
  | v :: vs, W, g, o, k, h => by
    simp only [World.setCells]
    rw [heap_setCells vs _ g (o + 1) k h]
    exact Below.heap_setCell W ⟨g, o, none⟩ v k h

theorem cell_setCells (vs : List Value) (W : World) (g o : Nat) (ad : Addr) (h : ad.block ≠ g) : (W.setCells g o vs).cell? ad = W.cell? ad := World.cell?_of_block (heap_setCells vs W g o ad.block h)

theorem Tryd.infoInt : (Tryd.prog.info? 3).map (·.size) = some 1 := by kernel_rfl

set_option maxHeartbeats 8000000 in
theorem rootOf_any : ∀ (t : Tri), t.WF → ∀ (v : Value) (xs : List EntV) (w : World), Ents w.heap.size w v xs → xs.map EntV.ent = t.ents → xs.length < 1000000000 → Tables w →
    Calls Tryd.prog 44 #[v] w fun e w' => e = .returned (.agg (sumV (rootT t))) ∧ Below w.heap.size w w' := by
  intro t
  induction t with
  | leaf k0 v0 =>
    intro hwf v xs w hE hx hn ht
    have hl1 : xs.length = 1 := by have := congrArg List.length hx; simpa [Tri.ents] using this
    obtain ⟨a, c, rfl, hc1, hc2, _⟩ := id hE
    obtain ⟨b, off, ka, kc, va, vc, kb, vb, rfl, hb, hx0, c0, c1, s1, s2⟩ := hE.at 0 (by omega)
    have e0 := ent_at hx hx0
    simp only [Tri.ents, List.getElem?_cons_zero, Option.some.injEq, Prod.mk.injEq] at e0
    obtain ⟨rfl, rfl⟩ := e0
    rw [hl1] at hc1 ⊢
    unfold maxLen at hc2
    have HS := hid (isSum (rootT (.leaf k0 v0)) (rootT_length _))
    simp only [rootT] at HS ⊢
    obtain ⟨h20, h21, hbn, hz⟩ := alloc2 w (.cells #[.slice (some ⟨b, off, none⟩) 1 c] 33) (.cells zero32 37)
    go_enter Tryd.func44, Tryd.ntmps44
    go_upto_block 0 with fail
    generalize hw1 : (w.alloc _).alloc _ = w1
    replace hbn : Below w.heap.size w w1 := by rw [← hw1]; exact hbn
    replace h20 : w1.heap[w.heap.size]? = some (.cells #[.slice (some ⟨b, off, none⟩) 1 c] 33 (0, 0)) := by rw [← hw1]; exact h20
    replace h21 : w1.heap[w.heap.size + 1]? = some (.cells zero32 37 (0, 0)) := by rw [← hw1]; exact h21
    clear hw1 hz
    have q0 : w1.cell? ⟨w.heap.size, 0, none⟩ = some (.slice (some ⟨b, off, none⟩) 1 c) := by rw [cell_of_row _ _ _ _ _ _ h20]; rfl
    have q1 : w1.cell? ⟨b, off, none⟩ = some (.slice ka k0.length kc) := (hbn.cell (p := ⟨b, off, none⟩) hb).trans (by simpa using c0)
    have q2 : w1.cell? ⟨b, off + 1, none⟩ = some (.slice va v0.length vc) := (hbn.cell (p := ⟨b, off + 1, none⟩) hb).trans (by simpa using c1)
    have HLS := leafSum_any _ _ k0 v0 w1 (Says.new s1 hbn) (Says.new s2 hbn) (ht.below hbn (by have := ht.lt; omega))
    obtain ⟨A, hA⟩ : ∃ A, sumV (leafS (k0, v0)) = A := ⟨_, rfl⟩
    rw [hA] at HLS HS
    have HA := hid hA
    clear hA
    have HN := hid h21
    have HB := hid hbn
    clear h20 h21 hbn hE hx hx0 c0 c1 s1 s2 ht
    go_wp2_with (first
      | (go_at_call 60; refine HLS.mono ?_; clear HLS; rintro e w2 ⟨rfl, hb2⟩
         have H2 := hid ((hb2.block _ (block_lt HN.out)).trans HN.out)
         have HB2 := hid (HB.out.trans (hb2.mono HB.out.size)))
      | (refine wpList_store_row rfl 37 (.tmp 2) (.tmp 15) rfl (w.heap.size + 1) A rfl rfl 37 zero32 H2.out HS.out.info HS.out.size HS.out.one ?_)
      | (refine bodyPost_ret (v := .agg A) (results_cell_row (p := 2) (ty := 37) rfl _ _ (w.heap.size + 1) 37 A (0, 0) _ rfl (setRow_heap _ _ _ _ _ _ H2.out) Tryd.underlying37 rfl HS.out.info) rfl ⟨by rw [HA.out], below_setRow HB2.out (Nat.le_succ _) _⟩))
  | fork p l r ihl ihr =>
    intro hwf v xs w hE hx hn ht
    obtain ⟨a, c, rfl, hc1, hc2, _⟩ := id hE
    unfold maxLen at hc2
    obtain ⟨hx1, hx2, hxl⟩ := fork_parts hx
    have hp := Tri.place_bound p _ _ hwf
    have pl := Tri.ents_pos l
    have pr := Tri.ents_pos r
    obtain ⟨nl, hnx⟩ : ∃ nl, xs.length = nl + 1 := ⟨xs.length - 1, by omega⟩
    obtain ⟨b, off, ka, kc, va, vc, kb, vb, rfl, hb, hx0, c0, _, s1, _⟩ := hE.at 0 (by omega)
    obtain ⟨b', off', la, lc, ua, uc, lb, ub, hbb, hb', hxn, d0, _, t1, _⟩ := hE.at nl (by omega)
    simp only [Option.some.injEq, Addr.mk.injEq, and_true] at hbb
    obtain ⟨rfl, rfl⟩ := hbb
    have hfu := ends_unlike hwf hx hx0 hxn (by omega)
    simp only at hfu
    have hkl : kb.length ≤ 140737488355328 := by
      have := (Tri.short_of _ hwf _ (List.mem_of_getElem? (ent_at hx hx0))).1
      simp at this; omega
    have hll : lb.length ≤ 140737488355328 := by
      have := (Tri.short_of _ hwf _ (List.mem_of_getElem? (ent_at hx hxn))).1
      simp at this; omega
    have HSB : Hid (∀ i x, xs[i]? = some x → bit x.k p = decide (l.ents.length ≤ i)) := hid (fun i x hi => side_bits hwf hx hi)
    obtain ⟨wl, wr', _⟩ := hwf
    have hlt := ht.lt
    have HLR : Hid (xs.length = l.ents.length + r.ents.length) := hid hxl
    rw [hnx] at hE hc1 hn ⊢
    obtain ⟨m, hm⟩ : ∃ m, l.ents.length = m := ⟨_, rfl⟩
    have hm0 : 0 < m := by omega
    have hmn : m < nl + 1 := by omega
    rw [hm] at HSB hx1 hx2
    have HEB : Hid (∀ W, Below w.heap.size w W → Ents w.heap.size W (.slice (some ⟨b, off, none⟩) (nl + 1) c) xs) := hid (fun W h => hE.below h)
    have HIL : Hid (∀ W, Below w.heap.size w W → Calls Tryd.prog 44 #[.slice (some ⟨b, off, none⟩) m c] W fun e w' => e = .returned (.agg (sumV (rootT l))) ∧ Below W.heap.size W w') := hid (fun W h => ihl wl _ (xs.take m) W (((HEB.out W h).take m (by omega)).mono h.size) hx1 (by simp; omega) (ht.below h (by omega)))
    have HIR : Hid (∀ W, Below w.heap.size w W → Calls Tryd.prog 44 #[.slice (some ⟨b, off + m * 2, none⟩) (nl + 1 - m) (c - m)] W fun e w' => e = .returned (.agg (sumV (rootT r))) ∧ Below W.heap.size W w') := hid (fun W h => ihr wr' _ (xs.drop m) W (by have := ((HEB.out W h).drop m (by omega)).mono h.size; rw [hnx] at this; exact this) hx2 (by simp; omega) (ht.below h (by omega)))
    have HIF : Hid (∀ W, Below w.heap.size w W → Calls Tryd.prog 61 #[.int .i64 p, .agg (sumV (rootT l)), .agg (sumV (rootT r))] W fun e w' => e = .returned (.agg ((forkS p (rootT l) (rootT r)).map by8).toArray) ∧ Below W.heap.size W w') := hid (fun W hW => forkSum_any p _ _ W hp (rootT_length _) (rootT_length _) (ht.below hW (by omega)))
    have hI : (Tryd.prog.info? 37).map (·.size) = some ((forkS p (rootT l) (rootT r)).map by8).length := by rw [List.length_map, show (forkS p (rootT l) (rootT r)).length = 32 from ofS_length _ _]; exact Tryd.infoSum
    have hone : ∀ v ∈ (forkS p (rootT l) (rootT r)).map by8, v.oneCell' = true := by8_one _
    have HLN : Hid (((forkS p (rootT l) (rootT r)).map by8).length = 32) := hid (by rw [List.length_map]; exact ofS_length _ _)
    have HEQ : Hid (sumV (forkS p (rootT l) (rootT r)) = ((forkS p (rootT l) (rootT r)).map by8).toArray) := hid rfl
    simp only [rootT]
    generalize (forkS p (rootT l) (rootT r)).map by8 = cs at *
    generalize sumV (rootT l) = AL at *
    generalize sumV (rootT r) = AR at *
    have HNX := hid hnx
    have HFU := hid hfu
    clear ihl ihr hxl pl pr hm hnx hx1 hx2 hfu hx wl wr' HLR
    obtain ⟨h20, h21, hbn, hz⟩ := alloc2 w (.cells #[.slice (some ⟨b, off, none⟩) (nl + 1) c] 33) (.cells zero32 37)
    have hn2 : (2 : Int) ≤ (nl : Int) + 1 := by omega
    have e0 : ((nl : Int) + 1 == 0) = false := by simp; omega
    have e1 : ((nl : Int) + 1 == 1) = false := by simp; omega
    go_enter Tryd.func44, Tryd.ntmps44
    go_upto_block 0 with fail
    generalize hw1 : (w.alloc _).alloc _ = w1
    replace hbn : Below w.heap.size w w1 := by rw [← hw1]; exact hbn
    replace h20 : w1.heap[w.heap.size]? = some (.cells #[.slice (some ⟨b, off, none⟩) (nl + 1) c] 33 (0, 0)) := by rw [← hw1]; exact h20
    replace h21 : w1.heap[w.heap.size + 1]? = some (.cells zero32 37 (0, 0)) := by rw [← hw1]; exact h21
    replace hz : w1.heap.size = w.heap.size + 2 := by rw [← hw1]; exact hz
    clear hw1
    have q0 : w1.cell? ⟨w.heap.size, 0, none⟩ = some (.slice (some ⟨b, off, none⟩) (nl + 1) c) := by rw [cell_of_row _ _ _ _ _ _ h20]; rfl
    have q1 : w1.cell? ⟨b, off, none⟩ = some (.slice ka kb.length kc) := (hbn.cell (p := ⟨b, off, none⟩) hb).trans (by simpa using c0)
    have q2 : w1.cell? ⟨b, off + nl * 2, none⟩ = some (.slice la lb.length lc) := (hbn.cell (p := ⟨b, off + nl * 2, none⟩) hb).trans d0
    have hnl0 : (0 : Int) ≤ (nl : Int) := by omega
    have hnli : (nl : Int) < (nl : Int) + 1 := by omega
    have hwr : IntKind.i64.wrap (nl : Int) = (nl : Int) := by rw [IntKind.wrap_i64]; omega
    have HUN := hid (fun W (hW : Below w.heap.size w W) => unlike_any _ _ (.slice ka kb.length kc) (.slice la lb.length lc) kb lb W (s1.below hW) (t1.below hW) hkl hll)
    rw [HFU.out] at HUN
    have HBN := hid hbn
    have HB1 := hid hbn.drew
    have H20 := hid h20
    have H21 := hid h21
    have HZ := hid hz
    have HSS : Hid (∀ W, Below w1.heap.size w1 W → W.cell? ⟨w.heap.size, 0, none⟩ = some (.slice (some ⟨b, off, none⟩) (nl + 1) c) ∧ W.cell? ⟨b, off, none⟩ = some (.slice ka kb.length kc) ∧ W.cell? ⟨b, off + nl * 2, none⟩ = some (.slice la lb.length lc)) := hid (fun W hW => ⟨(hW.cell (p := ⟨w.heap.size, 0, none⟩) (World.block_lt_of_cell? _ _ q0)).trans q0, (hW.cell (p := ⟨b, off, none⟩) (World.block_lt_of_cell? _ _ q1)).trans q1, (hW.cell (p := ⟨b, off + nl * 2, none⟩) (World.block_lt_of_cell? _ _ q2)).trans q2⟩)
    have hS0 := HSS.out w1.drew (below_drewN _ _ 1)
    clear hbn h20 h21 hz s1 t1 c0 d0 hE hx0 hxn
    go_wp2_with fail
    refine last_region (fun w' => w'.cell? ⟨w.heap.size, 0, none⟩ = some (.slice (some ⟨b, off, none⟩) (nl + 1) c) ∧ w'.cell? ⟨b, off, none⟩ = some (.slice ka kb.length kc) ∧ w'.cell? ⟨b, off + nl * 2, none⟩ = some (.slice la lb.length lc)) 13 (by kernel_rfl) ?_
    refine wpAnyE_take (i := 0) (v := ?_) rfl (by kernel_rfl) (by kernel_rfl) (by kernel_rfl) (by kernel_rfl) (by kernel_rfl) (fun _ _ _ h => h) (Or.inl ⟨by rfl, ?_⟩) (by assumption) ?_; rotate_left; (focus (intro w hSw; (try dsimp only at hSw); (try obtain ⟨hSw1, hSw2, hSw3⟩ := hSw); go_simp <;> with_reducible rfl)); (try simp only [Act.put, List.getElem_toArray, List.getElem_cons_zero, List.getElem_cons_succ, List.setIfInBounds_toArray, List.set_cons_zero, List.set_cons_succ])
    refine wpAnyE_take (i := 1) (v := ?_) rfl (by kernel_rfl) (by kernel_rfl) (by kernel_rfl) (by kernel_rfl) (by kernel_rfl) (fun _ _ _ h => h) (Or.inl ⟨by rfl, ?_⟩) (by assumption) ?_; rotate_left; (focus (intro w hSw; (try dsimp only at hSw); (try obtain ⟨hSw1, hSw2, hSw3⟩ := hSw); go_simp <;> with_reducible rfl)); (try simp only [Act.put, List.getElem_toArray, List.getElem_cons_zero, List.getElem_cons_succ, List.setIfInBounds_toArray, List.set_cons_zero, List.set_cons_succ])
    refine wpAnyE_take (i := 2) (v := ?_) rfl (by kernel_rfl) (by kernel_rfl) (by kernel_rfl) (by kernel_rfl) (by kernel_rfl) (fun _ _ _ h => h) (Or.inl ⟨by rfl, ?_⟩) (by assumption) ?_; rotate_left; (focus (intro w hSw; (try dsimp only at hSw); (try obtain ⟨hSw1, hSw2, hSw3⟩ := hSw); go_simp <;> with_reducible rfl)); (try simp only [Act.put, List.getElem_toArray, List.getElem_cons_zero, List.getElem_cons_succ, List.setIfInBounds_toArray, List.set_cons_zero, List.set_cons_succ])
    refine wpAnyE_take (i := 3) (v := ?_) rfl (by kernel_rfl) (by kernel_rfl) (by kernel_rfl) (by kernel_rfl) (by kernel_rfl) (fun _ _ _ h => h) (Or.inl ⟨by rfl, ?_⟩) (by assumption) ?_; rotate_left; (focus (intro w hSw; (try dsimp only at hSw); (try obtain ⟨hSw1, hSw2, hSw3⟩ := hSw); go_simp <;> with_reducible rfl)); (try simp only [Act.put, List.getElem_toArray, List.getElem_cons_zero, List.getElem_cons_succ, List.setIfInBounds_toArray, List.set_cons_zero, List.set_cons_succ])
    refine wpAnyE_take (i := 4) (v := ?_) rfl (by kernel_rfl) (by kernel_rfl) (by kernel_rfl) (by kernel_rfl) (by kernel_rfl) (fun _ _ _ h => h) (Or.inl ⟨by rfl, ?_⟩) (by assumption) ?_; rotate_left; (focus (intro w hSw; (try dsimp only at hSw); (try obtain ⟨hSw1, hSw2, hSw3⟩ := hSw); go_simp <;> with_reducible rfl)); (try simp only [Act.put, List.getElem_toArray, List.getElem_cons_zero, List.getElem_cons_succ, List.setIfInBounds_toArray, List.set_cons_zero, List.set_cons_succ])
    refine wpAnyE_take (i := 5) (v := ?_) rfl (by kernel_rfl) (by kernel_rfl) (by kernel_rfl) (by kernel_rfl) (by kernel_rfl) (fun _ _ _ h => h) (Or.inl ⟨by rfl, ?_⟩) (by assumption) ?_; rotate_left; (focus (intro w hSw; (try dsimp only at hSw); (try obtain ⟨hSw1, hSw2, hSw3⟩ := hSw); go_simp <;> with_reducible rfl)); (try simp only [Act.put, List.getElem_toArray, List.getElem_cons_zero, List.getElem_cons_succ, List.setIfInBounds_toArray, List.set_cons_zero, List.set_cons_succ])
    refine wpAnyE_take (i := 6) (v := ?_) rfl (by kernel_rfl) (by kernel_rfl) (by kernel_rfl) (by kernel_rfl) (by kernel_rfl) (fun _ _ _ h => h) (Or.inl ⟨by rfl, ?_⟩) (by assumption) ?_; rotate_left; (focus (intro w hSw; (try dsimp only at hSw); (try obtain ⟨hSw1, hSw2, hSw3⟩ := hSw); go_simp <;> with_reducible rfl)); (try simp only [Act.put, List.getElem_toArray, List.getElem_cons_zero, List.getElem_cons_succ, List.setIfInBounds_toArray, List.set_cons_zero, List.set_cons_succ])
    refine wpAnyE_take (i := 7) (v := ?_) rfl (by kernel_rfl) (by kernel_rfl) (by kernel_rfl) (by kernel_rfl) (by kernel_rfl) (fun _ _ _ h => h) (Or.inl ⟨by rfl, ?_⟩) (by assumption) ?_; rotate_left; (focus (intro w hSw; (try dsimp only at hSw); (try obtain ⟨hSw1, hSw2, hSw3⟩ := hSw); go_simp <;> with_reducible rfl)); (try simp only [Act.put, List.getElem_toArray, List.getElem_cons_zero, List.getElem_cons_succ, List.setIfInBounds_toArray, List.set_cons_zero, List.set_cons_succ])
    refine wpAnyE_take (i := 8) (v := ?_) rfl (by kernel_rfl) (by kernel_rfl) (by kernel_rfl) (by kernel_rfl) (by kernel_rfl) (fun _ _ _ h => h) (Or.inl ⟨by rfl, ?_⟩) (by assumption) ?_; rotate_left; (focus (intro w hSw; (try dsimp only at hSw); (try obtain ⟨hSw1, hSw2, hSw3⟩ := hSw); go_simp <;> with_reducible rfl)); (try simp only [Act.put, List.getElem_toArray, List.getElem_cons_zero, List.getElem_cons_succ, List.setIfInBounds_toArray, List.set_cons_zero, List.set_cons_succ])
    refine wpAnyE_take (i := 9) (v := ?_) rfl (by kernel_rfl) (by kernel_rfl) (by kernel_rfl) (by kernel_rfl) (by kernel_rfl) (fun _ _ _ h => h) (Or.inl ⟨by rfl, ?_⟩) (by assumption) ?_; rotate_left; (focus (intro w hSw; (try dsimp only at hSw); (try obtain ⟨hSw1, hSw2, hSw3⟩ := hSw); go_simp <;> with_reducible rfl)); (try simp only [Act.put, List.getElem_toArray, List.getElem_cons_zero, List.getElem_cons_succ, List.setIfInBounds_toArray, List.set_cons_zero, List.set_cons_succ])
    refine wpAnyE_take (i := 10) (v := ?_) rfl (by kernel_rfl) (by kernel_rfl) (by kernel_rfl) (by kernel_rfl) (by kernel_rfl) (fun _ _ _ h => h) (Or.inl ⟨by rfl, ?_⟩) (by assumption) ?_; rotate_left; (focus (intro w hSw; (try dsimp only at hSw); (try obtain ⟨hSw1, hSw2, hSw3⟩ := hSw); go_simp <;> with_reducible rfl)); (try simp only [Act.put, List.getElem_toArray, List.getElem_cons_zero, List.getElem_cons_succ, List.setIfInBounds_toArray, List.set_cons_zero, List.set_cons_succ])
    have hbA : Below w1.drew.heap.size w1.drew (w1.drew.alloc (.cells #[.int .i64 0] 3)) := (Below.refl _ _).alloc (Nat.le_refl _) _
    have hnA := World.alloc_heap_new w1.drew (.cells #[.int .i64 0] 3)
    refine takeE_call_alloc (i := 11) (j := 12) #[.slice ka kb.length kc, .slice la lb.length lc] (fun v => v = .int .i64 p) (.cells #[.int .i64 0] 3) (by kernel_rfl) (by kernel_rfl) (by kernel_rfl) rfl rfl rfl rfl (by decide) rfl rfl (fun W => by rfl) (by kernel_rfl) (by kernel_rfl) (enters_of Tryd.func49 (by kernel_rfl) rfl) (fun u => rfl)
      ((HUN.out _ HB1.out).mono fun e w' ⟨h1, h2⟩ => ⟨_, h1, rfl, h2⟩) ((HUN.out _ (HB1.out.alloc HB1.out.size _)).mono fun e w' ⟨h1, h2⟩ => ⟨_, h1, rfl, h2⟩) (fun q => HSS.out _ ((below_drewN _ _ 1).trans (below_drewN _ _ q))) (fun q => HSS.out _ (((below_drewN _ _ 1).trans hbA).trans (below_drewN _ _ q))) ?_
    rintro _ q rfl
    simp only [Act.put, List.getElem_toArray, List.getElem_cons_zero, List.getElem_cons_succ, List.setIfInBounds_toArray, List.set_cons_zero, List.set_cons_succ]
    have hbq : Below w1.heap.size w1 ((w1.drew.alloc (.cells #[.int .i64 0] 3)).drewN q) := ((below_drewN _ _ 1).trans hbA).trans (below_drewN _ _ q)
    have hnq : ((w1.drew.alloc (.cells #[.int .i64 0] 3)).drewN q).heap[w1.heap.size]? = some (.cells #[.int .i64 0] 3 (0, 0)) := hnA
    rw [show w1.drew.heap.size = w1.heap.size from rfl]
    generalize (w1.drew.alloc (.cells #[.int .i64 0] 3)).drewN q = w2 at *
    refine takeE_store (i := 13) (pi := ⟨w1.heap.size, 0, none⟩) (v := .int .i64 p) (u := .int .i64 0) Tryd.infoInt (by kernel_rfl) rfl rfl rfl rfl (by kernel_rfl) (by kernel_rfl) rfl rfl (by rw [cell_of_row _ _ _ _ _ _ hnq]; rfl) (by simp [World.frozen?, hnq]) (.inr rfl) ?_
    refine wpAnyE_done (by kernel_rfl) ?_ _
    have hb3 : Below w1.heap.size w1 (w2.setCell ⟨w1.heap.size, 0, none⟩ (.int .i64 p)) := hbq.setCell (p := ⟨w1.heap.size, 0, none⟩) (Nat.le_refl _) _
    have hn3 : (w2.setCell ⟨w1.heap.size, 0, none⟩ (.int .i64 p)).heap[w1.heap.size]? = some (.cells #[.int .i64 p] 3 (0, 0)) := heap_setCell_same _ _ _ _ _ _ hnq
    generalize w2.setCell ⟨w1.heap.size, 0, none⟩ (.int .i64 p) = w3 at *
    have HB3 := hid (HBN.out.trans (hb3.mono HBN.out.size))
    have r0 : w3.cell? ⟨w.heap.size, 0, none⟩ = some (.slice (some ⟨b, off, none⟩) (nl + 1) c) := (HSS.out _ hb3).1
    have r3 : w3.cell? ⟨w1.heap.size, 0, none⟩ = some (.int .i64 p) := by rw [cell_of_row _ _ _ _ _ _ hn3]; rfl
    have H213 : Hid (w3.heap[w.heap.size + 1]? = some (.cells zero32 37 (0, 0))) := hid ((hb3.block _ (block_lt H21.out)).trans H21.out)
    obtain ⟨pb, hpb⟩ : ∃ pb, w1.heap.size = pb := ⟨_, rfl⟩
    have hpbz : w.heap.size + 2 ≤ pb := by have := HZ.out; omega
    rw [hpb] at r3 hn3 ⊢
    have HPZ : Hid (pb < w3.heap.size) := hid (block_lt hn3)
    clear hbq hnq hbA hnA hpb HSS hS0 HUN HB1 H20 HZ H21 HBN
    have HSE := hid (search_any 69 #[.pointer (some ⟨w.heap.size, 0, none⟩), .pointer (some ⟨pb, 0, none⟩)] (nl + 1) m w3 (enters_of Tryd.func69 (by kernel_rfl) rfl) (by omega) (by omega) (fun mm i hi => by
      obtain ⟨x, hx⟩ : ∃ x, xs[i]? = some x := ⟨_, List.getElem?_eq_getElem (by rw [HNX.out]; exact hi)⟩
      have h1 := rootOf1_any w.heap.size pb (.slice (some ⟨b, off, none⟩) (nl + 1) c) xs p i x (w3.drewN mm) hx hp (((HEB.out _ (HB3.out.trans (below_drewN _ _ mm)))).mono (by have := HB3.out.size; exact this)) r0 r3
      rw [HSB.out i x hx] at h1
      exact h1))
    rw [show ((nl + 1 : Nat) : Int) = (nl : Int) + 1 by omega] at HSE
    have hmi : (m : Int) ≤ (nl : Int) + 1 := by omega
    have hmi0 : (0 : Int) ≤ (m : Int) := by omega
    have hmc : (m : Int) ≤ (c : Int) := by omega
    have hcm : ¬ c = m := by omega
    have hcm2 : ¬ (c : Int) = (m : Int) := by omega
    simp only [Only]
    go_wp2_with (first
      | (go_at_call 68; refine HSE.out.mono ?_; rintro e w4 ⟨rfl, q4, rfl⟩
         have HB4 := hid (HB3.out.trans (below_drewN _ w3 q4))
         have r04 : (w3.drewN q4).cell? ⟨w.heap.size, 0, none⟩ = some (.slice (some ⟨b, off, none⟩) (nl + 1) c) := r0
         have r34 : (w3.drewN q4).cell? ⟨pb, 0, none⟩ = some (.int .i64 p) := r3
         have H214 : Hid ((w3.drewN q4).heap[w.heap.size + 1]? = some (.cells zero32 37 (0, 0))) := H213
         have HPZ4 : Hid (pb < (w3.drewN q4).heap.size) := HPZ
         generalize w3.drewN q4 = w5 at *))
    have HC : Hid (∀ W, Below w5.heap.size w5 W → W.cell? ⟨pb, 0, none⟩ = some (.int .i64 p) ∧ W.cell? ⟨w.heap.size, 0, none⟩ = some (.slice (some ⟨b, off, none⟩) (nl + 1) c)) := hid (fun W hW => ⟨(hW.cell (p := ⟨pb, 0, none⟩) HPZ4.out).trans r34, (hW.cell (p := ⟨w.heap.size, 0, none⟩) (World.block_lt_of_cell? _ _ r04)).trans r04⟩)
    have hS5 := HC.out w5.drew (below_drewN _ _ 1)
    have HL1 := HIL.out w5.drew HB4.out.drew
    clear r0 r3 hn3 q0 q1 q2 hb3 HB3 H213 HPZ HSE
    go_region_held3 (fun w' => w'.cell? ⟨pb, 0, none⟩ = some (.int .i64 p) ∧ w'.cell? ⟨w.heap.size, 0, none⟩ = some (.slice (some ⟨b, off, none⟩) (nl + 1) c))
      (first | assumption | exact ⟨(cell_setCells _ _ _ _ ⟨pb, 0, none⟩ (by have : w.heap.size + 2 ≤ pb := hpbz; show pb ≠ _; omega)).trans hS8.1, (cell_setCells _ _ _ _ ⟨w.heap.size, 0, none⟩ (by show w.heap.size ≠ _; omega)).trans hS8.2⟩)
      (first
        | (go_at_call 44; refine HL1.mono ?_; clear HL1; rintro e w6 ⟨rfl, hb6⟩
           have hB6 : Below w5.heap.size w5 w6 := (below_drewN _ w5 1).trans hb6
           have hS6 := HC.out w6 hB6
           have HR1 := HIR.out w6 (HB4.out.trans (hB6.mono HB4.out.size)))
        | (go_at_call 44; refine HR1.mono ?_; clear HR1; rintro e w7 ⟨rfl, hb7⟩
           have hB7 : Below w5.heap.size w5 w7 := hB6.trans (hb7.mono hB6.size)
           have hS7 := HC.out w7 hB7
           have HF1 := HIF.out w7 (HB4.out.trans (hB7.mono HB4.out.size)))
        | (go_at_call 61; refine HF1.mono ?_; clear HF1; rintro e w8 ⟨rfl, hb8⟩
           have hB8 : Below w5.heap.size w5 w8 := hB7.trans (hb8.mono hB7.size)
           have hS8 := HC.out w8 hB8
           have HN8 := hid ((hB8.block _ (block_lt H214.out)).trans H214.out)
           have hth : w8.there (w.heap.size + 1) 0 cs.length := there_zero _ _ _ HLN.out HN8.out))
    have HFB : Hid (Below w.heap.size w (w8.setCells (w.heap.size + 1) 0 cs)) := hid (below_setCells_w3 (HB4.out.trans (hB8.mono HB4.out.size)) (Nat.le_succ _) cs 0)
    have HFH : Hid ((w8.setCells (w.heap.size + 1) 0 cs).heap[w.heap.size + 1]? = some (.cells cs.toArray 37 (0, 0))) := hid (by
      have := setCells_row w8 (w.heap.size + 1) zero32 cs.toArray 37 HN8.out (by rw [show cs.toArray.size = 32 from (by rw [List.size_toArray]; exact HLN.out)]; rfl)
      simpa using this)
    have HI : Hid ((Tryd.prog.info? 37).map (·.size) = some cs.toArray.size) := hid (by rw [List.size_toArray]; exact hI)
    generalize w8.setCells (w.heap.size + 1) 0 cs = we at *
    go_wp2_with (refine bodyPost_ret (v := .agg cs.toArray) (results_cell_row (p := 2) (ty := 37) rfl _ _ (w.heap.size + 1) 37 cs.toArray (0, 0) _ rfl HFH.out Tryd.underlying37 rfl HI.out) rfl ⟨by rw [HEQ.out], HFB.out⟩)
end Go.Proofs.YthkeofinamedfaaDoor
