/- Contracts of trie.node.root, trie.Tree.Root. -/
import Derived.Test.YthkeofinamedfaaDoorForkF
namespace Go.Proofs.YthkeofinamedfaaDoor
open Go.RowKit
set_option linter.unusedVariables false
set_option maxRecDepth 20000

theorem there_zero (W : World) (g n : Nat) (hn : n = 32) (hg : W.heap[g]? = some (.cells zero32 37 (0, 0))) : W.there g 0 n := fun j hj => by
  have : zero32[j]? = some (.int .u8 0) := by rw [zero32, List.getElem?_toArray, List.getElem?_replicate, if_pos (by omega)]
  exact ⟨by rw [Nat.zero_add, cell_of_row _ _ _ _ _ _ hg, this]; rfl, by simp [World.frozen?, hg]⟩

/-- A row that lies there whole. -/
theorem setCells_row (W : World) (g : Nat) (old cs : Array Value) (t : TypeId) (h : W.heap[g]? = some (.cells old t (0, 0))) (hs : old.size = cs.size) : (W.setCells g 0 cs.toList).heap[g]? = some (.cells cs t (0, 0)) := by
  have key : ∀ (vs : List Value) (o : Nat) (W : World) (old : Array Value), W.heap[g]? = some (.cells old t (0, 0)) → o + vs.length = old.size → (W.setCells g o vs).heap[g]? = some (.cells (old.toList.take o ++ vs).toArray t (0, 0)) := by
    intro vs
    induction vs with
    | nil =>
      intro o W old h ho
      simp only [World.setCells]
      rw [h, List.append_nil, List.take_of_length_le (by simp at ho ⊢; omega)]
    | cons v r ih =>
      intro o W old h ho
      simp only [World.setCells]
      simp only [List.length_cons] at ho
      rw [ih (o + 1) _ (old.setIfInBounds o v) (heap_setCell_same W g o old t v h) (by simp; omega)]
      congr 3
      have hol : o < old.toList.length := by simp; omega
      rw [Array.toList_setIfInBounds, List.take_set, List.take_succ_eq_append_getElem hol, List.set_append_right _ _ (by simp; omega), List.length_take, Nat.min_eq_left (by omega), Nat.sub_self, List.set_cons_zero]
      simp
  have := key cs.toList 0 W old h (by simp [hs])
  simpa using this

set_option maxHeartbeats 8000000 in
theorem nroot_any : ∀ (x : Nod) (w : World), x.Lies w → x.tri.WF → Tables w →
    Calls Tryd.prog 38 #[x.at'] w fun e w' => e = .returned (.agg (sumV (rootT x.tri))) ∧ Below w.heap.size w w' := by
  intro x
  induction x with
  | leaf b kv vv k v =>
    intro w hl hwf ht
    obtain ⟨hblk, hk, hv⟩ := hl
    obtain ⟨a1, c1, rfl, _⟩ := id hk
    obtain ⟨a2, c2, rfl, _⟩ := id hv
    have hbl : b < w.heap.size := (Array.getElem?_eq_some_iff.1 hblk).1
    have hbn : Below w.heap.size w (w.alloc (.cells zero32 37)) := (Below.refl _ _).alloc (Nat.le_refl _) _
    have hnew := World.alloc_heap_new w (.cells zero32 37)
    simp only [Nod.at', Nod.blk, Nod.tri, rootT]
    have HS := hid (isSum (leafS (k, v)) (ofS_length _ _))
    go_enter Tryd.func38, Tryd.ntmps38
    go_wp2_with fail
    generalize hw1 : w.alloc _ = w1
    have hbn : Below w.heap.size w w1 := by rw [← hw1]; exact hbn
    have hnew : w1.heap[w.heap.size]? = some (.cells zero32 37 (0, 0)) := by rw [← hw1]; exact hnew
    clear hw1
    have h3 : w1.cell? ⟨b, 3, none⟩ = some (.pointer none) := by rw [hbn.cell (p := ⟨b, 3, none⟩) hbl, cell_of_row _ _ _ _ _ _ hblk]; rfl
    have h0 : w1.cell? ⟨b, 0, none⟩ = some (.slice a1 k.length c1) := by rw [hbn.cell (p := ⟨b, 0, none⟩) hbl, cell_of_row _ _ _ _ _ _ hblk]; rfl
    have h1 : w1.cell? ⟨b, 1, none⟩ = some (.slice a2 v.length c2) := by rw [hbn.cell (p := ⟨b, 1, none⟩) hbl, cell_of_row _ _ _ _ _ _ hblk]; rfl
    have HLS := leafSum_any _ _ k v w1 (hk.new hbn) (hv.new hbn) (ht.below hbn (by have := ht.lt; omega))
    obtain ⟨A, hA⟩ : ∃ A, sumV (leafS (k, v)) = A := ⟨_, rfl⟩
    rw [hA] at HLS HS
    have HA := hid hA
    clear hA
    have HN := hid hnew
    have HB := hid hbn
    clear hnew hbn hblk hk hv ht
    go_wp2_with (first
      | (go_at_call 52; refine (isLeaf_any b none _ h3).mono ?_; rintro e w2 ⟨rfl, rfl⟩)
      | (go_at_call 60; refine HLS.mono ?_; clear HLS; rintro e w2 ⟨rfl, hb2⟩
         have H2 := hid ((hb2.block _ (block_lt HN.out)).trans HN.out)
         have HB2 := hid (HB.out.trans (hb2.mono HB.out.size)))
      | (refine wpList_store_row rfl 37 (.tmp 2) (.tmp 9) rfl w.heap.size A rfl rfl 37 zero32 H2.out HS.out.info HS.out.size HS.out.one ?_)
      | (refine bodyPost_ret (v := .agg A) (results_cell_row (p := 2) (ty := 37) rfl _ _ w.heap.size 37 A (0, 0) _ rfl (setRow_heap _ _ _ _ _ _ H2.out) Tryd.underlying37 rfl HS.out.info) rfl ⟨by rw [HA.out], below_setRow HB2.out (Nat.le_refl _) _⟩))
  | fork b p l r ihl ihr =>
    intro w hl hwf ht
    obtain ⟨hblk, hll, hlr⟩ := hl
    have hp := Tri.place_bound p _ _ hwf
    obtain ⟨wl, wr', _⟩ := hwf
    have hbl : b < w.heap.size := (Array.getElem?_eq_some_iff.1 hblk).1
    have hbn : Below w.heap.size w (w.alloc (.cells zero32 37)) := (Below.refl _ _).alloc (Nat.le_refl _) _
    have hnew := World.alloc_heap_new w (.cells zero32 37)
    simp only [Nod.at'] at ihl ihr hblk
    simp only [Nod.at', Nod.tri, rootT]
    rw [show (Nod.fork b p l r).blk = b from rfl]
    have hlt := ht.lt
    obtain ⟨bl, hbl'⟩ : ∃ bl, l.blk = bl := ⟨_, rfl⟩
    obtain ⟨br, hbr'⟩ : ∃ br, r.blk = br := ⟨_, rfl⟩
    rw [hbl'] at ihl hblk
    rw [hbr'] at ihr hblk
    clear hbl' hbr'
    go_enter Tryd.func38, Tryd.ntmps38
    go_wp2_with fail
    generalize hw1 : w.alloc _ = w1
    replace hbn : Below w.heap.size w w1 := by rw [← hw1]; exact hbn
    replace hnew : w1.heap[w.heap.size]? = some (.cells zero32 37 (0, 0)) := by rw [← hw1]; exact hnew
    clear hw1
    have hcl : ∀ (W : World), Below w.heap.size w W → W.cell? ⟨b, 2, none⟩ = some (.int .i64 p) ∧ W.cell? ⟨b, 3, none⟩ = some (.pointer (some ⟨bl, 0, none⟩)) ∧ W.cell? ⟨b, 4, none⟩ = some (.pointer (some ⟨br, 0, none⟩)) := fun W hW => by
      refine ⟨?_, ?_, ?_⟩
      · rw [hW.cell (p := ⟨b, 2, none⟩) hbl, cell_of_row _ _ _ _ _ _ hblk]; rfl
      · rw [hW.cell (p := ⟨b, 3, none⟩) hbl, cell_of_row _ _ _ _ _ _ hblk]; rfl
      · rw [hW.cell (p := ⟨b, 4, none⟩) hbl, cell_of_row _ _ _ _ _ _ hblk]; rfl
    have HC := hid hcl
    have h1 := hcl w1 hbn
    have h1d := hcl w1.drew hbn.drew
    have hL := isLeaf_any b (some ⟨bl, 0, none⟩) w1 h1.2.1
    have HL1 := ihl w1.drew (hll.new hbn.drew) wl (ht.below hbn.drew (by omega))
    have HIR : Hid (∀ W, Below w.heap.size w W → Calls Tryd.prog 38 #[.pointer (some ⟨br, 0, none⟩)] W fun e w' => e = .returned (.agg (sumV (rootT r.tri))) ∧ Below W.heap.size W w') := hid (fun W hW => ihr W (hlr.new hW) wr' (ht.below hW (by omega)))
    have HIF : Hid (∀ W, Below w.heap.size w W → Calls Tryd.prog 61 #[.int .i64 p, .agg (sumV (rootT l.tri)), .agg (sumV (rootT r.tri))] W fun e w' => e = .returned (.agg ((forkS p (rootT l.tri) (rootT r.tri)).map by8).toArray) ∧ Below W.heap.size W w') := hid (fun W hW => forkSum_any p _ _ W hp (rootT_length _) (rootT_length _) (ht.below hW (by omega)))
    have hI : (Tryd.prog.info? 37).map (·.size) = some ((forkS p (rootT l.tri) (rootT r.tri)).map by8).length := by rw [List.length_map, show (forkS p (rootT l.tri) (rootT r.tri)).length = 32 from ofS_length _ _]; exact Tryd.infoSum
    have hone : ∀ v ∈ (forkS p (rootT l.tri) (rootT r.tri)).map by8, v.oneCell' = true := by8_one _
    have HLN : Hid (((forkS p (rootT l.tri) (rootT r.tri)).map by8).length = 32) := hid (by rw [List.length_map]; exact ofS_length _ _)
    have HEQ : Hid (sumV (forkS p (rootT l.tri) (rootT r.tri)) = ((forkS p (rootT l.tri) (rootT r.tri)).map by8).toArray) := hid rfl
    generalize (forkS p (rootT l.tri) (rootT r.tri)).map by8 = cs at *
    generalize sumV (rootT l.tri) = AL at *
    generalize sumV (rootT r.tri) = AR at *
    have HN := hid hnew
    have HB := hid hbn
    clear hnew hbn hblk ht ihl ihr hcl hll hlr
    go_wp2_with (go_at_call 52; refine hL.mono ?_; clear hL; rintro e w2 ⟨rfl, rfl⟩)
    go_region_held3 (fun w' => w'.cell? ⟨b, 2, none⟩ = some (.int .i64 p) ∧ w'.cell? ⟨b, 3, none⟩ = some (.pointer (some ⟨bl, 0, none⟩)) ∧ w'.cell? ⟨b, 4, none⟩ = some (.pointer (some ⟨br, 0, none⟩)))
      (first | assumption | exact HC.out _ (below_setCells_w3 (by assumption) (Nat.le_refl _) _ _))
      (first
        | (go_at_call 38; refine HL1.mono ?_; clear HL1; rintro e w3 ⟨rfl, hb3⟩
           have hB3 : Below w.heap.size w w3 := HB.out.drew.trans (hb3.mono HB.out.size)
           have hS3 := HC.out w3 hB3
           have HR1 := HIR.out w3 hB3)
        | (go_at_call 38; refine HR1.mono ?_; clear HR1; rintro e w4 ⟨rfl, hb4⟩
           have hB4 : Below w.heap.size w w4 := hB3.trans (hb4.mono hB3.size)
           have hS4 := HC.out w4 hB4
           have HF1 := HIF.out w4 hB4)
        | (go_at_call 61; refine HF1.mono ?_; clear HF1; rintro e w5 ⟨rfl, hb5⟩
           have hB5 : Below w.heap.size w w5 := hB4.trans (hb5.mono hB4.size)
           have hS5 := HC.out w5 hB5
           have HN5 := hid ((hb5.block _ (Nat.lt_of_lt_of_le (block_lt HN.out) (Nat.le_trans hb3.size hb4.size))).trans ((hb4.block _ (Nat.lt_of_lt_of_le (block_lt HN.out) hb3.size)).trans ((hb3.block _ (block_lt HN.out)).trans HN.out)))
           have hth : w5.there w.heap.size 0 cs.length := there_zero _ _ _ HLN.out HN5.out))
    have HFB : Hid (Below w.heap.size w (w5.setCells w.heap.size 0 cs)) := hid (below_setCells_w3 hB5 (Nat.le_refl _) cs 0)
    have HFH : Hid ((w5.setCells w.heap.size 0 cs).heap[w.heap.size]? = some (.cells cs.toArray 37 (0, 0))) := hid (by
      have := setCells_row w5 w.heap.size zero32 cs.toArray 37 HN5.out (by rw [show cs.toArray.size = 32 from (by rw [List.size_toArray]; exact HLN.out)]; rfl)
      simpa using this)
    have HI : Hid ((Tryd.prog.info? 37).map (·.size) = some cs.toArray.size) := hid (by rw [List.size_toArray]; exact hI)
    generalize w5.setCells w.heap.size 0 cs = we at *
    go_wp2_with (refine bodyPost_ret (v := .agg cs.toArray) (results_cell_row (p := 2) (ty := 37) rfl _ _ w.heap.size 37 cs.toArray (0, 0) _ rfl HFH.out Tryd.underlying37 rfl HI.out) rfl ⟨by rw [HEQ.out], HFB.out⟩)
set_option maxHeartbeats 8000000 in
theorem root_any (tb : Nat) (o : Option Nod) (w : World) (h : TreeAt w tb o) (ht : Tables w) :
    Calls Tryd.prog 13 #[.pointer (some ⟨tb, 0, none⟩)] w fun e w' => e = .returned (.agg (sumV (rootO (triO o)))) ∧ Below w.heap.size w w' := by
  have hbn : Below w.heap.size w (w.alloc (.cells zero32 37)) := (Below.refl _ _).alloc (Nat.le_refl _) _
  have hnew := World.alloc_heap_new w (.cells zero32 37)
  have hlt := ht.lt
  have htb : tb < w.heap.size := (Array.getElem?_eq_some_iff.1 h.head).1
  have HS := hid (isSum (rootO (triO o)) (rootO_length _))
  have h0 : w.cell? ⟨tb, 0, none⟩ = some (.pointer (topOf o)) := by rw [cell_of_row _ _ _ _ _ _ h.head]; rfl
  cases o with
  | none =>
    simp only [topOf] at h0
    go_enter Tryd.func13, Tryd.ntmps13
    go_wp2_with fail
    generalize hw1 : w.alloc _ = w1
    replace hbn : Below w.heap.size w w1 := by rw [← hw1]; exact hbn
    replace hnew : w1.heap[w.heap.size]? = some (.cells zero32 37 (0, 0)) := by rw [← hw1]; exact hnew
    clear hw1
    have htw := ht.below hbn (by omega)
    have HR := noneSum_any w1 htw
    clear h0
    obtain ⟨A, hA⟩ : ∃ A, sumV noneS = A := ⟨_, rfl⟩
    replace HS : Hid (IsSum (sumV noneS)) := HS
    rw [hA] at HR HS
    have HA := hid hA
    clear hA
    have HN := hid hnew
    have HB := hid hbn
    clear hnew hbn ht htw
    go_wp2_with (first
      | (go_at_call 37; refine HR.mono ?_; clear HR; rintro e w2 ⟨rfl, hb2⟩
         have H2 := hid ((hb2.block _ (block_lt HN.out)).trans HN.out)
         have HB2 := hid (HB.out.trans (hb2.mono HB.out.size)))
      | (refine wpList_store_row rfl 37 (.tmp 2) (.tmp 8) rfl w.heap.size A rfl rfl 37 zero32 H2.out HS.out.info HS.out.size HS.out.one ?_)
      | (refine bodyPost_ret (v := .agg A) (results_cell_row (p := 2) (ty := 37) rfl _ _ w.heap.size 37 A (0, 0) _ rfl (setRow_heap _ _ _ _ _ _ H2.out) Tryd.underlying37 rfl HS.out.info) rfl ⟨by rw [← HA.out]; rfl, below_setRow HB2.out (Nat.le_refl _) _⟩))
  | some x =>
    simp only [topOf] at h0
    obtain ⟨b, hb⟩ : ∃ b, x.blk = b := ⟨_, rfl⟩
    rw [hb] at h0
    go_enter Tryd.func13, Tryd.ntmps13
    go_wp2_with fail
    generalize hw1 : w.alloc _ = w1
    replace hbn : Below w.heap.size w w1 := by rw [← hw1]; exact hbn
    replace hnew : w1.heap[w.heap.size]? = some (.cells zero32 37 (0, 0)) := by rw [← hw1]; exact hnew
    clear hw1
    have htw := ht.below hbn (by omega)
    have HR := nroot_any x w1 ((h.lies x rfl).new hbn) h.wf htw
    simp only [Nod.at', hb] at HR
    clear h0
    obtain ⟨A, hA⟩ : ∃ A, sumV (rootT x.tri) = A := ⟨_, rfl⟩
    replace HS : Hid (IsSum (sumV (rootT x.tri))) := HS
    rw [hA] at HR HS
    have HA := hid hA
    clear hA hb
    have HN := hid hnew
    have HB := hid hbn
    clear hnew hbn ht htw
    go_wp2_with (first
      | (go_at_call 38; refine HR.mono ?_; clear HR; rintro e w2 ⟨rfl, hb2⟩
         have H2 := hid ((hb2.block _ (block_lt HN.out)).trans HN.out)
         have HB2 := hid (HB.out.trans (hb2.mono HB.out.size)))
      | (refine wpList_store_row rfl 37 (.tmp 2) (.tmp 13) rfl w.heap.size A rfl rfl 37 zero32 H2.out HS.out.info HS.out.size HS.out.one ?_)
      | (refine bodyPost_ret (v := .agg A) (results_cell_row (p := 2) (ty := 37) rfl _ _ w.heap.size 37 A (0, 0) _ rfl (setRow_heap _ _ _ _ _ _ H2.out) Tryd.underlying37 rfl HS.out.info) rfl ⟨by rw [← HA.out]; rfl, below_setRow HB2.out (Nat.le_refl _) _⟩))
end Go.Proofs.YthkeofinamedfaaDoor
