/- Contract of trie.RootOf. -/
import Derived.Test.YthkeofinamedfaaDoorRootOfF
namespace Go.Proofs.YthkeofinamedfaaDoor
open Go.RowKit Go.Shelf
set_option linter.unusedVariables false
set_option linter.unusedSimpArgs false
set_option maxRecDepth 20000

theorem rises_of_adj : ∀ (l : List Ent), (∀ i e f, l[i]? = some e → l[i + 1]? = some f → Op.bytesLess e.1 f.1 = true) → Tri.Rises l
  | [], _ => List.Pairwise.nil
  | [e], _ => by simp [Tri.Rises]
  | e :: f :: l, h => by
    have ih := rises_of_adj (f :: l) (fun i a b ha hb => h (i + 1) a b (by simpa using ha) (by simpa using hb))
    have h0 := h 0 e f rfl rfl
    refine List.pairwise_cons.2 ⟨fun g hg => ?_, ih⟩
    rcases List.mem_cons.1 hg with rfl | hg
    · exact h0
    · exact less_trans _ _ _ h0 ((List.pairwise_cons.1 ih).1 g hg)

theorem adj_of_rises {l : List Ent} (h : Tri.Rises l) {i : Nat} {e f : Ent} (hi : l[i]? = some e) (hj : l[i + 1]? = some f) : Op.bytesLess e.1 f.1 = true := by
  obtain ⟨h1, e1⟩ := List.getElem?_eq_some_iff.1 hi
  obtain ⟨h2, e2⟩ := List.getElem?_eq_some_iff.1 hj
  have := (List.pairwise_iff_getElem.1 h) i (i + 1) h1 h2 (by omega)
  rw [e1, e2] at this
  exact this

/-- What RootOf answers of entries. -/
def RootsTo (L : List Ent) (A : Array Value) (e : Int) : Prop :=
  ((∃ x ∈ L, ¬ Tri.short x) ∧ A = zero32 ∧ e = 2) ∨ ((∀ x ∈ L, Tri.short x) ∧ ¬ Tri.Rises L ∧ A = zero32 ∧ e = 1) ∨ (∃ T, Tri.WFO T ∧ Tri.entsO T = L ∧ A = sumV (rootO T) ∧ e = 0)

theorem rootsTo_of {T : Option Tri} (hT : Tri.WFO T) {A : Array Value} {e : Int} (h : RootsTo (Tri.entsO T) A e) : A = sumV (rootO T) ∧ e = 0 := by
  have hs : ∀ x ∈ Tri.entsO T, Tri.short x := by
    cases T with
    | none => intro x hx; cases hx
    | some t => exact Tri.short_of t hT
  have hr : Tri.Rises (Tri.entsO T) := by
    cases T with
    | none => exact List.Pairwise.nil
    | some t => exact Tri.rises t hT
  rcases h with ⟨⟨x, hx, hn⟩, _⟩ | ⟨_, hn, _⟩ | ⟨T', hT', he, hA, h0⟩
  · exact absurd (hs x hx) hn
  · exact absurd hr hn
  · refine ⟨?_, h0⟩
    have : T' = T := by
      cases T with
      | none =>
        cases T' with
        | none => rfl
        | some t' => exact absurd he (Tri.ents_ne t')
      | some t =>
        cases T' with
        | none => exact absurd he.symm (Tri.ents_ne t)
        | some t' => rw [Tri.unique t' t hT' hT he]
    rw [hA, this]

set_option maxHeartbeats 4000000 in
theorem rootOf0_any (a : Option Addr) (c : Nat) (w : World) (ht : Tables w) :
    Calls Tryd.prog 44 #[.slice a 0 c] w fun e w' => e = .returned (.agg (sumV (rootO none))) ∧ Below w.heap.size w w' := by
  obtain ⟨h20, h21, hbn, hz⟩ := alloc2 w (.cells #[.slice a 0 c] 33) (.cells zero32 37)
  have HS : Hid (IsSum (sumV noneS)) := hid (isSum (rootO none) (rootO_length _))
  show Calls Tryd.prog 44 #[.slice a 0 c] w fun e w' => e = .returned (.agg (sumV noneS)) ∧ Below w.heap.size w w'
  go_enter Tryd.func44, Tryd.ntmps44
  go_upto_block 0 with fail
  generalize hw1 : (w.alloc _).alloc _ = w1
  replace hbn : Below w.heap.size w w1 := by rw [← hw1]; exact hbn
  replace h21 : w1.heap[w.heap.size + 1]? = some (.cells zero32 37 (0, 0)) := by rw [← hw1]; exact h21
  clear hw1 hz h20
  have HLS := noneSum_any w1 (ht.below hbn (by have := ht.lt; omega))
  obtain ⟨A, hA⟩ : ∃ A, sumV noneS = A := ⟨_, rfl⟩
  rw [hA] at HLS HS
  have HA := hid hA
  clear hA
  have HN := hid h21
  have HB := hid hbn
  clear h21 hbn ht
  go_wp2_with (first
    | (go_at_call 37; refine HLS.mono ?_; clear HLS; rintro e w2 ⟨rfl, hb2⟩
       have H2 := hid ((hb2.block _ (block_lt HN.out)).trans HN.out)
       have HB2 := hid (HB.out.trans (hb2.mono HB.out.size)))
    | (refine wpList_store_row rfl 37 (.tmp 2) (.tmp 9) rfl (w.heap.size + 1) A rfl rfl 37 zero32 H2.out HS.out.info HS.out.size HS.out.one ?_)
    | (refine bodyPost_ret (v := .agg A) (results_cell_row (p := 2) (ty := 37) rfl _ _ (w.heap.size + 1) 37 A (0, 0) _ rfl (setRow_heap _ _ _ _ _ _ H2.out) Tryd.underlying37 rfl HS.out.info) rfl ⟨by rw [HA.out], below_setRow HB2.out (Nat.le_succ _) _⟩))

set_option maxHeartbeats 8000000 in
theorem roots_any (v : Value) (xs : List EntV) (w : World) (hE : Ents w.heap.size w v xs) (hn : xs.length < 1000000000) (ht : Tables w) :
    Calls Tryd.prog 18 #[v] w fun e w' => ∃ A er, e = .returned (.tuple #[.agg A, .int .i64 er]) ∧ RootsTo (xs.map EntV.ent) A er ∧ IsSum A ∧ Below w.heap.size w w' := by
  obtain ⟨a, c, rfl, hc1, hc2, _⟩ := id hE
  unfold maxLen at hc2
  have hlt := ht.lt
  have HE := hid hE
  have HT := hid ht
  clear hE ht
  have hnew := heap_alloc_new w (.cells zero32 37)
  have hbn : Below w.heap.size w (w.alloc (.cells zero32 37)) := (Below.refl _ _).alloc (Nat.le_refl _) _
  go_enter Tryd.func18, Tryd.ntmps18
  go_wp2_with fail
  generalize hw1 : w.alloc _ = w1
  replace hbn : Below w.heap.size w w1 := by rw [← hw1]; exact hbn
  replace hnew : w1.heap[w.heap.size]? = some (.cells zero32 37 (0, 0)) := by rw [← hw1]; exact hnew
  clear hw1
  have HN := hid hnew
  have HBN := hid hbn
  clear hnew hbn
  have HIZ : Hid (IsSum zero32) := hid ⟨Tryd.infoSum, zero32_one, rfl⟩
  go_loopw [9] (fun i wr => ∃ k : Nat, k ≤ xs.length ∧ i = .int .i64 (k : Int) ∧ Hid (∀ j x, j < k → xs[j]? = some x → Tri.short x.ent) ∧ Hid (Below w1.heap.size w1 wr)) (fun i _ => xs.length - (intOf i).toNat)
  case atStart => exact ⟨0, by omega, rfl, hid (fun j x h => absurd h (Nat.not_lt_zero _)), hid (Below.refl _ _)⟩
  case round =>
    obtain ⟨k, hk, rfl, HSH, HBR⟩ := hrel
    have HB := hid (HBN.out.trans (HBR.out.mono HBN.out.size))
    have HNR := hid ((HBR.out.block _ (block_lt HN.out)).trans HN.out)
    by_cases hlt' : k < xs.length
    · have hki : (k : Int) < (xs.length : Int) := by omega
      have hk0 : (0 : Int) ≤ (k : Int) := by omega
      obtain ⟨b, off, ka, kc, va, vc, kb, vb, rfl, hb, hx, c0, c1, s1, s2⟩ := (HE.out.below HB.out).at k hlt'
      have hbA : Below wr.heap.size wr (wr.alloc (.cells #[.slice ka kb.length kc, .slice va vb.length vc] 52)) := (Below.refl _ _).alloc (Nat.le_refl _) _
      have HL := isLong_any _ _ (.slice ka kb.length kc) (.slice va vb.length vc) kb vb (wr.alloc (.cells #[.slice ka kb.length kc, .slice va vb.length vc] 52)) (s1.below (hbA.mono HB.out.size)) (s2.below (hbA.mono HB.out.size))
      have HBA := hid hbA
      have HX := hid hx
      clear hbA hx s1 s2
      by_cases hlong : 120 < kb.length ∨ 1200 < vb.length
      · rw [decide_eq_true hlong] at HL
        have HR : Hid (∃ x ∈ xs.map EntV.ent, ¬ Tri.short x) := hid ⟨(kb, vb), List.mem_of_getElem? (ent_at rfl HX.out), by simp only [Tri.short]; omega⟩
        have HNA := hid ((HBA.out.block _ (block_lt HNR.out)).trans HNR.out)
        have HBZ := hid (HB.out.trans (HBA.out.mono HB.out.size))
        clear hlong HX
        go_wp2_with (first
          | (go_at_call 42; refine HL.mono ?_; clear HL; rintro e w2 ⟨rfl, rfl⟩; generalize wr.alloc (.cells #[.slice ka kb.length kc, .slice va vb.length vc] 52) = w3 at *)
          | (refine wpList_store_row rfl 37 (.tmp 2) (.tmp 18) rfl w.heap.size zero32 rfl rfl 37 zero32 HNA.out Tryd.infoSum rfl zero32_one ?_)
          | (refine bodyPost_ret (v := .tuple #[.agg zero32, .int .i64 2]) (results_row_tmp (p := 2) (u := 3) (ty := 37) rfl _ _ w.heap.size 37 zero32 (0, 0) _ _ rfl (setRow_heap _ _ _ _ _ _ HNA.out) Tryd.underlying37 Tryd.infoSum) rfl ⟨_, _, rfl, .inl ⟨HR.out, rfl, rfl⟩, HIZ.out, below_setRow HBZ.out (Nat.le_refl _) _⟩))
      · rw [decide_eq_false hlong] at HL
        have HSH2 : Hid (∀ j x, j < k + 1 → xs[j]? = some x → Tri.short x.ent) := hid (fun j x hj hx => by
          rcases Nat.lt_or_ge j k with h | h
          · exact HSH.out j x h hx
          · have : j = k := by omega
            subst this
            rw [HX.out] at hx
            cases hx
            simp only [Tri.short, EntV.ent]
            omega)
        have HBZ := hid (HBR.out.trans (HBA.out.mono HBR.out.size))
        have HKX := hid hlt'
        clear hlong HX HSH
        go_wp2_with (first
          | (go_at_call 42; refine HL.mono ?_; clear HL; rintro e w2 ⟨rfl, rfl⟩; generalize wr.alloc (.cells #[.slice ka kb.length kc, .slice va vb.length vc] 52) = w3 at *))
        go_roundw
        case rel => exact ⟨k + 1, HKX.out, by go_num, HSH2, HBZ⟩
        case measure => have := HKX.out; simp [intOf]; omega
    · have hki : (xs.length : Int) ≤ (k : Int) := by omega
      have HSA : Hid (∀ x ∈ xs.map EntV.ent, Tri.short x) := hid (fun x hx => by
        obtain ⟨y, hy, rfl⟩ := List.mem_map.1 hx
        obtain ⟨j, hj⟩ := List.getElem?_of_mem hy
        exact HSH.out j y (by have := (List.getElem?_eq_some_iff.1 hj).1; omega) hj)
      clear HSH
      go_wp2_with fail
      clear HBN HN hki hlt' hk HBR
      go_loopw [6] (fun i wq => ∃ k : Nat, 1 ≤ k ∧ k ≤ xs.length + 1 ∧ i = .int .i64 (k : Int) ∧ Hid (∀ j e f, j + 1 < k → (xs.map EntV.ent)[j]? = some e → (xs.map EntV.ent)[j + 1]? = some f → Op.bytesLess e.1 f.1 = true) ∧ Hid (Below w.heap.size w wq) ∧ Hid (wq.heap[w.heap.size]? = some (.cells zero32 37 (0, 0)))) (fun i _ => xs.length + 1 - (intOf i).toNat)
      case atStart => exact ⟨1, by omega, by omega, rfl, hid (fun j e f h => absurd h (by omega)), HB, HNR⟩
      case round =>
        clear HB HNR
        obtain ⟨k, hk1, hk2, rfl, HAD, HB, HNR⟩ := hrel
        by_cases hlt' : k < xs.length
        · have hki : (k : Int) < (xs.length : Int) := by omega
          have hk0 : (0 : Int) ≤ (k : Int) := by omega
          obtain ⟨j, hj⟩ : ∃ j, j + 1 = k := ⟨k - 1, by omega⟩
          obtain ⟨b, off, ka, kc, va, vc, kb, vb, rfl, hb, hx, c0, c1, s1, s2⟩ := (HE.out.below HB.out).at k hlt'
          obtain ⟨b', off', la, lc, ua, uc, lb, ub, hbb, hb', hy, d0, d1, t1, t2⟩ := (HE.out.below HB.out).at j (by omega)
          simp only [Option.some.injEq, Addr.mk.injEq, and_true] at hbb
          obtain ⟨rfl, rfl⟩ := hbb
          have hsub : (k : Int) - 1 = (j : Int) := by omega
          have hj0 : (0 : Int) ≤ (j : Int) := by omega
          have hjn : (j : Int) < (xs.length : Int) := by omega
          have hcmp := fun m => compare_any _ _ (.slice la lb.length lc) (.slice ka kb.length kc) lb kb (wr.drewN m) (t1.below (below_drewN _ _ m)) (s1.below (below_drewN _ _ m))
          have hcl := cmp_less lb kb
          have hx1 := ent_at (rfl : xs.map EntV.ent = _) hx
          have hx2 := ent_at (rfl : xs.map EntV.ent = _) hy
          obtain ⟨cr1, cr2⟩ := cmp_range lb kb
          generalize Lib.compareBytes lb kb = cv at *
          have HBQ : Hid (∀ m, Below w.heap.size w (wr.drewN m)) := hid (fun m => HB.out.trans (below_drewN _ _ m))
          cases hless : Op.bytesLess lb kb with
          | false =>
            rw [hless] at hcl
            have hcv : (0 : Int) ≤ cv := by simpa using hcl
            have hcv' : ¬ cv < 0 := by omega
            have HR : Hid (¬ Tri.Rises (xs.map EntV.ent)) := hid (fun hr => by
              have := adj_of_rises hr hx2 (by rw [hj]; exact hx1)
              simp only at this
              rw [hless] at this
              cases this)
            clear hcl hless hx hy hx1 hx2 s1 s2 t1 t2 c1 d1
            go_wp2_with fail
            go_quiet ((go_at_call 43; exact Calls.quiet_of_same (hcmp _)))
            have HNQ : Hid ((wr.drewN nq).heap[w.heap.size]? = some (.cells zero32 37 (0, 0))) := HNR
            have HBW := hid (HBQ.out nq)
            generalize wr.drewN nq = wz at *
            go_wp2_with (first
              | (refine wpList_store_row rfl 37 (.tmp 2) (.tmp 39) rfl w.heap.size zero32 rfl rfl 37 zero32 HNQ.out Tryd.infoSum rfl zero32_one ?_)
              | (refine bodyPost_ret (v := .tuple #[.agg zero32, .int .i64 1]) (results_row_tmp (p := 2) (u := 3) (ty := 37) rfl _ _ w.heap.size 37 zero32 (0, 0) _ _ rfl (setRow_heap _ _ _ _ _ _ HNQ.out) Tryd.underlying37 Tryd.infoSum) rfl ⟨_, _, rfl, .inr (.inl ⟨HSA.out, HR.out, rfl, rfl⟩), HIZ.out, below_setRow HBW.out (Nat.le_refl _) _⟩))
          | true =>
            rw [hless] at hcl
            have hcv : cv < 0 := by simpa using hcl
            have HAD2 : Hid (∀ j e f, j + 1 < k + 1 → (xs.map EntV.ent)[j]? = some e → (xs.map EntV.ent)[j + 1]? = some f → Op.bytesLess e.1 f.1 = true) := hid (fun i e f hi he hf => by
              rcases Nat.lt_or_ge (i + 1) k with h | h
              · exact HAD.out i e f h he hf
              · have : i = j := by omega
                subst this
                rw [hx2] at he
                rw [hj, hx1] at hf
                cases he
                cases hf
                exact hless)
            have HKX := hid hlt'
            clear hcl hless hx hy hx1 hx2 s1 s2 t1 t2 c1 d1 HAD hj
            go_wp2_with fail
            go_quiet ((go_at_call 43; exact Calls.quiet_of_same (hcmp _)))
            have HNQ : Hid ((wr.drewN nq).heap[w.heap.size]? = some (.cells zero32 37 (0, 0))) := HNR
            have HBW := hid (HBQ.out nq)
            generalize wr.drewN nq = wz at *
            go_wp2
            go_roundw
            case rel => exact ⟨k + 1, by omega, by have := HKX.out; omega, by go_num, HAD2, HBW, HNQ⟩
            case measure => have := HKX.out; simp [intOf]; omega
        · have hki : (xs.length : Int) ≤ (k : Int) := by omega
          have hR : Tri.Rises (xs.map EntV.ent) := rises_of_adj _ (fun j e f he hf => HAD.out j e f (by have := (List.getElem?_eq_some_iff.1 hf).1; simp at this; omega) he hf)
          obtain ⟨T, hT, hTe⟩ := Tri.exists_of _ hR HSA.out
          have HS := hid (isSum (rootO T) (rootO_length _))
          have HRO : Calls Tryd.prog 44 #[.slice a xs.length c] wr fun e w' => e = .returned (.agg (sumV (rootO T))) ∧ Below wr.heap.size wr w' := by
            cases T with
            | none =>
              have h0 : xs = [] := by simpa [Tri.entsO] using hTe.symm
              subst h0
              exact rootOf0_any a c wr (HT.out.below HB.out (by omega))
            | some t => exact rootOf_any t hT _ xs wr ((HE.out.below HB.out).mono HB.out.size) hTe.symm hn (HT.out.below HB.out (by omega))
          have HRR : Hid (RootsTo (xs.map EntV.ent) (sumV (rootO T)) 0) := hid (.inr (.inr ⟨T, hT, hTe, rfl, rfl⟩))
          clear hR hT hTe HAD
          generalize sumV (rootO T) = A at *
          go_wp2_with (first
            | (go_at_call 44; refine HRO.mono ?_; clear HRO; rintro e w2 ⟨rfl, hb2⟩
               have H2 := hid ((hb2.block _ (block_lt HNR.out)).trans HNR.out)
               have HB2 := hid (HB.out.trans (hb2.mono HB.out.size)))
            | (refine wpList_store_row rfl 37 (.tmp 2) (.tmp 41) rfl w.heap.size A rfl rfl 37 zero32 H2.out HS.out.info HS.out.size HS.out.one ?_)
            | (refine bodyPost_ret (v := .tuple #[.agg A, .int .i64 0]) (results_row_tmp (p := 2) (u := 3) (ty := 37) rfl _ _ w.heap.size 37 A (0, 0) _ _ rfl (setRow_heap _ _ _ _ _ _ H2.out) Tryd.underlying37 HS.out.info) rfl ⟨_, _, rfl, HRR.out, HS.out, below_setRow HB2.out (Nat.le_refl _) _⟩))
end Go.Proofs.YthkeofinamedfaaDoor
