/- Contracts of the document's own Root, RootOf. -/
import Derived.Test.YthkeofinamedfaaDoorRef4C
namespace Go.Proofs.YthkeofinamedfaaDoor
open Go.RowKit Go.Shelf
set_option linter.unusedVariables false
set_option linter.unusedSimpArgs false
set_option maxRecDepth 20000

theorem textsO_any (T : Option Tri) (hT : Tri.WFO T) (v : Value) (xs : List EntV) (w : World) (hE : Ents w.heap.size w v xs) (hx : xs.map EntV.ent = Tri.entsO T) (hn : xs.length < 1000000) :
    Calls Tryd.prog 39 #[v] w fun e w' => ∃ rv n, e = .returned (.tuple #[.agg (sumV (rootO T)), rv]) ∧ TxRow w.heap.size w' rv n ∧ Below w.heap.size w w' := by
  cases T with
  | none =>
    have h0 : xs = [] := by simpa [Tri.entsO] using hx
    subst h0
    obtain ⟨a, c, rfl, _⟩ := hE
    exact (texts0_any a c w).mono fun e w' ⟨rv, h1, h2, h3⟩ => ⟨rv, 1, h1, h2, h3⟩
  | some t => exact (texts_any t hT v xs w hE hx hn).mono fun e w' ⟨rv, n, h1, _, h2, h3⟩ => ⟨rv, n, h1, h2, h3⟩

set_option maxHeartbeats 4000000 in
theorem xroot_any (T : Option Tri) (hT : Tri.WFO T) (v : Value) (xs : List EntV) (w : World) (hE : Ents w.heap.size w v xs) (hx : xs.map EntV.ent = Tri.entsO T) (hn : xs.length < 1000000) :
    Calls Tryd.prog 14 #[v] w fun e w' => e = .returned (.agg (sumV (rootO T))) ∧ Below w.heap.size w w' := by
  have hnew := World.alloc_heap_new w (.cells zero32 37)
  have hbn : Below w.heap.size w (w.alloc (.cells zero32 37)) := (Below.refl _ _).alloc (Nat.le_refl _) _
  have HS := hid (isSum (rootO T) (rootO_length _))
  have HTX := hid (fun W h => textsO_any T hT v xs W h hx hn)
  obtain ⟨A, hA⟩ : ∃ A, sumV (rootO T) = A := ⟨_, rfl⟩
  rw [hA] at HS HTX
  have HA := hid hA
  obtain ⟨a, c, rfl, _⟩ := id hE
  go_enter Tryd.func14, Tryd.ntmps14
  go_wp2_with fail
  generalize hw1 : w.alloc _ = w1
  replace hbn : Below w.heap.size w w1 := by rw [← hw1]; exact hbn
  replace hnew : w1.heap[w.heap.size]? = some (.cells zero32 37 (0, 0)) := by rw [← hw1]; exact hnew
  clear hw1
  have H1 := hid hnew
  have HB := hid hbn
  have HT1 := HTX.out w1 (hE.new hbn)
  clear hnew hbn HTX hE hA
  refine HT1.mono ?_
  clear HT1
  rintro e w2 ⟨rv, n, rfl, T2, hb2⟩
  obtain ⟨a2, c2, rfl⟩ := T2.form
  have HB2 := hid (HB.out.trans (hb2.mono HB.out.size))
  have H2 := hid ((hb2.block _ (block_lt H1.out)).trans H1.out)
  clear T2 hb2 H1 HB
  go_wp2_with (first
    | (refine wpList_store_row rfl 37 (.tmp 3) (.tmp 8) rfl w2.heap.size A rfl rfl 37 zero32 (World.alloc_heap_new w2 _) HS.out.info HS.out.size HS.out.one ?_
       generalize hw3 : World.setRow _ w2.heap.size A = w3
       have R1 : Hid (w3.heap[w2.heap.size]? = some (.cells A 37 (0, 0))) := hid (by rw [← hw3]; exact (fresh_row w2 A).1)
       have R2 : Hid (Below w2.heap.size w2 w3) := hid (by rw [← hw3]; exact (fresh_row w2 A).2.1)
       have H3 := hid ((R2.out.block _ (block_lt H2.out)).trans H2.out)
       have HB3 := hid (HB2.out.trans (R2.out.mono HB2.out.size))
       clear hw3)
    | (refine wpList_load_row rfl 37 (.tmp 3) rfl w2.heap.size rfl 37 A (0, 0) _ R1.out Tryd.underlying37 rfl HS.out.info ?_)
    | (refine wpList_store_row rfl 37 (.tmp 2) (.tmp 10) rfl w.heap.size A rfl rfl 37 zero32 H3.out HS.out.info HS.out.size HS.out.one ?_)
    | (refine bodyPost_ret (v := .agg A) (results_cell_row (p := 2) (ty := 37) rfl _ _ w.heap.size 37 A (0, 0) _ rfl (setRow_heap _ _ _ _ _ _ H3.out) Tryd.underlying37 rfl HS.out.info) rfl ⟨by rw [HA.out], below_setRow HB3.out (Nat.le_refl _) _⟩))

/-- What it answers hangs on the entries alone. -/
theorem rootsTo_one {L : List Ent} {A A' : Array Value} {e e' : Int} (h : RootsTo L A e) (h' : RootsTo L A' e') : A' = A ∧ e' = e := by
  rcases h with ⟨⟨x, hx, hs⟩, rfl, rfl⟩ | ⟨hs, hr, rfl, rfl⟩ | ⟨T, hT, rfl, rfl, rfl⟩
  · rcases h' with ⟨_, h1, h2⟩ | ⟨hs', _⟩ | ⟨T', hT', he, _⟩
    · exact ⟨h1, h2⟩
    · exact absurd (hs' x hx) hs
    · subst he
      cases T' with
      | none => cases hx
      | some t => exact absurd (Tri.short_of t hT' x hx) hs
  · rcases h' with ⟨⟨x, hx, hs'⟩, _⟩ | ⟨_, _, h1, h2⟩ | ⟨T', hT', he, _⟩
    · exact absurd (hs x hx) hs'
    · exact ⟨h1, h2⟩
    · subst he
      cases T' with
      | none => exact absurd List.Pairwise.nil hr
      | some t => exact absurd (Tri.rises t hT') hr
  · exact rootsTo_of hT h'

theorem run_leq_str {P : Program} (t : TypeId) (a b : ByteArray) (w : World) : (binOp .leq t (.string a) (.string b)).run P w = .ok (.bool (Op.bytesLess a.toList b.toList || a.toList == b.toList)) w := by
  simp [binOp, Op.stringOp]

theorem list_beq4 (a b : List UInt8) : (a == b) = decide (a = b) := by
  by_cases h : a = b
  · subst h; simp
  · rw [decide_eq_false h, beq_eq_false_iff_ne]; exact h

theorem leq_not_less (a b : List UInt8) : (Op.bytesLess a b || a == b) = !Op.bytesLess b a := by
  by_cases h : a = b
  · subst h; simp [less_irrefl]
  · rw [less_total a b h, beq_eq_false_iff_ne.2 h, Bool.or_false]

set_option maxHeartbeats 8000000 in
theorem xroots_any (v : Value) (xs : List EntV) (w : World) (hE : Ents w.heap.size w v xs) (hn : xs.length < 1000000) :
    Calls Tryd.prog 19 #[v] w fun e w' => ∃ A er, e = .returned (.tuple #[.agg A, .int .i64 er]) ∧ RootsTo (xs.map EntV.ent) A er ∧ IsSum A ∧ Below w.heap.size w w' := by
  obtain ⟨a, c, rfl, hc1, hc2, _⟩ := id hE
  unfold maxLen at hc2
  have HE := hid hE
  clear hE
  have hnew := heap_alloc_new w (.cells zero32 37)
  have hbn : Below w.heap.size w (w.alloc (.cells zero32 37)) := (Below.refl _ _).alloc (Nat.le_refl _) _
  go_enter Tryd.func19, Tryd.ntmps19
  go_wp2_with fail
  generalize hw1 : w.alloc _ = w1
  replace hbn : Below w.heap.size w w1 := by rw [← hw1]; exact hbn
  replace hnew : w1.heap[w.heap.size]? = some (.cells zero32 37 (0, 0)) := by rw [← hw1]; exact hnew
  clear hw1
  have HN := hid hnew
  have HB := hid hbn
  clear hnew hbn
  have HIZ : Hid (IsSum zero32) := hid ⟨Tryd.infoSum, zero32_one, rfl⟩
  go_loopw [4] (fun i wr => ∃ k : Nat, k ≤ xs.length ∧ i = .int .i64 (k : Int) ∧ Hid (∀ (j : Nat) (x : EntV), j < k → xs[j]? = some x → Tri.short x.ent) ∧ wr = w1) (fun i _ => xs.length - (intOf i).toNat)
  case atStart => exact ⟨0, by omega, rfl, hid (fun j x h => absurd h (Nat.not_lt_zero _)), rfl⟩
  case round =>
    obtain ⟨k, hk, rfl, HSH, rfl⟩ := hrel
    by_cases hlt' : k < xs.length
    · have hki : (k : Int) < (xs.length : Int) := by omega
      have hk0 : (0 : Int) ≤ (k : Int) := by omega
      obtain ⟨b, off, ka, kc, va, vc, kb, vb, rfl, hb, hx, c0, c1, s1, s2⟩ := (HE.out.below HB.out).at k hlt'
      have HX := hid hx
      have hk1 : kb.length ≤ 9223372036854775807 := by have := s1.len; unfold maxLen at this; exact this
      have hv1 : vb.length ≤ 9223372036854775807 := by have := s2.len; unfold maxLen at this; exact this
      clear hx s1 s2
      by_cases hlong : 120 < kb.length ∨ 1200 < vb.length
      · have HR : Hid (∃ x ∈ xs.map EntV.ent, ¬ Tri.short x) := hid ⟨(kb, vb), List.mem_of_getElem? (ent_at rfl HX.out), by simp only [Tri.short]; omega⟩
        clear HX
        by_cases hl1 : 120 < kb.length
        · have hl1' : (120 : Int) < (kb.length : Int) := by omega
          go_wp2_with (first
            | (refine wpList_store_row rfl 37 (.tmp 2) (.tmp 28) rfl w.heap.size zero32 rfl rfl 37 zero32 HN.out Tryd.infoSum rfl zero32_one ?_)
            | (refine bodyPost_ret (v := .tuple #[.agg zero32, .int .i64 2]) (results_row_tmp (p := 2) (u := 3) (ty := 37) rfl _ _ w.heap.size 37 zero32 (0, 0) _ _ rfl (setRow_heap _ _ _ _ _ _ HN.out) Tryd.underlying37 Tryd.infoSum) rfl ⟨_, _, rfl, .inl ⟨HR.out, rfl, rfl⟩, HIZ.out, below_setRow HB.out (Nat.le_refl _) _⟩))
        · have hl1' : (kb.length : Int) ≤ 120 := by omega
          have hl2' : (1200 : Int) < (vb.length : Int) := by omega
          go_wp2_with (first
            | (refine wpList_store_row rfl 37 (.tmp 2) (.tmp 28) rfl w.heap.size zero32 rfl rfl 37 zero32 HN.out Tryd.infoSum rfl zero32_one ?_)
            | (refine bodyPost_ret (v := .tuple #[.agg zero32, .int .i64 2]) (results_row_tmp (p := 2) (u := 3) (ty := 37) rfl _ _ w.heap.size 37 zero32 (0, 0) _ _ rfl (setRow_heap _ _ _ _ _ _ HN.out) Tryd.underlying37 Tryd.infoSum) rfl ⟨_, _, rfl, .inl ⟨HR.out, rfl, rfl⟩, HIZ.out, below_setRow HB.out (Nat.le_refl _) _⟩))
      · have HSH2 : Hid (∀ (j : Nat) (x : EntV), j < k + 1 → xs[j]? = some x → Tri.short x.ent) := hid (fun j x hj hx => by
          rcases Nat.lt_or_ge j k with h | h
          · exact HSH.out j x h hx
          · have : j = k := by omega
            subst this
            rw [HX.out] at hx
            cases hx
            simp only [Tri.short, EntV.ent]
            omega)
        have hl1' : (kb.length : Int) ≤ 120 := by omega
        have hl2' : (vb.length : Int) ≤ 1200 := by omega
        have HKX := hid hlt'
        clear hlong HX HSH
        go_wp2
        go_roundw
        case rel => exact ⟨k + 1, HKX.out, by go_num, HSH2, by trivial⟩
        case measure => have := HKX.out; simp [intOf]; omega
    · have hki : (xs.length : Int) ≤ (k : Int) := by omega
      have HSA : Hid (∀ x ∈ xs.map EntV.ent, Tri.short x) := hid (fun x hx => by
        obtain ⟨y, hy, rfl⟩ := List.mem_map.1 hx
        obtain ⟨j, hj⟩ := List.getElem?_of_mem hy
        exact HSH.out j y (by have := (List.getElem?_eq_some_iff.1 hj).1; omega) hj)
      have HB1 := HB
      have HN1 := HN
      clear HSH hlt' hk HB HN
      go_wp2_with fail
      go_loopw [5] (fun i wq => ∃ k : Nat, 1 ≤ k ∧ k ≤ xs.length + 1 ∧ i = .int .i64 (k : Int) ∧ Hid (∀ j e f, j + 1 < k → (xs.map EntV.ent)[j]? = some e → (xs.map EntV.ent)[j + 1]? = some f → Op.bytesLess e.1 f.1 = true) ∧ Hid (Below w.heap.size w wq) ∧ Hid (wq.heap[w.heap.size]? = some (.cells zero32 37 (0, 0)))) (fun i _ => xs.length + 1 - (intOf i).toNat)
      case atStart => exact ⟨1, by omega, by omega, rfl, hid (fun j e f h => absurd h (by omega)), HB1, HN1⟩
      case round =>
        clear HB1 HN1
        obtain ⟨k, hk1, hk2, rfl, HAD, HB, HNR⟩ := hrel
        by_cases hlt' : k < xs.length
        · have hki : (k : Int) < (xs.length : Int) := by omega
          have hk0 : (0 : Int) ≤ (k : Int) := by omega
          obtain ⟨j, hj⟩ : ∃ j, j + 1 = k := ⟨k - 1, by omega⟩
          obtain ⟨b, off, ka, kc, va, vc, kb, vb, rfl, hb, hx, c0, c1, s1, s2⟩ := (HE.out.below HB.out).at k hlt'
          obtain ⟨b', off', la, lc, ua, uc, lb, ub, hbb, hb', hy, d0, d1, t1, t2⟩ := (HE.out.below HB.out).at j (by omega)
          simp only [Option.some.injEq, Addr.mk.injEq, and_true] at hbb
          obtain ⟨rfl, rfl⟩ := hbb
          have hsub : (k : Int) - 1 = (j : Int) := by omega
          have hj0 : (0 : Int) ≤ (j : Int) := by omega
          have hjn : (j : Int) < (xs.length : Int) := by omega
          have e1 := fun nq => str4 (s1.below (below_drewN _ wr nq))
          have e2 := fun nq => str4 (t1.below (below_drewN _ wr nq))
          have hle := fun w => run_leq_str (P := Tryd.prog) 9 (str8 kb) (str8 lb) w
          rw [str8_toList, str8_toList, leq_not_less kb lb] at hle
          have hle2 : (Op.bytesLess (str8 kb).toList (str8 lb).toList || (str8 kb).toList == (str8 lb).toList) = !Op.bytesLess lb kb := by rw [str8_toList, str8_toList, leq_not_less kb lb]
          have hle3 : (Op.bytesLess (str8 kb).toList (str8 lb).toList || decide ((str8 kb).toList = (str8 lb).toList)) = !Op.bytesLess lb kb := by rw [← hle2, list_beq4]
          have hx1 := ent_at (rfl : xs.map EntV.ent = _) hx
          have hx2 := ent_at (rfl : xs.map EntV.ent = _) hy
          generalize str8 kb = S1 at *
          generalize str8 lb = S2 at *
          have HBQ : Hid (∀ m, Below w.heap.size w (wr.drewN m)) := hid (fun m => HB.out.trans (below_drewN _ _ m))
          cases hless : Op.bytesLess lb kb with
          | false =>
            rw [hless] at hle hle2 hle3
            simp only [Bool.not_false] at hle hle2 hle3
            have HR : Hid (¬ Tri.Rises (xs.map EntV.ent)) := hid (fun hr => by
              have := adj_of_rises hr hx2 (by rw [hj]; exact hx1)
              simp only at this
              rw [hless] at this
              cases this)
            clear hless hx hy hx1 hx2 s1 s2 t1 t2 c1 d1
            go_wp2_with fail
            go_quiet (fail)
            have HNQ : Hid ((wr.drewN nq).heap[w.heap.size]? = some (.cells zero32 37 (0, 0))) := HNR
            have HBW := hid (HBQ.out nq)
            generalize wr.drewN nq = wz at *
            go_wp2_with (first
              | (refine wpList_store_row rfl 37 (.tmp 2) (.tmp 49) rfl w.heap.size zero32 rfl rfl 37 zero32 HNQ.out Tryd.infoSum rfl zero32_one ?_)
              | (refine bodyPost_ret (v := .tuple #[.agg zero32, .int .i64 1]) (results_row_tmp (p := 2) (u := 3) (ty := 37) rfl _ _ w.heap.size 37 zero32 (0, 0) _ _ rfl (setRow_heap _ _ _ _ _ _ HNQ.out) Tryd.underlying37 Tryd.infoSum) rfl ⟨_, _, rfl, .inr (.inl ⟨HSA.out, HR.out, rfl, rfl⟩), HIZ.out, below_setRow HBW.out (Nat.le_refl _) _⟩))
          | true =>
            rw [hless] at hle hle2 hle3
            simp only [Bool.not_true] at hle hle2 hle3
            have HAD2 : Hid (∀ j e f, j + 1 < k + 1 → (xs.map EntV.ent)[j]? = some e → (xs.map EntV.ent)[j + 1]? = some f → Op.bytesLess e.1 f.1 = true) := hid (fun i e f hi he hf => by
              rcases Nat.lt_or_ge (i + 1) k with h | h
              · exact HAD.out i e f h he hf
              · have : i = j := by omega
                subst this
                rw [hx2] at he
                rw [hj, hx1] at hf
                cases he
                cases hf
                exact hless)
            have HKX := hid hlt'
            clear hless hx hy hx1 hx2 s1 s2 t1 t2 c1 d1 HAD hj
            go_wp2_with fail
            go_quiet (fail)
            have HNQ : Hid ((wr.drewN nq).heap[w.heap.size]? = some (.cells zero32 37 (0, 0))) := HNR
            have HBW := hid (HBQ.out nq)
            generalize wr.drewN nq = wz at *
            go_wp2
            go_roundw
            case rel => exact ⟨k + 1, by omega, by have := HKX.out; omega, by go_num, HAD2, HBW, HNQ⟩
            case measure => have := HKX.out; simp [intOf]; omega
        · have hki : (xs.length : Int) ≤ (k : Int) := by omega
          have hR : Tri.Rises (xs.map EntV.ent) := rises_of_adj _ (fun j e f he hf => HAD.out j e f (by have := (List.getElem?_eq_some_iff.1 hf).1; simp at this; omega) he hf)
          obtain ⟨T, hT, hTe⟩ := Tri.exists_of _ hR HSA.out
          have HS := hid (isSum (rootO T) (rootO_length _))
          have HRO := xroot_any T hT _ xs wr ((HE.out.below HB.out).mono HB.out.size) hTe.symm hn
          have HRR : Hid (RootsTo (xs.map EntV.ent) (sumV (rootO T)) 0) := hid (.inr (.inr ⟨T, hT, hTe, rfl, rfl⟩))
          clear hR hT hTe HAD
          generalize sumV (rootO T) = A at *
          go_wp2_with (first
            | (go_at_call 14; refine HRO.mono ?_; clear HRO; rintro e w2 ⟨rfl, hb2⟩
               have H2 := hid ((hb2.block _ (block_lt HNR.out)).trans HNR.out)
               have HB2 := hid (HB.out.trans (hb2.mono HB.out.size)))
            | (refine wpList_store_row rfl 37 (.tmp 2) (.tmp 51) rfl w.heap.size A rfl rfl 37 zero32 H2.out HS.out.info HS.out.size HS.out.one ?_)
            | (refine bodyPost_ret (v := .tuple #[.agg A, .int .i64 0]) (results_row_tmp (p := 2) (u := 3) (ty := 37) rfl _ _ w.heap.size 37 A (0, 0) _ _ rfl (setRow_heap _ _ _ _ _ _ H2.out) Tryd.underlying37 HS.out.info) rfl ⟨_, _, rfl, HRR.out, HS.out, below_setRow HB2.out (Nat.le_refl _) _⟩))
end Go.Proofs.YthkeofinamedfaaDoor
