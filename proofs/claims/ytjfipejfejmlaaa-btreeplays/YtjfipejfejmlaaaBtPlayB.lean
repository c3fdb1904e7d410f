/- An act on both trees (stage 14). -/
import Derived.Test.YtjfipejfejmlaaaBtPlayA
namespace Go.Proofs.Ytjfipejfejmlaaa
open Go.RowKit Go.Shelf
set_option linter.unusedVariables false
set_option linter.unusedSimpArgs false
set_option maxRecDepth 20000

set_option maxHeartbeats 8000000 in
theorem act_any {BT : (Nat → Prop) → World → Nat → List (List Ent) → Nat → Prop} (HA : Api BT) (B tb xb : Nat) (a : ActIn) (L : List Ent) (xs : List EntV) (w : World) (hp : PairB BT (fun i => B ≤ i) w tb xb L xs) (hx : xs.map EntV.ent = L) (hB : B ≤ w.heap.size) (hd : -9223372036854775808 ≤ a.d ∧ a.d ≤ 9223372036854775807)
    (hka : Lent8 B w a.ka a.kb) (hva : Lent8 B w a.va a.vb) (hfa : Lent8 B w a.fa a.fb) (hta : Lent8 B w a.ta a.tb) (hfew : xs.length ≤ 1000) :
    Calls Try.prog 12 #[.pointer (some ⟨tb, 0, none⟩), .pointer (some ⟨xb, 0, none⟩), .agg #[.int .i64 a.d, a.ka, a.va, a.fa, a.ta, .bool a.en]] w fun e W' => e = .returned (.bool true) ∧ ∃ L' ys, PairB BT (fun i => B ≤ i) W' tb xb L' ys ∧ ys.map EntV.ent = L' ∧ ys.length ≤ xs.length + 1 ∧ Below B w W' := by
  obtain ⟨d, ka, va, fa, ta, en, kb, vb, fb, tb'⟩ := a
  simp only at hd hka hva hfa hta ⊢
  obtain ⟨a1, c1, rfl⟩ := hka.form
  obtain ⟨a2, c2, rfl⟩ := hva.form
  obtain ⟨a3, c3, rfl⟩ := hfa.form
  obtain ⟨a4, c4, rfl⟩ := hta.form
  have hkl := hka.2
  have hvl := hva.2
  have hb1 : Below B w (w.alloc (.cells #[.int .i64 d, .slice a1 kb.length c1, .slice a2 vb.length c2, .slice a3 fb.length c3, .slice a4 tb'.length c4, .bool en] 34)) := Below.alloc (Below.refl _ _) hB _
  have hz : (w.alloc (.cells #[.int .i64 d, .slice a1 kb.length c1, .slice a2 vb.length c2, .slice a3 fb.length c3, .slice a4 tb'.length c4, .bool en] 34)).heap.size = w.heap.size + 1 := size_alloc1 _ _
  have HL1 := hid (lent_any B (.slice a1 kb.length c1) kb _ (by omega) (hka.1.below hb1) hkl)
  rw [hz] at HL1
  have HL2 := hid (fun (W2 : World) (hb2 : Below (w.heap.size + 1) (w.alloc (.cells #[.int .i64 d, .slice a1 kb.length c1, .slice a2 vb.length c2, .slice a3 fb.length c3, .slice a4 tb'.length c4, .bool en] 34)) W2) => lent_any B (.slice a2 vb.length c2) vb W2 (by have := hb2.size; omega) ((hva.1.below hb1).below (hb2.mono (by omega))) hvl)
  have HMK := hid (fun (W2 W3 : World) (k' v' : Value) h1 h2 h3 h4 => in_make HA (a := ⟨d, _, _, _, _, en, kb, vb, fb, tb'⟩) (W2 := W2) (W3 := W3) (k' := k') (v' := v') hp hB hka hva hfa hta h1 h2 h3 h4)
  have HX := hid hx
  have HC2 : Hid (∀ W2, Below (w.heap.size + 1) (w.alloc (.cells #[.int .i64 d, .slice a1 kb.length c1, .slice a2 vb.length c2, .slice a3 fb.length c3, .slice a4 tb'.length c4, .bool en] 34)) W2 → W2.cell? ⟨w.heap.size, 2, none⟩ = some (.slice a2 vb.length c2)) := hid (fun W2 hb2 => by
    have := (hb2.block w.heap.size (by omega)).trans (heap_alloc_new w _)
    simp [World.cell?, this])
  have HLN := hid (show L.length = xs.length by rw [← hx, List.length_map])
  have HRS := hid (HA.rises hp.tree)
  clear hp hx hka hva hfa hta hb1 hz
  go_enter Try.func12, Try.ntmps12
  go_wp2_with fail
  refine HL1.out.mono ?_
  rintro e W2 ⟨k', rfl, hk', hb2⟩
  have hL2 := HL2.out W2 hb2
  have hc2 := HC2.out W2 hb2
  go_wp2_with fail
  refine hL2.mono ?_
  rintro e W3 ⟨v', rfl, hv', hb3⟩
  have HI := hid (HMK.out W2 W3 k' v' hk' hb2 hv' hb3)
  obtain ⟨gk, rfl, _⟩ := id hk'
  obtain ⟨gv, rfl, _⟩ := id hv'
  clear hk' hv' hb2 hb3 hL2 hc2 HL1 HL2 HMK HC2
  generalize W3.heap.size = M at *
  generalize w.heap.size = N at *
  obtain ⟨A, hA⟩ : ∃ A : ActIn, A = ⟨d, .slice a1 kb.length c1, .slice a2 vb.length c2, .slice a3 fb.length c3, .slice a4 tb'.length c4, en, kb, vb, fb, tb'⟩ := ⟨_, rfl⟩
  rw [← hA] at HI
  have HAE := hid hA
  have HCE : Hid (∀ L' ys W, InB BT B N M w tb xb A (.slice (some ⟨gk, 0, none⟩) kb.length (kb.length + 1)) (.slice (some ⟨gv, 0, none⟩) vb.length (vb.length + 1)) L' ys W → W.cell? ⟨N, 0, none⟩ = some (.int .i64 d) ∧ W.cell? ⟨N, 1, none⟩ = some (.slice a1 kb.length c1) ∧ W.cell? ⟨N, 2, none⟩ = some (.slice a2 vb.length c2) ∧ W.cell? ⟨N, 3, none⟩ = some (.slice a3 fb.length c3) ∧ W.cell? ⟨N, 4, none⟩ = some (.slice a4 tb'.length c4) ∧ W.cell? ⟨N, 5, none⟩ = some (.bool en)) := hid (fun L' ys W h => by have := h.cells; rw [hA] at this; exact this)
  have cd := (HCE.out _ _ _ HI.out).1
  clear hA
  go_upto_block 0 with fail
  go_cut [9, 10, 11, 12, 13, 14] from 24 to 88 (fun u9 u10 u11 u12 u13 u14 wx => u9 = .bool true ∧ ∃ L' ys, ys.map EntV.ent = L' ∧ ys.length ≤ xs.length + 1 ∧ Hid (InB BT B N M w tb xb A (.slice (some ⟨gk, 0, none⟩) kb.length (kb.length + 1)) (.slice (some ⟨gv, 0, none⟩) vb.length (vb.length + 1)) L' ys wx))
  case first =>
    clear cd
    have hkbe : A.kb = kb := by rw [HAE.out]
    have hvbe : A.vb = vb := by rw [HAE.out]
    have HKE := hid hkbe
    have HVE := hid hvbe
    have HKA := hid (show A.ka = .slice a1 kb.length c1 by rw [HAE.out])
    have HVA := hid (show A.va = .slice a2 vb.length c2 by rw [HAE.out])
    have HFA := hid (show A.fa = .slice a3 fb.length c3 ∧ A.ta = .slice a4 tb'.length c4 ∧ A.en = en by rw [HAE.out]; exact ⟨rfl, rfl, rfl⟩)
    clear hkbe hvbe
    by_cases hd0 : d = 0
    · subst hd0
      have HB0 := hid (HI.out.new HA (W' := W3.drew) (below_drewN _ _ 1))
      have HP := hid (fun W h => in_put HA (B := B) (N := N) (M := M) (w := w) (tb := tb) (xb := xb) (a := A) (k' := .slice (some ⟨gk, 0, none⟩) kb.length (kb.length + 1)) (v' := .slice (some ⟨gv, 0, none⟩) vb.length (vb.length + 1)) (L := L) (xs := xs) (W := W) h (by have := HLN.out; omega))
      have HXP := hid (fun W L' h => in_xput HA (B := B) (N := N) (M := M) (w := w) (tb := tb) (xb := xb) (a := A) (k' := .slice (some ⟨gk, 0, none⟩) kb.length (kb.length + 1)) (v' := .slice (some ⟨gv, 0, none⟩) vb.length (vb.length + 1)) (L := L') (xs := xs) (W := W) h (by omega))
      rw [HX.out, HKA.out, HVA.out] at HXP
      have HFW := hid (putL_few L (A.kb, A.vb))
      generalize hitK L A.kb = q at HP HXP
      have hqq : (q == q) = true := by simp
      go_wp2_with fail
      go_region_held3 (fun w' => w'.cell? ⟨N, 1, none⟩ = some (.slice a1 kb.length c1) ∧ w'.cell? ⟨N, 2, none⟩ = some (.slice a2 vb.length c2))
        (first | exact ⟨(HCE.out _ _ _ HB0.out).2.1, (HCE.out _ _ _ HB0.out).2.2.1⟩ | exact ⟨(HCE.out _ _ _ HB5.out).2.1, (HCE.out _ _ _ HB5.out).2.2.1⟩ | exact ⟨(HCE.out _ _ _ HB6.out).2.1, (HCE.out _ _ _ HB6.out).2.2.1⟩)
        (first
          | (go_at_call 11; refine (HP.out _ HB0.out).mono ?_; rintro e w5 ⟨rfl, B5⟩; have HB5 := hid B5; clear B5)
          | (go_at_call 32; refine (HXP.out _ _ HB5.out).mono ?_; rintro e w6 ⟨rfl, ys, B6, hy⟩; have HB6 := hid B6; clear B6))
      have hle : ys.length ≤ xs.length + 1 := by
        have h1 : ys.length = (putL L (A.kb, A.vb)).length := by rw [← hy, List.length_map]
        have := HFW.out; have := HLN.out; omega
      have HY := hid hy
      clear hy
      go_wp2_with fail
      go_meet
      exact ⟨rfl, _, ys, HY.out, hle, HB6⟩
    · have he0 : (d == 0) = false := by rw [beq_eq_false_iff_ne]; exact hd0
      have hf0 : decide (d = 0) = false := decide_eq_false hd0
      by_cases hd1 : d = 1
      · subst hd1
        have HB0 := hid (HI.out.new HA (W' := W3.drew) (below_drewN _ _ 1))
        have HP := hid (fun W h => in_delete HA (B := B) (N := N) (M := M) (w := w) (tb := tb) (xb := xb) (a := A) (k' := .slice (some ⟨gk, 0, none⟩) kb.length (kb.length + 1)) (v' := .slice (some ⟨gv, 0, none⟩) vb.length (vb.length + 1)) (L := L) (xs := xs) (W := W) h (by have := HLN.out; omega))
        have HXP := hid (fun W L' h => in_xdelete HA (B := B) (N := N) (M := M) (w := w) (tb := tb) (xb := xb) (a := A) (k' := .slice (some ⟨gk, 0, none⟩) kb.length (kb.length + 1)) (v' := .slice (some ⟨gv, 0, none⟩) vb.length (vb.length + 1)) (L := L') (xs := xs) (W := W) h (by omega))
        rw [HX.out, HKA.out] at HXP
        have HFW := hid (delL_few L A.kb)
        generalize hitK L A.kb = q at HP HXP
        have hqq : (q == q) = true := by simp
        go_wp2_with fail
        go_region_held3 (fun w' => w'.cell? ⟨N, 1, none⟩ = some (.slice a1 kb.length c1))
          (first | exact (HCE.out _ _ _ HB0.out).2.1 | exact (HCE.out _ _ _ HB5.out).2.1 | exact (HCE.out _ _ _ HB6.out).2.1)
          (first
            | (go_at_call 17; refine (HP.out _ HB0.out).mono ?_; rintro e w5 ⟨rfl, B5⟩; have HB5 := hid B5; clear B5)
            | (go_at_call 33; refine (HXP.out _ _ HB5.out).mono ?_; rintro e w6 ⟨rfl, ys, B6, hy⟩; have HB6 := hid B6; clear B6))
        have hle : ys.length ≤ xs.length + 1 := by
          have h1 : ys.length = (delL L A.kb).length := by rw [← hy, List.length_map]
          have := HFW.out; have := HLN.out; omega
        have HY := hid hy
        clear hy
        go_wp2_with fail
        go_meet
        exact ⟨rfl, _, ys, HY.out, hle, HB6⟩
      · have he1 : (d == 1) = false := by rw [beq_eq_false_iff_ne]; exact hd1
        have hf1 : decide (d = 1) = false := decide_eq_false hd1
        by_cases hd2 : d = 2
        · subst hd2
          have HG := hid (in_get HA HI.out (by have := HLN.out; omega))
          have HXG := hid (fun W h => in_xget HA (B := B) (N := N) (M := M) (w := w) (tb := tb) (xb := xb) (a := A) (k' := .slice (some ⟨gk, 0, none⟩) kb.length (kb.length + 1)) (v' := .slice (some ⟨gv, 0, none⟩) vb.length (vb.length + 1)) (L := L) (xs := xs) (W := W) h HX.out (by omega))
          rw [HKA.out] at HXG
          generalize hitK L A.kb = q at HG HXG
          generalize (lookL L A.kb).getD [] = bs at HG HXG
          have hqq : (q == q) = true := by simp
          go_wp2_with fail
          refine HG.out.mono ?_
          rintro e W4 ⟨a7, c7, rfl, hc4, hb4⟩
          have HI4 := hid (HI.out.new HA hb4)
          have HC4 := hid hc4
          have HB4 := hid hb4
          have hk1 := (HCE.out _ _ _ HI4.out).2.1
          clear hc4 hb4
          go_wp2_with fail
          refine (HXG.out _ HI4.out).mono ?_
          rintro e W5 ⟨a5, c5, rfl, hc5, hb5⟩
          have HI5 := hid (HI4.out.new HA hb5)
          have e1 := str4 (Copy.says (HC4.out.new hb5))
          have e2 := str4 (Copy.says hc5)
          have HB5 := htr HB4 hb5
          have HOW := hid (own_one W3.heap.size W5 (.slice a7 bs.length c7) HB5.out.size (full_of_owns (HC4.out.new hb5)))
          have HEN : Hid (∀ W6, Spares (fun i => (Value.slice a7 bs.length c7).ownBlock = some i) W5 W6 → InB BT B N M w tb xb A (.slice (some ⟨gk, 0, none⟩) kb.length (kb.length + 1)) (.slice (some ⟨gv, 0, none⟩) vb.length (vb.length + 1)) L xs W6) := hid (fun W6 hs => HI.out.new HA (HB5.out.trans (hs.below (fun i hi => (HC4.out.lt i hi).1) HB5.out.size)))
          clear hc5 hb5 hk1
          go_wp2_with fail
          refine HOW.out.mono ?_
          rintro e W6 ⟨rfl, hs6⟩
          have HI6 := hid (HEN.out W6 hs6)
          clear hs6 e1 e2
          go_wp2_with fail
          go_meet
          exact ⟨rfl, _, xs, HX.out, by omega, HI6⟩
        · have he2 : (d == 2) = false := by rw [beq_eq_false_iff_ne]; exact hd2
          have hf2 : decide (d = 2) = false := decide_eq_false hd2
          by_cases hd3 : d = 3
          · subst hd3
            have HG := hid (in_range HA HI.out (by have := HLN.out; omega))
            have HXG := hid (fun W h => in_xrange (BT := BT) (B := B) (N := N) (M := M) (w := w) (tb := tb) (xb := xb) (a := A) (k' := .slice (some ⟨gk, 0, none⟩) kb.length (kb.length + 1)) (v' := .slice (some ⟨gv, 0, none⟩) vb.length (vb.length + 1)) (L := L) (xs := xs) (W := W) h (by omega))
            rw [HX.out] at HXG
            rw [HFA.out.1, HFA.out.2.1, HFA.out.2.2] at HG HXG
            generalize rangeL L A.fb A.tb en = R at HG HXG
            obtain ⟨_, _, _, cf, ct, ce⟩ := HCE.out _ _ _ HI.out
            go_wp2_with fail
            refine HG.out.mono ?_
            rintro e W4 ⟨a7, c7, es, rfl, hr4, he4, hb4⟩
            have HI4 := hid (HI.out.new HA hb4)
            have HR4 := hid hr4
            have HE4 := hid he4
            have HB4 := hid hb4
            clear hr4 he4 hb4 cf ct ce
            obtain ⟨_, _, _, cf, ct, ce⟩ := HCE.out _ _ _ HI4.out
            go_wp2_with fail
            refine (HXG.out _ HI4.out).mono ?_
            rintro e W5 ⟨a5, c5, gs, rfl, hg5, he5, hb5⟩
            have HI5 := hid (HI4.out.new HA hb5)
            have HR5 := hid (HR4.out.new hb5)
            have HB5 := htr HB4 hb5
            have HSM := hid (same_rows HR5.out.ents hg5 (by rw [HE4.out, he5]))
            clear hg5 he5 hb5 cf ct ce
            go_wp2_with fail
            refine HSM.out.mono ?_
            clear HSM
            rintro e W6 ⟨rfl, hb6⟩
            have HR6 := hid (HR5.out.new hb6)
            have HB6 := htr HB5 hb6
            have HSP := hid (spoil_any W3.heap.size _ _ W6 HB6.out.size HR6.out)
            clear hb6
            go_wp2_with fail
            refine HSP.out.mono ?_
            rintro e W7 ⟨rfl, hb7⟩
            have HI7 := hid (HI.out.new HA (HB6.out.trans hb7))
            clear hb7
            go_wp2_with fail
            go_meet
            exact ⟨rfl, _, xs, HX.out, by omega, HI7⟩
          · have he3 : (d == 3) = false := by rw [beq_eq_false_iff_ne]; exact hd3
            have hf3 : decide (d = 3) = false := decide_eq_false hd3
            go_wp2_with fail
            go_meet
            exact ⟨rfl, L, xs, HX.out, by omega, HI⟩
  case rest =>
    obtain ⟨rfl, L', ys, hy, hl, HJ⟩ := hcut
    clear HI cd
    obtain ⟨_, c1', c2', _⟩ := HCE.out _ _ _ HJ.out
    have HJE : Hid (Lends (N + 1) wc (.slice (some ⟨gk, 0, none⟩) kb.length (kb.length + 1)) kb ∧ Lends (N + 1) wc (.slice (some ⟨gv, 0, none⟩) vb.length (vb.length + 1)) vb ∧ Shows B wc (.slice a1 kb.length c1) kb ∧ Shows B wc (.slice a2 vb.length c2) vb) := hid (by
      have h1 := HJ.out.k
      have h2 := HJ.out.v
      have h3 := HJ.out.ka.1
      have h4 := HJ.out.va.1
      rw [HAE.out] at h1 h2 h3 h4
      exact ⟨h1, h2, h3, h4⟩)
    have HK1 := hid (kept_any _ _ _ _ kb _ HJE.out.1 HJE.out.2.2.1 hkl)
    have HK2 := hid (kept_any _ _ _ _ vb _ HJE.out.2.1 HJE.out.2.2.2 hvl)
    have HEN := hid (in_end HA HJ.out)
    have HY := hid hy
    clear hy
    go_wp2_with fail
    refine HK1.out.mono ?_
    rintro e w' ⟨rfl, e'⟩
    rw [e']
    clear e' w'
    go_wp2_with fail
    refine HK2.out.mono ?_
    rintro e w' ⟨rfl, e'⟩
    rw [e']
    clear e' w'
    go_wp2_with fail
    refine HEN.out.mono ?_
    rintro e W7 ⟨rfl, hp7, hb7⟩
    go_wp2_with fail
    go_ret
    exact ⟨rfl, L', ys, hp7, HY.out, hl, hb7⟩
end Go.Proofs.Ytjfipejfejmlaaa
