/- The walk of ProofTells. -/
import Derived.Test.YtmafaioohiaenaaDoorTellsK
namespace Go.Proofs.YtmafaioohiaenaaDoor
open Go.RowKit Go.Shelf
set_option linter.unusedVariables false
set_option linter.unusedSimpArgs false
set_option maxRecDepth 20000

theorem types_apart {B C n : Nat} {w : World} {sv v : Value} {xs : List Value} {bs : List UInt8} (h : w.ownsRow B 66 34 sv n xs) (hl : Lends C w v bs) : ∀ g, sv.ownBlock = some g → v.ownBlock ≠ some g := fun g hg e => by
  obtain ⟨x1, y1⟩ := row_type h hg
  obtain ⟨g', rfl, ho⟩ := hl
  obtain ⟨x2, y2⟩ := row_type ho (g := g) e
  rw [y1] at y2
  cases y2

set_option maxHeartbeats 16000000 in
theorem tells_law (rt : List UInt8) (own : Bool) (key : Value) (kb : List UInt8) (p : Prf) (kv vv sv : Value) (w : World) (hr : rt.length = 32) (hk : Shows w.heap.size w key kb) (hkm : kb.length ≤ 140737488351232) (hp : PAt w.heap.size w p kv vv sv) (hnc : ∀ l c, sv = .slice none l c → c = 0) (hT : Tables w) :
    Calls Tryd.prog 3 #[.agg (sumV rt), .bool own, key, .agg #[.bool p.no, kv, vv, sv]] w fun e w' => e = .returned (.bool true) ∧ Below w.heap.size w w' := by
  obtain ⟨ka, kc, rfl, hk1, hk2, _⟩ := id hp.hk
  obtain ⟨va, vc, rfl, hv1, hv2, _⟩ := id hp.hv
  obtain ⟨sa, sc, rfl, hs1, hs2⟩ := hp.hs.form
  obtain ⟨ya, yc, rfl, hy1, hy2, _⟩ := id hk
  obtain ⟨i0, hi, hz0, hz1, hz2⟩ := info_parts Tryd.infoBytes
  have hok := hp.hs.ok
  unfold maxLen at hk2 hv2 hs2 hy2
  have hlt := hT.lt
  have HIS := isSum rt hr
  obtain ⟨n0, n1, hbn, hsn⟩ := alloc2 w (.cells (sumV rt) 23) (.cells #[.bool p.no, .slice ka p.k.length kc, .slice va p.v.length vc, .slice sa p.st.length sc] 29)
  go_enter Tryd.func3, Tryd.ntmps3
  go_wp2_with fail
  generalize hw2 : (w.alloc _).alloc _ = w2 at *
  have FB : ∀ W, Below (w.heap.size + 2) w2 W → Below w.heap.size w W ∧ PAt w.heap.size W p (.slice ka p.k.length kc) (.slice va p.v.length vc) (.slice sa p.st.length sc) ∧ Shows w.heap.size W (.slice ya kb.length yc) kb ∧ w.heap.size + 2 ≤ W.heap.size ∧ Tables W ∧ W.heap[w.heap.size]? = some (.cells (sumV rt) 23 (0, 0)) ∧ W.heap[w.heap.size + 1]? = some (.cells #[.bool p.no, .slice ka p.k.length kc, .slice va p.v.length vc, .slice sa p.st.length sc] 29 (0, 0)) := fun W h => by
    have hb : Below w.heap.size w W := hbn.trans (h.mono (by omega))
    exact ⟨hb, hp.below hb, hk.below hb, by have := h.size; omega, hT.below hb hT.lt, (h.block _ (by omega)).trans n0, (h.block _ (by omega)).trans n1⟩
  have b2 : Below (w.heap.size + 2) w2 w2 := Below.refl _ _
  have HSM := small5_any w2 (FB _ b2).2.2.2.2.1
  have HFB := hid FB
  clear FB n0 n1
  refine HSM.mono ?_
  clear HSM
  rintro e w3 ⟨rfl, b3'⟩
  have b3 : Below (w.heap.size + 2) w2 w3 := b2.trans (b3'.mono (by omega))
  obtain ⟨r1, r2, r3, r4, r5, r6, r7⟩ := HFB.out _ b3
  obtain ⟨c0, c1, c2, c3⟩ := proof_cells r7
  have HSH := short_any w.heap.size p _ _ _ w3 r2
  have HBN := hid hbn
  have HPP := hid hp
  clear b3' r1 r2 r3 r4 r5 r6 r7 hw2 hbn hp hk hT hsn
  by_cases hshort : p.k.length ≤ 4096 ∧ p.v.length ≤ 4096 ∧ p.st.length ≤ 2000
  · rw [decide_eq_true hshort] at HSH
    obtain ⟨hkl, hvl, hsl⟩ := hshort
    go_wp2_with fail
    refine HSH.mono ?_
    clear HSH
    rintro e w4 ⟨rfl, b4'⟩
    have b4 : Below (w.heap.size + 2) w2 w4 := b3.trans (b4'.mono (by have := (HFB.out _ b3).2.2.2.1; omega))
    clear b4' c0 c1 c2 c3
    by_cases hyl : kb.length ≤ 4096
    · have hyi : (kb.length : Int) ≤ 4096 := by omega
      have hyd : decide ((4096 : Int) < (kb.length : Int)) = false := decide_eq_false (by omega)
      obtain ⟨r1, r2, r3, r4, r5, r6, r7⟩ := HFB.out _ b4
      obtain ⟨c0, c1, c2, c3⟩ := proof_cells r7
      have HYT := ytexts_any w.heap.size p _ _ _ w4 (by omega) r2
      obtain ⟨X, hX⟩ : ∃ X, p.texts = X := ⟨_, rfl⟩
      have hXl : X.length ≤ 2001 := by
        rw [← hX]
        unfold Prf.texts
        split
        · rw [upZ_length, List.length_reverse]; omega
        · simp
      rw [hX] at HYT
      clear r1 r2 r3 r5 r6 r7
      go_wp2_with fail
      refine HYT.mono ?_
      clear HYT c0 c1 c2 c3
      rintro e w5 ⟨wv, rfl, hR5, b5⟩
      obtain ⟨ws, hrow5, hown5⟩ := id hR5
      obtain ⟨wa, wc, rfl⟩ := row_form hrow5
      have b5w : Below (w.heap.size + 2) w2 w5 := b4.trans (b5.mono r4)
      have HF5 : Hid (TF w p X (.slice ka p.k.length kc) (.slice va p.v.length vc) (.slice sa p.st.length sc) (.slice ya kb.length yc) (.slice wa X.length wc) kb rt w5) := hid (by
        obtain ⟨q1, q2, q3, q4, q5, q6, q7⟩ := HFB.out _ b5w
        exact ⟨q1, q2, q3, q4, q5, hlt, q6, q7, rowsAt_lower hR5 r4⟩)
      have HIS5 := hid HIS
      have HTW := hid (And.intro hrow5 hown5)
      clear HFB HIS r4 b5 hR5 hrow5 hown5 b5w b4 b3 b2 hyd
      obtain ⟨c0, c1, c2, c3⟩ := proof_cells HF5.out.box
      cases own with
      | false =>
        obtain ⟨⟨te, tb, tv⟩, hTT⟩ : ∃ T, p.tells rt kb = T := ⟨_, rfl⟩
        go_wp2_with fail
        have HLE := lent5_any w.heap.size p _ _ _ w5 (by have := HF5.out.siz; omega) HF5.out.pat hkl hvl hsl hnc
        refine HLE.mono ?_
        clear HLE c0 c1 c2 c3
        rintro e w7 ⟨kq, vq, sq, rfl, lk, lv, ls, lap, b7⟩
        obtain ⟨qa, qc, rfl⟩ := row_form34 ls
        obtain ⟨g1, e1, _⟩ := id lk
        obtain ⟨g2, e2, _⟩ := id lv
        subst e1 e2
        have HLT : Hid ((∀ i, (Value.slice (some ⟨g1, 0, none⟩) p.k.length (p.k.length + 1)).ownBlock = some i ∨ (Value.slice (some ⟨g2, 0, none⟩) p.v.length (p.v.length + 1)).ownBlock = some i ∨ (Value.slice qa p.st.length qc).ownBlock = some i → w5.heap.size ≤ i ∧ i < w7.heap.size) ∧ w5.heap.size ≤ w7.heap.size) := hid ⟨fun i hi => by
          rcases hi with hi | hi | hi
          · exact lk.block i hi
          · exact lv.block i hi
          · exact ls.lt i hi, b7.size⟩
        have HF7 := hid (HF5.out.new b7)
        have HL7 := hid (And.intro lk (And.intro lv ls))
        have HAP := hid lap
        have HFP := hid (fresh_proof w7 #[.bool p.no, .slice (some ⟨g1, 0, none⟩) p.k.length (p.k.length + 1), .slice (some ⟨g2, 0, none⟩) p.v.length (p.v.length + 1), .slice qa p.st.length qc])
        have HB7 := hid b7
        clear lk lv ls lap b7
        go_wp2_with (first
          | (refine wpList_store_row rfl 29 (.tmp 12) (.tmp 50) rfl w7.heap.size #[.bool p.no, .slice (some ⟨g1, 0, none⟩) p.k.length (p.k.length + 1), .slice (some ⟨g2, 0, none⟩) p.v.length (p.v.length + 1), .slice qa p.st.length qc] rfl rfl 29 #[.bool false, .slice none 0 0, .slice none 0 0, .slice none 0 0] (heap_alloc_new w7 _) Tryd.infoProof rfl (one_fourZ _ _ _ _ _ _ _ _ _ _) ?_
             obtain ⟨w8, hw8⟩ : ∃ w8, (w7.alloc (.cells #[.bool false, .slice none 0 0, .slice none 0 0, .slice none 0 0] 29)).setRow w7.heap.size #[.bool p.no, .slice (some ⟨g1, 0, none⟩) p.k.length (p.k.length + 1), .slice (some ⟨g2, 0, none⟩) p.v.length (p.v.length + 1), .slice qa p.st.length qc] = w8 := ⟨_, rfl⟩
             rw [hw8] at HFP ⊢
             have HQ8 : Hid (QF w5.heap.size w7.heap.size p (.slice (some ⟨g1, 0, none⟩) p.k.length (p.k.length + 1)) (.slice (some ⟨g2, 0, none⟩) p.v.length (p.v.length + 1)) (.slice qa p.st.length qc) w8) := hid ⟨HL7.out.1.newer HFP.out.2, HL7.out.2.1.newer HFP.out.2, (Spares.of_new (S := fun _ => False) HFP.out.2).row HL7.out.2.2 (fun _ _ => id), HFP.out.1⟩
             obtain ⟨c0, c1, c2, c3⟩ := proof_cells HQ8.out.box
             clear hw8))
        have HF8 := hid (HF7.out.new HFP.out.2)
        have HB8 := hid (HB7.out.trans (HFP.out.2.mono HB7.out.size))
        have HS8 := hid HFP.out.2.size
        clear HF7 HL7 HFP HB7 c0 c1 c2 c3
        have HTX := ptexts_any w8.heap.size p _ _ _ w8 (Nat.le_refl _) (HQ8.out.at hok hkl hvl) HF8.out.tab
        rw [hX] at HTX
        refine HTX.mono ?_
        clear HTX
        rintro e w9 ⟨rl, rfl, ⟨vs, hrow9, hown9⟩, b9⟩
        obtain ⟨la, lc, rfl⟩ := row_form hrow9
        have HR9 : Hid (RAt w9 w8.heap.size (.slice la X.length lc) vs X) := hid ⟨hrow9, hown9⟩
        have HLW := hid (fun u hu g hg => (hown9.lt u hu g hg).2)
        have HF9 := hid (HF8.out.new b9)
        have HQ9 := hid (HQ8.out.new b9)
        have HB9 := hid (HB8.out.trans (b9.mono HB8.out.size))
        have HS9 := hid b9.size
        have HT9 := HF9.out.root
        obtain ⟨c0, c1, c2, c3⟩ := proof_cells HQ9.out.box
        clear HF8 HQ8 b9 hrow9 hown9
        have HCH := check_any w9.heap.size p _ _ _ (.slice ya kb.length yc) rt kb w9 (Nat.le_refl _) (HQ9.out.at hok hkl hvl) (HF9.out.key.mono (by have := HF9.out.siz; omega)) hr HF9.out.tab
        rw [hTT] at HCH
        go_wp2_with (first
          | (refine wpList_load_row rfl 23 (.tmp 4) rfl w.heap.size rfl 23 (sumV rt) (0, 0) _ HT9 Tryd.underlying23 rfl HIS5.out.info ?_))
        refine HCH.mono ?_
        clear HCH HT9 c0 c1 c2 c3
        rintro e w10 ⟨v1, rfl, hc10, b10⟩
        obtain ⟨xa, xc, rfl⟩ := hc10.form
        have HC10 := hid hc10
        have HF10 := hid (HF9.out.new b10)
        have HQ10 := hid (HQ9.out.new b10)
        have HB10 := hid b10
        have HS10 := hid b10.size
        obtain ⟨c0, c1, c2, c3⟩ := proof_cells HQ10.out.box
        obtain ⟨d0, d1, d2, d3⟩ := proof_cells HF10.out.box
        clear HF9 HQ9 hc10 b10
        have HSA := sameZ_any w10.heap.size w.heap.size p _ _ _ _ _ _ w10 (HQ10.out.at hok hkl hvl) HF10.out.pat (Nat.le_refl _) (by have := HF10.out.siz; omega)
        go_wp2_with fail
        refine HSA.mono ?_
        clear HSA c0 c1 c2 c3 d0 d1 d2 d3
        rintro e w11 ⟨rfl, b11⟩
        have HF11 := hid (HF10.out.new b11)
        have HQ11 := hid (HQ10.out.new b11)
        have HB11 := hid b11
        have HS11 := hid b11.size
        obtain ⟨c0, c1, c2, c3⟩ := proof_cells HQ11.out.box
        clear HF10 HQ10 b11
        have HSP := spoil5_any w5.heap.size p _ _ _ w11 _ (by have h1 := HS8.out; have h2 := HS9.out; have h3 := HS10.out; have h4 := HS11.out; have h5 := HLT.out.2; omega) (lends_fullZ HQ11.out.k) (lends_fullZ HQ11.out.v) HAP.out HQ11.out.s (fun g hg => ⟨types_apart HQ11.out.s HQ11.out.k g hg, types_apart HQ11.out.s HQ11.out.v g hg⟩) hsl
        go_wp2_with fail
        refine HSP.mono ?_
        clear HSP c0 c1 c2 c3
        rintro e w12 ⟨rfl, s12⟩
        have HF12 := hid (HF5.out.new ((HB9.out.trans ((HB10.out.mono (by have h1 := HS8.out; have h2 := HS9.out; have h5 := HLT.out.2; omega)).trans (HB11.out.mono (by have h1 := HS8.out; have h2 := HS9.out; have h3 := HS10.out; have h5 := HLT.out.2; omega)))).trans (s12.below (fun i hi => (HLT.out.1 i hi).1) (by have h1 := HS8.out; have h2 := HS9.out; have h3 := HS10.out; have h4 := HS11.out; have h5 := HLT.out.2; omega))))
        have HR12 := hid (rAt_spared (rAt_new (rAt_new HR9.out HB10.out) HB11.out) s12 (fun i h1 h2 h3 => by have h4 := (HLT.out.1 i h3).2; have h5 := HS8.out; omega))
        have HC12 := hid ((HC10.out.new HB11.out).spares s12 (fun i hi => by have h4 := (HLT.out.1 i hi).2; have h5 := HS8.out; have h6 := HS9.out; omega) (Nat.le_refl _))
        have HS12 := hid s12.size
        clear s12 HF11 HQ11 HR9 HC10
        have HT12 := HF12.out.root
        obtain ⟨c0, c1, c2, c3⟩ := proof_cells HF12.out.box
        have HYC := ycheck_any w.heap.size p _ _ _ (.slice ya kb.length yc) rt kb w12 (by have := HF12.out.siz; omega) HF12.out.pat HF12.out.key hr (by omega)
        rw [hTT] at HYC
        go_wp2_with (first
          | (refine wpList_load_row rfl 23 (.tmp 4) rfl w.heap.size rfl 23 (sumV rt) (0, 0) _ HT12 Tryd.underlying23 rfl HIS5.out.info ?_))
        refine HYC.mono ?_
        clear HYC HT12 c0 c1 c2 c3
        rintro e w13 ⟨v2, rfl, hc13, b13⟩
        obtain ⟨za, zc', rfl⟩ := hc13.form
        have HC13 := hid hc13
        have HF13 := hid (HF12.out.new b13)
        have HR13 := hid (rAt_new HR12.out b13)
        have HD13 := hid (HC12.out.new b13)
        have HS13 := hid b13.size
        clear HF12 HR12 HC12 hc13 b13
        have HSR := sameRowsZ_any w13.heap.size w13.heap.size _ _ X w13 (lists_of_rowsAtZ ⟨_, HR13.out.1, HR13.out.2⟩) (lists_of_rowsAtZ HF13.out.want)
        go_wp2_with fail
        refine HSR.mono ?_
        clear HSR
        rintro e w14 ⟨rfl, b14⟩
        have HF14 := hid (HF13.out.new b14)
        have HR14 := hid (rAt_new HR13.out b14)
        have HD14 := hid (HD13.out.new b14)
        have k1 := strsZ HD14.out.says
        have k2 := strsZ (HC13.out.new b14).says
        have HS14 := hid b14.size
        clear HF13 HR13 HD13 HC13 b14
        have HCEL := hid (one_cell_rows w14 (.slice xa tv.length xc))
        go_wp2_with (first
          | (at_builtin; refine wpList_append_own _ rfl (.tmp 84) (.tmp 86) 32 rfl w8.heap.size 24 i0 (.slice none 0 0) 1 24 Tryd.underlying32 hi hz0 hz1 hz2 rfl (by decide) (.slice la X.length lc) X.length vs rfl (HR14.out.1.alloc _) ⟨w14.heap.size, 0, none⟩ 1 1 [.slice xa tv.length xc] rfl rfl ?d1 ?d2 ?d3 ?d4 ?d5 ?_))
        case d1 => exact HCEL.out
        case d2 => intro u hu; simp at hu; subst hu; rfl
        case d3 => unfold maxLen; omega
        case d4 => omega
        case d5 => have h1 := HS8.out; have h2 := HS9.out; have h3 := HS10.out; have h4 := HS11.out; have h5 := HS12.out; have h6 := HS13.out; have h7 := HS14.out; simp; omega
        intro vA wA hownA hgA _
        have hsum : w.heap.size + 2 ≤ w8.heap.size ∧ w8.heap.size ≤ w9.heap.size ∧ w9.heap.size ≤ w14.heap.size := by
          have h1 := HS8.out; have h2 := HS9.out; have h3 := HS10.out; have h4 := HS11.out; have h5 := HS12.out; have h6 := HS13.out; have h7 := HS14.out; have h8 := HF5.out.siz; have h9 := HLT.out.2
          omega
        have bA : Below w8.heap.size w14 wA := ((Below.refl _ _).alloc (by omega) _).grown hgA (by simp; omega) (fun q hq => (HR14.out.1.lt q hq).1)
        have sA : Spares (fun i => (Value.slice la X.length lc).ownBlock = some i) w14 wA := (Spares.of_new (Below.alloc (Below.refl _ _) (Nat.le_refl _) _)).andThen (Spares.of_grown hgA (fun k e => e)) (fun i hi => .inl hi)
        have hroA : RowsOwn wA w8.heap.size vs X := ⟨HR14.out.2.len, fun j u r hu hr => ⟨sA.row (HR14.out.2.own j u r hu hr).1 (fun i hi e => by
          obtain ⟨x1, y1⟩ := row_type (HR14.out.2.own j u r hu hr).1 hi
          obtain ⟨x2, y2⟩ := row_type HR14.out.1 e
          rw [y1] at y2; cases y2), (HR14.out.2.own j u r hu hr).2⟩, HR14.out.2.apart⟩
        have hfA : ∃ ys, Full w9.heap.size wA (.slice xa tv.length xc) ys := full_of_owns (sA.row HD14.out (fun i hi e => by
          obtain ⟨x1, y1⟩ := row_type HD14.out hi
          obtain ⟨x2, y2⟩ := row_type HR14.out.1 e
          rw [y1] at y2; cases y2))
        obtain ⟨hmk, hap⟩ := owned_snocZ hroA hsum.2.1 hfA HLW.out
        have hla : (vs ++ [Value.slice xa tv.length xc]).length = X.length + 1 := by rw [List.length_append, hroA.len]; rfl
        obtain ⟨gr, cc, rfl, _⟩ := hownA.form (by omega)
        have HOW := owned_any w8.heap.size gr cc (vs ++ [Value.slice xa tv.length xc]) wA (by have := bA.size; omega) (by rw [hla]; exact hownA) hmk hap (by omega)
        rw [hla] at HOW
        have HBE := hid (HF14.out.bel.trans (bA.mono (by omega)))
        have HSU := hid hsum
        clear hmk hap hla hfA hroA sA bA hgA hownA HR14 HD14 HCEL hsum k1 k2
        go_wp2_with fail
        refine HOW.mono ?_
        clear HOW
        rintro e w15 ⟨rfl, b15⟩
        have HE := hid (HBE.out.trans (b15.mono (by have := HSU.out; omega)))
        go_wp2
        go_ret
        exact ⟨by simp, HE.out⟩
      | true =>
        by_cases hxe : X.length = 0
        · have hxi : (X.length : Int) ≤ 0 := by omega
          have hxd : decide (0 < X.length) = false := decide_eq_false (by omega)
          have hxn : ¬ 0 < X.length := by omega
          clear hxe
          obtain ⟨⟨te, tb, tv⟩, hTT⟩ : ∃ T, p.tells rt kb = T := ⟨_, rfl⟩
          go_wp2_with fail
          clear hxd hxi
          have HLE := lent5_any w.heap.size p _ _ _ w5 (by have := HF5.out.siz; omega) HF5.out.pat hkl hvl hsl hnc
          refine HLE.mono ?_
          clear HLE c0 c1 c2 c3
          rintro e w7 ⟨kq, vq, sq, rfl, lk, lv, ls, lap, b7⟩
          obtain ⟨qa, qc, rfl⟩ := row_form34 ls
          obtain ⟨g1, e1, _⟩ := id lk
          obtain ⟨g2, e2, _⟩ := id lv
          subst e1 e2
          have HLT : Hid ((∀ i, (Value.slice (some ⟨g1, 0, none⟩) p.k.length (p.k.length + 1)).ownBlock = some i ∨ (Value.slice (some ⟨g2, 0, none⟩) p.v.length (p.v.length + 1)).ownBlock = some i ∨ (Value.slice qa p.st.length qc).ownBlock = some i → w5.heap.size ≤ i ∧ i < w7.heap.size) ∧ w5.heap.size ≤ w7.heap.size) := hid ⟨fun i hi => by
            rcases hi with hi | hi | hi
            · exact lk.block i hi
            · exact lv.block i hi
            · exact ls.lt i hi, b7.size⟩
          have HF7 := hid (HF5.out.new b7)
          have HL7 := hid (And.intro lk (And.intro lv ls))
          have HAP := hid lap
          have HFP := hid (fresh_proof w7 #[.bool p.no, .slice (some ⟨g1, 0, none⟩) p.k.length (p.k.length + 1), .slice (some ⟨g2, 0, none⟩) p.v.length (p.v.length + 1), .slice qa p.st.length qc])
          have HB7 := hid b7
          clear lk lv ls lap b7
          go_wp2_with (first
            | (refine wpList_store_row rfl 29 (.tmp 12) (.tmp 50) rfl w7.heap.size #[.bool p.no, .slice (some ⟨g1, 0, none⟩) p.k.length (p.k.length + 1), .slice (some ⟨g2, 0, none⟩) p.v.length (p.v.length + 1), .slice qa p.st.length qc] rfl rfl 29 #[.bool false, .slice none 0 0, .slice none 0 0, .slice none 0 0] (heap_alloc_new w7 _) Tryd.infoProof rfl (one_fourZ _ _ _ _ _ _ _ _ _ _) ?_
               obtain ⟨w8, hw8⟩ : ∃ w8, (w7.alloc (.cells #[.bool false, .slice none 0 0, .slice none 0 0, .slice none 0 0] 29)).setRow w7.heap.size #[.bool p.no, .slice (some ⟨g1, 0, none⟩) p.k.length (p.k.length + 1), .slice (some ⟨g2, 0, none⟩) p.v.length (p.v.length + 1), .slice qa p.st.length qc] = w8 := ⟨_, rfl⟩
               rw [hw8] at HFP ⊢
               have HQ8 : Hid (QF w5.heap.size w7.heap.size p (.slice (some ⟨g1, 0, none⟩) p.k.length (p.k.length + 1)) (.slice (some ⟨g2, 0, none⟩) p.v.length (p.v.length + 1)) (.slice qa p.st.length qc) w8) := hid ⟨HL7.out.1.newer HFP.out.2, HL7.out.2.1.newer HFP.out.2, (Spares.of_new (S := fun _ => False) HFP.out.2).row HL7.out.2.2 (fun _ _ => id), HFP.out.1⟩
               obtain ⟨c0, c1, c2, c3⟩ := proof_cells HQ8.out.box
               clear hw8))
          have HF8 := hid (HF7.out.new HFP.out.2)
          have HB8 := hid (HB7.out.trans (HFP.out.2.mono HB7.out.size))
          have HS8 := hid HFP.out.2.size
          clear HF7 HL7 HFP HB7 c0 c1 c2 c3
          have HTX := ptexts_any w8.heap.size p _ _ _ w8 (Nat.le_refl _) (HQ8.out.at hok hkl hvl) HF8.out.tab
          rw [hX] at HTX
          refine HTX.mono ?_
          clear HTX
          rintro e w9 ⟨rl, rfl, ⟨vs, hrow9, hown9⟩, b9⟩
          obtain ⟨la, lc, rfl⟩ := row_form hrow9
          have HR9 : Hid (RAt w9 w8.heap.size (.slice la X.length lc) vs X) := hid ⟨hrow9, hown9⟩
          have HLW := hid (fun u hu g hg => (hown9.lt u hu g hg).2)
          have HF9 := hid (HF8.out.new b9)
          have HQ9 := hid (HQ8.out.new b9)
          have HB9 := hid (HB8.out.trans (b9.mono HB8.out.size))
          have HS9 := hid b9.size
          have HT9 := HF9.out.root
          obtain ⟨c0, c1, c2, c3⟩ := proof_cells HQ9.out.box
          clear HF8 HQ8 b9 hrow9 hown9
          have HCH := check_any w9.heap.size p _ _ _ (.slice ya kb.length yc) rt kb w9 (Nat.le_refl _) (HQ9.out.at hok hkl hvl) (HF9.out.key.mono (by have := HF9.out.siz; omega)) hr HF9.out.tab
          rw [hTT] at HCH
          go_wp2_with (first
            | (refine wpList_load_row rfl 23 (.tmp 4) rfl w.heap.size rfl 23 (sumV rt) (0, 0) _ HT9 Tryd.underlying23 rfl HIS5.out.info ?_))
          refine HCH.mono ?_
          clear HCH HT9 c0 c1 c2 c3
          rintro e w10 ⟨v1, rfl, hc10, b10⟩
          obtain ⟨xa, xc, rfl⟩ := hc10.form
          have HC10 := hid hc10
          have HF10 := hid (HF9.out.new b10)
          have HQ10 := hid (HQ9.out.new b10)
          have HB10 := hid b10
          have HS10 := hid b10.size
          obtain ⟨c0, c1, c2, c3⟩ := proof_cells HQ10.out.box
          obtain ⟨d0, d1, d2, d3⟩ := proof_cells HF10.out.box
          clear HF9 HQ9 hc10 b10
          have HSA := sameZ_any w10.heap.size w.heap.size p _ _ _ _ _ _ w10 (HQ10.out.at hok hkl hvl) HF10.out.pat (Nat.le_refl _) (by have := HF10.out.siz; omega)
          go_wp2_with fail
          refine HSA.mono ?_
          clear HSA c0 c1 c2 c3 d0 d1 d2 d3
          rintro e w11 ⟨rfl, b11⟩
          have HF11 := hid (HF10.out.new b11)
          have HQ11 := hid (HQ10.out.new b11)
          have HB11 := hid b11
          have HS11 := hid b11.size
          obtain ⟨c0, c1, c2, c3⟩ := proof_cells HQ11.out.box
          clear HF10 HQ10 b11
          have HSP := spoil5_any w5.heap.size p _ _ _ w11 _ (by have h1 := HS8.out; have h2 := HS9.out; have h3 := HS10.out; have h4 := HS11.out; have h5 := HLT.out.2; omega) (lends_fullZ HQ11.out.k) (lends_fullZ HQ11.out.v) HAP.out HQ11.out.s (fun g hg => ⟨types_apart HQ11.out.s HQ11.out.k g hg, types_apart HQ11.out.s HQ11.out.v g hg⟩) hsl
          go_wp2_with fail
          refine HSP.mono ?_
          clear HSP c0 c1 c2 c3
          rintro e w12 ⟨rfl, s12⟩
          have HF12 := hid (HF5.out.new ((HB9.out.trans ((HB10.out.mono (by have h1 := HS8.out; have h2 := HS9.out; have h5 := HLT.out.2; omega)).trans (HB11.out.mono (by have h1 := HS8.out; have h2 := HS9.out; have h3 := HS10.out; have h5 := HLT.out.2; omega)))).trans (s12.below (fun i hi => (HLT.out.1 i hi).1) (by have h1 := HS8.out; have h2 := HS9.out; have h3 := HS10.out; have h4 := HS11.out; have h5 := HLT.out.2; omega))))
          have HR12 := hid (rAt_spared (rAt_new (rAt_new HR9.out HB10.out) HB11.out) s12 (fun i h1 h2 h3 => by have h4 := (HLT.out.1 i h3).2; have h5 := HS8.out; omega))
          have HC12 := hid ((HC10.out.new HB11.out).spares s12 (fun i hi => by have h4 := (HLT.out.1 i hi).2; have h5 := HS8.out; have h6 := HS9.out; omega) (Nat.le_refl _))
          have HS12 := hid s12.size
          clear s12 HF11 HQ11 HR9 HC10
          have HT12 := HF12.out.root
          obtain ⟨c0, c1, c2, c3⟩ := proof_cells HF12.out.box
          have HYC := ycheck_any w.heap.size p _ _ _ (.slice ya kb.length yc) rt kb w12 (by have := HF12.out.siz; omega) HF12.out.pat HF12.out.key hr (by omega)
          rw [hTT] at HYC
          go_wp2_with (first
            | (refine wpList_load_row rfl 23 (.tmp 4) rfl w.heap.size rfl 23 (sumV rt) (0, 0) _ HT12 Tryd.underlying23 rfl HIS5.out.info ?_))
          refine HYC.mono ?_
          clear HYC HT12 c0 c1 c2 c3
          rintro e w13 ⟨v2, rfl, hc13, b13⟩
          obtain ⟨za, zc', rfl⟩ := hc13.form
          have HC13 := hid hc13
          have HF13 := hid (HF12.out.new b13)
          have HR13 := hid (rAt_new HR12.out b13)
          have HD13 := hid (HC12.out.new b13)
          have HS13 := hid b13.size
          clear HF12 HR12 HC12 hc13 b13
          have HSR := sameRowsZ_any w13.heap.size w13.heap.size _ _ X w13 (lists_of_rowsAtZ ⟨_, HR13.out.1, HR13.out.2⟩) (lists_of_rowsAtZ HF13.out.want)
          go_wp2_with fail
          refine HSR.mono ?_
          clear HSR
          rintro e w14 ⟨rfl, b14⟩
          have HF14 := hid (HF13.out.new b14)
          have HR14 := hid (rAt_new HR13.out b14)
          have HD14 := hid (HD13.out.new b14)
          have k1 := strsZ HD14.out.says
          have k2 := strsZ (HC13.out.new b14).says
          have HS14 := hid b14.size
          clear HF13 HR13 HD13 HC13 b14
          have HCEL := hid (one_cell_rows w14 (.slice xa tv.length xc))
          go_wp2_with (first
            | (at_builtin; refine wpList_append_own _ rfl (.tmp 84) (.tmp 86) 32 rfl w8.heap.size 24 i0 (.slice none 0 0) 1 24 Tryd.underlying32 hi hz0 hz1 hz2 rfl (by decide) (.slice la X.length lc) X.length vs rfl (HR14.out.1.alloc _) ⟨w14.heap.size, 0, none⟩ 1 1 [.slice xa tv.length xc] rfl rfl ?d1 ?d2 ?d3 ?d4 ?d5 ?_))
          case d1 => exact HCEL.out
          case d2 => intro u hu; simp at hu; subst hu; rfl
          case d3 => unfold maxLen; omega
          case d4 => omega
          case d5 => have h1 := HS8.out; have h2 := HS9.out; have h3 := HS10.out; have h4 := HS11.out; have h5 := HS12.out; have h6 := HS13.out; have h7 := HS14.out; simp; omega
          intro vA wA hownA hgA _
          have hsum : w.heap.size + 2 ≤ w8.heap.size ∧ w8.heap.size ≤ w9.heap.size ∧ w9.heap.size ≤ w14.heap.size := by
            have h1 := HS8.out; have h2 := HS9.out; have h3 := HS10.out; have h4 := HS11.out; have h5 := HS12.out; have h6 := HS13.out; have h7 := HS14.out; have h8 := HF5.out.siz; have h9 := HLT.out.2
            omega
          have bA : Below w8.heap.size w14 wA := ((Below.refl _ _).alloc (by omega) _).grown hgA (by simp; omega) (fun q hq => (HR14.out.1.lt q hq).1)
          have sA : Spares (fun i => (Value.slice la X.length lc).ownBlock = some i) w14 wA := (Spares.of_new (Below.alloc (Below.refl _ _) (Nat.le_refl _) _)).andThen (Spares.of_grown hgA (fun k e => e)) (fun i hi => .inl hi)
          have hroA : RowsOwn wA w8.heap.size vs X := ⟨HR14.out.2.len, fun j u r hu hr => ⟨sA.row (HR14.out.2.own j u r hu hr).1 (fun i hi e => by
            obtain ⟨x1, y1⟩ := row_type (HR14.out.2.own j u r hu hr).1 hi
            obtain ⟨x2, y2⟩ := row_type HR14.out.1 e
            rw [y1] at y2; cases y2), (HR14.out.2.own j u r hu hr).2⟩, HR14.out.2.apart⟩
          have hfA : ∃ ys, Full w9.heap.size wA (.slice xa tv.length xc) ys := full_of_owns (sA.row HD14.out (fun i hi e => by
            obtain ⟨x1, y1⟩ := row_type HD14.out hi
            obtain ⟨x2, y2⟩ := row_type HR14.out.1 e
            rw [y1] at y2; cases y2))
          obtain ⟨hmk, hap⟩ := owned_snocZ hroA hsum.2.1 hfA HLW.out
          have hla : (vs ++ [Value.slice xa tv.length xc]).length = X.length + 1 := by rw [List.length_append, hroA.len]; rfl
          obtain ⟨gr, cc, rfl, _⟩ := hownA.form (by omega)
          have HOW := owned_any w8.heap.size gr cc (vs ++ [Value.slice xa tv.length xc]) wA (by have := bA.size; omega) (by rw [hla]; exact hownA) hmk hap (by omega)
          rw [hla] at HOW
          have HBE := hid (HF14.out.bel.trans (bA.mono (by omega)))
          have HSU := hid hsum
          clear hmk hap hla hfA hroA sA bA hgA hownA HR14 HD14 HCEL hsum k1 k2
          go_wp2_with fail
          refine HOW.mono ?_
          clear HOW
          rintro e w15 ⟨rfl, b15⟩
          have HE := hid (HBE.out.trans (b15.mono (by have := HSU.out; omega)))
          go_wp2
          go_ret
          exact ⟨by simp, HE.out⟩
        · have hm : p.may = true := by
            cases hm : p.may with
            | true => rfl
            | false => rw [← hX] at hxe; simp [Prf.texts, hm] at hxe
          obtain ⟨m, hXm⟩ : ∃ m, X.length = m + 1 := ⟨X.length - 1, by omega⟩
          obtain ⟨tx, hx1, hx2⟩ : ∃ tx, X[m]? = some tx ∧ tx.length ≤ 1099511627776 := by
            refine ⟨topU p.endZ p.st.reverse, ?_, topU_le p p.st.reverse⟩
            have h1 : X = upZ p.endZ p.st.reverse := by rw [← hX]; simp [Prf.texts, hm]
            have h2 := upZ_last p.st.reverse p.endZ
            rw [List.getLast?_eq_getElem?, ← h1, hXm, Nat.add_sub_cancel] at h2
            exact h2
          obtain ⟨u, hu⟩ : ∃ u, ws[m]? = some u := ⟨_, List.getElem?_eq_getElem (by rw [HTW.out.2.len]; omega)⟩
          obtain ⟨hou, gu, cu, rfl⟩ := HTW.out.2.own _ _ _ hu hx1
          obtain ⟨gw, cw, ew, _, _⟩ := HTW.out.1.form (by omega)
          simp only [Value.slice.injEq] at ew
          obtain ⟨rfl, _, rfl⟩ := ew
          have hcell : w5.cell? ⟨gw, m, none⟩ = some (.slice (some ⟨gu, 0, none⟩) tx.length cu) := (HTW.out.1.cellAt m (by omega)).trans hu
          have HRW := refRaw_any w5.heap.size _ tx w5 (Nat.le_refl _) (shows_of_owns hou).2 hx2
          have hr6 : (sha tx).length = 32 := sha_length _
          obtain ⟨rt6, hrt6⟩ : ∃ r, sha tx = r := ⟨_, rfl⟩
          rw [hrt6] at HRW hr6
          have HIS6 := hid (isSum rt6 hr6)
          replace HRW : Calls Tryd.prog 11 #[.slice (some ⟨gu, 0, none⟩) tx.length cu] w5 fun e w' => e = .returned (.agg (sumV rt6)) ∧ Below w5.heap.size w5 w' := HRW
          obtain ⟨⟨te, tb, tv⟩, hTT⟩ : ∃ T, p.tells rt6 kb = T := ⟨_, rfl⟩
          have hn0 : (0 : Int) < (X.length : Int) := by omega
          have hn1 : decide (0 < X.length) = true := decide_eq_true (by omega)
          have hn5 : 0 < X.length := by omega
          have hn2 : (X.length : Int) - 1 = (m : Int) := by omega
          have hn3 : (0 : Int) ≤ (m : Int) := by omega
          have hn4 : (m : Int) < (X.length : Int) := by omega
          have hml : m ≤ 2000 := by omega
          have hw1 := (wrap_small m (Nat.le_trans hml (by decide))).1
          have hw2 := (wrap_small m (Nat.le_trans hml (by decide))).2
          clear hou hu hx1 hx2 hrt6 hXm hxe
          go_wp2_with fail
          refine HRW.mono ?_
          clear HRW hcell c0 c1 c2 c3
          rintro e w5' ⟨rfl, b5'⟩
          have HG5 := hid (HF5.out.new b5')
          have HT5 := HG5.out.root
          clear b5'
          go_wp2_with (first
            | (refine wpList_store_row rfl 23 (.tmp 4) (.tmp 48) rfl w.heap.size (sumV rt6) rfl rfl 23 (sumV rt) HT5 HIS6.out.info (HIS5.out.size.symm.trans HIS6.out.size) HIS6.out.one ?_
               obtain ⟨w6, hw6⟩ : ∃ w6, w5'.setRow w.heap.size (sumV rt6) = w6 := ⟨_, rfl⟩
               have HF6 : Hid (TF w p X (.slice ka p.k.length kc) (.slice va p.v.length vc) (.slice sa p.st.length sc) (.slice ya kb.length yc) (.slice (some ⟨gw, 0, none⟩) X.length wc) kb rt6 w6) := hid (by rw [← hw6]; exact HG5.out.turn rt6)
               rw [hw6]
               obtain ⟨c0, c1, c2, c3⟩ := proof_cells HF6.out.box
               clear hw6))
          clear hn0 hn1 hn2 hn3 hn4 hn5 hw1 hw2 HT5 HG5
          have HLE := lent5_any w.heap.size p _ _ _ w6 (by have := HF6.out.siz; omega) HF6.out.pat hkl hvl hsl hnc
          refine HLE.mono ?_
          clear HLE c0 c1 c2 c3
          rintro e w7 ⟨kq, vq, sq, rfl, lk, lv, ls, lap, b7⟩
          obtain ⟨qa, qc, rfl⟩ := row_form34 ls
          obtain ⟨g1, e1, _⟩ := id lk
          obtain ⟨g2, e2, _⟩ := id lv
          subst e1 e2
          have HLT : Hid ((∀ i, (Value.slice (some ⟨g1, 0, none⟩) p.k.length (p.k.length + 1)).ownBlock = some i ∨ (Value.slice (some ⟨g2, 0, none⟩) p.v.length (p.v.length + 1)).ownBlock = some i ∨ (Value.slice qa p.st.length qc).ownBlock = some i → w6.heap.size ≤ i ∧ i < w7.heap.size) ∧ w6.heap.size ≤ w7.heap.size) := hid ⟨fun i hi => by
            rcases hi with hi | hi | hi
            · exact lk.block i hi
            · exact lv.block i hi
            · exact ls.lt i hi, b7.size⟩
          have HF7 := hid (HF6.out.new b7)
          have HL7 := hid (And.intro lk (And.intro lv ls))
          have HAP := hid lap
          have HFP := hid (fresh_proof w7 #[.bool p.no, .slice (some ⟨g1, 0, none⟩) p.k.length (p.k.length + 1), .slice (some ⟨g2, 0, none⟩) p.v.length (p.v.length + 1), .slice qa p.st.length qc])
          have HB7 := hid b7
          clear lk lv ls lap b7
          go_wp2_with (first
            | (refine wpList_store_row rfl 29 (.tmp 12) (.tmp 50) rfl w7.heap.size #[.bool p.no, .slice (some ⟨g1, 0, none⟩) p.k.length (p.k.length + 1), .slice (some ⟨g2, 0, none⟩) p.v.length (p.v.length + 1), .slice qa p.st.length qc] rfl rfl 29 #[.bool false, .slice none 0 0, .slice none 0 0, .slice none 0 0] (heap_alloc_new w7 _) Tryd.infoProof rfl (one_fourZ _ _ _ _ _ _ _ _ _ _) ?_
               obtain ⟨w8, hw8⟩ : ∃ w8, (w7.alloc (.cells #[.bool false, .slice none 0 0, .slice none 0 0, .slice none 0 0] 29)).setRow w7.heap.size #[.bool p.no, .slice (some ⟨g1, 0, none⟩) p.k.length (p.k.length + 1), .slice (some ⟨g2, 0, none⟩) p.v.length (p.v.length + 1), .slice qa p.st.length qc] = w8 := ⟨_, rfl⟩
               rw [hw8] at HFP ⊢
               have HQ8 : Hid (QF w6.heap.size w7.heap.size p (.slice (some ⟨g1, 0, none⟩) p.k.length (p.k.length + 1)) (.slice (some ⟨g2, 0, none⟩) p.v.length (p.v.length + 1)) (.slice qa p.st.length qc) w8) := hid ⟨HL7.out.1.newer HFP.out.2, HL7.out.2.1.newer HFP.out.2, (Spares.of_new (S := fun _ => False) HFP.out.2).row HL7.out.2.2 (fun _ _ => id), HFP.out.1⟩
               obtain ⟨c0, c1, c2, c3⟩ := proof_cells HQ8.out.box
               clear hw8))
          have HF8 := hid (HF7.out.new HFP.out.2)
          have HB8 := hid (HB7.out.trans (HFP.out.2.mono HB7.out.size))
          have HS8 := hid HFP.out.2.size
          clear HF7 HL7 HFP HB7 c0 c1 c2 c3
          have HTX := ptexts_any w8.heap.size p _ _ _ w8 (Nat.le_refl _) (HQ8.out.at hok hkl hvl) HF8.out.tab
          rw [hX] at HTX
          refine HTX.mono ?_
          clear HTX
          rintro e w9 ⟨rl, rfl, ⟨vs, hrow9, hown9⟩, b9⟩
          obtain ⟨la, lc, rfl⟩ := row_form hrow9
          have HR9 : Hid (RAt w9 w8.heap.size (.slice la X.length lc) vs X) := hid ⟨hrow9, hown9⟩
          have HLW := hid (fun u hu g hg => (hown9.lt u hu g hg).2)
          have HF9 := hid (HF8.out.new b9)
          have HQ9 := hid (HQ8.out.new b9)
          have HB9 := hid (HB8.out.trans (b9.mono HB8.out.size))
          have HS9 := hid b9.size
          have HT9 := HF9.out.root
          obtain ⟨c0, c1, c2, c3⟩ := proof_cells HQ9.out.box
          clear HF8 HQ8 b9 hrow9 hown9
          have HCH := check_any w9.heap.size p _ _ _ (.slice ya kb.length yc) rt6 kb w9 (Nat.le_refl _) (HQ9.out.at hok hkl hvl) (HF9.out.key.mono (by have := HF9.out.siz; omega)) hr6 HF9.out.tab
          rw [hTT] at HCH
          go_wp2_with (first
            | (refine wpList_load_row rfl 23 (.tmp 4) rfl w.heap.size rfl 23 (sumV rt6) (0, 0) _ HT9 Tryd.underlying23 rfl HIS6.out.info ?_))
          refine HCH.mono ?_
          clear HCH HT9 c0 c1 c2 c3
          rintro e w10 ⟨v1, rfl, hc10, b10⟩
          obtain ⟨xa, xc, rfl⟩ := hc10.form
          have HC10 := hid hc10
          have HF10 := hid (HF9.out.new b10)
          have HQ10 := hid (HQ9.out.new b10)
          have HB10 := hid b10
          have HS10 := hid b10.size
          obtain ⟨c0, c1, c2, c3⟩ := proof_cells HQ10.out.box
          obtain ⟨d0, d1, d2, d3⟩ := proof_cells HF10.out.box
          clear HF9 HQ9 hc10 b10
          have HSA := sameZ_any w10.heap.size w.heap.size p _ _ _ _ _ _ w10 (HQ10.out.at hok hkl hvl) HF10.out.pat (Nat.le_refl _) (by have := HF10.out.siz; omega)
          go_wp2_with fail
          refine HSA.mono ?_
          clear HSA c0 c1 c2 c3 d0 d1 d2 d3
          rintro e w11 ⟨rfl, b11⟩
          have HF11 := hid (HF10.out.new b11)
          have HQ11 := hid (HQ10.out.new b11)
          have HB11 := hid b11
          have HS11 := hid b11.size
          obtain ⟨c0, c1, c2, c3⟩ := proof_cells HQ11.out.box
          clear HF10 HQ10 b11
          have HSP := spoil5_any w6.heap.size p _ _ _ w11 _ (by have h1 := HS8.out; have h2 := HS9.out; have h3 := HS10.out; have h4 := HS11.out; have h5 := HLT.out.2; omega) (lends_fullZ HQ11.out.k) (lends_fullZ HQ11.out.v) HAP.out HQ11.out.s (fun g hg => ⟨types_apart HQ11.out.s HQ11.out.k g hg, types_apart HQ11.out.s HQ11.out.v g hg⟩) hsl
          go_wp2_with fail
          refine HSP.mono ?_
          clear HSP c0 c1 c2 c3
          rintro e w12 ⟨rfl, s12⟩
          have HF12 := hid (HF6.out.new ((HB9.out.trans ((HB10.out.mono (by have h1 := HS8.out; have h2 := HS9.out; have h5 := HLT.out.2; omega)).trans (HB11.out.mono (by have h1 := HS8.out; have h2 := HS9.out; have h3 := HS10.out; have h5 := HLT.out.2; omega)))).trans (s12.below (fun i hi => (HLT.out.1 i hi).1) (by have h1 := HS8.out; have h2 := HS9.out; have h3 := HS10.out; have h4 := HS11.out; have h5 := HLT.out.2; omega))))
          have HR12 := hid (rAt_spared (rAt_new (rAt_new HR9.out HB10.out) HB11.out) s12 (fun i h1 h2 h3 => by have h4 := (HLT.out.1 i h3).2; have h5 := HS8.out; omega))
          have HC12 := hid ((HC10.out.new HB11.out).spares s12 (fun i hi => by have h4 := (HLT.out.1 i hi).2; have h5 := HS8.out; have h6 := HS9.out; omega) (Nat.le_refl _))
          have HS12 := hid s12.size
          clear s12 HF11 HQ11 HR9 HC10
          have HT12 := HF12.out.root
          obtain ⟨c0, c1, c2, c3⟩ := proof_cells HF12.out.box
          have HYC := ycheck_any w.heap.size p _ _ _ (.slice ya kb.length yc) rt6 kb w12 (by have := HF12.out.siz; omega) HF12.out.pat HF12.out.key hr6 (by omega)
          rw [hTT] at HYC
          go_wp2_with (first
            | (refine wpList_load_row rfl 23 (.tmp 4) rfl w.heap.size rfl 23 (sumV rt6) (0, 0) _ HT12 Tryd.underlying23 rfl HIS6.out.info ?_))
          refine HYC.mono ?_
          clear HYC HT12 c0 c1 c2 c3
          rintro e w13 ⟨v2, rfl, hc13, b13⟩
          obtain ⟨za, zc', rfl⟩ := hc13.form
          have HC13 := hid hc13
          have HF13 := hid (HF12.out.new b13)
          have HR13 := hid (rAt_new HR12.out b13)
          have HD13 := hid (HC12.out.new b13)
          have HS13 := hid b13.size
          clear HF12 HR12 HC12 hc13 b13
          have HSR := sameRowsZ_any w13.heap.size w13.heap.size _ _ X w13 (lists_of_rowsAtZ ⟨_, HR13.out.1, HR13.out.2⟩) (lists_of_rowsAtZ HF13.out.want)
          go_wp2_with fail
          refine HSR.mono ?_
          clear HSR
          rintro e w14 ⟨rfl, b14⟩
          have HF14 := hid (HF13.out.new b14)
          have HR14 := hid (rAt_new HR13.out b14)
          have HD14 := hid (HD13.out.new b14)
          have k1 := strsZ HD14.out.says
          have k2 := strsZ (HC13.out.new b14).says
          have HS14 := hid b14.size
          clear HF13 HR13 HD13 HC13 b14
          have HCEL := hid (one_cell_rows w14 (.slice xa tv.length xc))
          go_wp2_with (first
            | (at_builtin; refine wpList_append_own _ rfl (.tmp 84) (.tmp 86) 32 rfl w8.heap.size 24 i0 (.slice none 0 0) 1 24 Tryd.underlying32 hi hz0 hz1 hz2 rfl (by decide) (.slice la X.length lc) X.length vs rfl (HR14.out.1.alloc _) ⟨w14.heap.size, 0, none⟩ 1 1 [.slice xa tv.length xc] rfl rfl ?d1 ?d2 ?d3 ?d4 ?d5 ?_))
          case d1 => exact HCEL.out
          case d2 => intro u hu; simp at hu; subst hu; rfl
          case d3 => unfold maxLen; omega
          case d4 => omega
          case d5 => have h1 := HS8.out; have h2 := HS9.out; have h3 := HS10.out; have h4 := HS11.out; have h5 := HS12.out; have h6 := HS13.out; have h7 := HS14.out; simp; omega
          intro vA wA hownA hgA _
          have hsum : w.heap.size + 2 ≤ w8.heap.size ∧ w8.heap.size ≤ w9.heap.size ∧ w9.heap.size ≤ w14.heap.size := by
            have h1 := HS8.out; have h2 := HS9.out; have h3 := HS10.out; have h4 := HS11.out; have h5 := HS12.out; have h6 := HS13.out; have h7 := HS14.out; have h8 := HF6.out.siz; have h9 := HLT.out.2
            omega
          have bA : Below w8.heap.size w14 wA := ((Below.refl _ _).alloc (by omega) _).grown hgA (by simp; omega) (fun q hq => (HR14.out.1.lt q hq).1)
          have sA : Spares (fun i => (Value.slice la X.length lc).ownBlock = some i) w14 wA := (Spares.of_new (Below.alloc (Below.refl _ _) (Nat.le_refl _) _)).andThen (Spares.of_grown hgA (fun k e => e)) (fun i hi => .inl hi)
          have hroA : RowsOwn wA w8.heap.size vs X := ⟨HR14.out.2.len, fun j u r hu hr => ⟨sA.row (HR14.out.2.own j u r hu hr).1 (fun i hi e => by
            obtain ⟨x1, y1⟩ := row_type (HR14.out.2.own j u r hu hr).1 hi
            obtain ⟨x2, y2⟩ := row_type HR14.out.1 e
            rw [y1] at y2; cases y2), (HR14.out.2.own j u r hu hr).2⟩, HR14.out.2.apart⟩
          have hfA : ∃ ys, Full w9.heap.size wA (.slice xa tv.length xc) ys := full_of_owns (sA.row HD14.out (fun i hi e => by
            obtain ⟨x1, y1⟩ := row_type HD14.out hi
            obtain ⟨x2, y2⟩ := row_type HR14.out.1 e
            rw [y1] at y2; cases y2))
          obtain ⟨hmk, hap⟩ := owned_snocZ hroA hsum.2.1 hfA HLW.out
          have hla : (vs ++ [Value.slice xa tv.length xc]).length = X.length + 1 := by rw [List.length_append, hroA.len]; rfl
          obtain ⟨gr, cc, rfl, _⟩ := hownA.form (by omega)
          have HOW := owned_any w8.heap.size gr cc (vs ++ [Value.slice xa tv.length xc]) wA (by have := bA.size; omega) (by rw [hla]; exact hownA) hmk hap (by omega)
          rw [hla] at HOW
          have HBE := hid (HF14.out.bel.trans (bA.mono (by omega)))
          have HSU := hid hsum
          clear hmk hap hla hfA hroA sA bA hgA hownA HR14 HD14 HCEL hsum k1 k2
          go_wp2_with fail
          refine HOW.mono ?_
          clear HOW
          rintro e w15 ⟨rfl, b15⟩
          have HE := hid (HBE.out.trans (b15.mono (by have := HSU.out; omega)))
          go_wp2
          go_ret
          exact ⟨by simp, HE.out⟩
    · have hyi : (4096 : Int) < (kb.length : Int) := by omega
      have HE := hid (HFB.out _ b4).1
      clear HFB
      go_wp2
      go_ret
      exact ⟨rfl, HE.out⟩
  · rw [decide_eq_false hshort] at HSH
    go_wp2_with fail
    refine HSH.mono ?_
    clear HSH
    rintro e w4 ⟨rfl, b4'⟩
    have HE := hid (HFB.out _ (b3.trans (b4'.mono (by have := (HFB.out _ b3).2.2.2.1; omega)))).1
    clear HFB
    go_wp2
    go_ret
    exact ⟨rfl, HE.out⟩
end Go.Proofs.YtmafaioohiaenaaDoor
