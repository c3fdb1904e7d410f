/- The walk of ProofSound. -/
import Derived.Test.YtmafaioohiaenaaDoorSoundK
namespace Go.Proofs.YtmafaioohiaenaaDoor
open Go.RowKit Go.Shelf
set_option linter.unusedVariables false
set_option linter.unusedSimpArgs false
set_option maxRecDepth 20000

theorem rowsOwn_low {B B' : Nat} {w : World} {vs : List Value} {rows : List (List UInt8)} (h : RowsOwn w B vs rows) (hB : B' ≤ B) : RowsOwn w B' vs rows :=
  ⟨h.len, fun j u r hu hr => ⟨owns_lower (h.own j u r hu hr).1 (fun g hg => Nat.le_trans hB ((h.own j u r hu hr).1.lt g hg).1), (h.own j u r hu hr).2⟩, h.apart⟩

set_option maxHeartbeats 2000000 in
theorem sound_law (lv : Value) (xs : List EntV) (key : Value) (kb : List UInt8) (p : Prf) (kv vv sv : Value) (w : World) (hA : Ents w.heap.size w lv xs) (hk : Shows w.heap.size w key kb) (_ : kb.length ≤ 140737488351232) (hp : PAt w.heap.size w p kv vv sv) (hT : Tables w) :
    Calls Tryd.prog 6 #[lv, key, .agg #[.bool p.no, kv, vv, sv]] w fun e w' => e = .returned (.bool true) ∧ Below w.heap.size w w' := by
  obtain ⟨la, lc, rfl, hl1, hl2, _⟩ := id hA
  obtain ⟨ka, kc, rfl, hk1, hk2, _⟩ := id hp.hk
  obtain ⟨va, vc, rfl, hv1, hv2, _⟩ := id hp.hv
  obtain ⟨sa, sc, rfl, hs1, hs2⟩ := hp.hs.form
  obtain ⟨ya, yc, rfl, hy1, hy2, _⟩ := id hk
  have hlt := hT.lt
  have hok := hp.hs.ok
  have hbn : Below w.heap.size w (w.alloc (.cells #[.bool p.no, .slice ka p.k.length kc, .slice va p.v.length vc, .slice sa p.st.length sc] 29)) := (Below.refl _ _).alloc (Nat.le_refl _) _
  have hnew := World.alloc_heap_new w (.cells #[.bool p.no, .slice ka p.k.length kc, .slice va p.v.length vc, .slice sa p.st.length sc] 29)
  have hsn : (w.alloc (.cells #[.bool p.no, .slice ka p.k.length kc, .slice va p.v.length vc, .slice sa p.st.length sc] 29)).heap.size = w.heap.size + 1 := World.size_alloc _ _
  go_enter Tryd.func6, Tryd.ntmps6
  go_wp2_with fail
  generalize hw0 : w.alloc (.cells #[.bool p.no, .slice ka p.k.length kc, .slice va p.v.length vc, .slice sa p.st.length sc] 29) = w0 at *
  have FB : ∀ W, Below (w.heap.size + 1) w0 W → Below w.heap.size w W ∧ PAt w.heap.size W p (.slice ka p.k.length kc) (.slice va p.v.length vc) (.slice sa p.st.length sc) ∧ Shows w.heap.size W (.slice ya kb.length yc) kb ∧ w.heap.size + 1 ≤ W.heap.size ∧ Tables W ∧ W.heap[w.heap.size]? = some (.cells #[.bool p.no, .slice ka p.k.length kc, .slice va p.v.length vc, .slice sa p.st.length sc] 29 (0, 0)) ∧ Ents w.heap.size W (.slice la xs.length lc) xs := fun W h => by
    have hb' : Below w.heap.size w W := hbn.trans (h.mono (by omega))
    exact ⟨hb', hp.below hb', hk.below hb', by have := h.size; omega, hT.below hb' hT.lt, (h.block _ (by omega)).trans hnew, hA.below hb'⟩
  have b0 : Below (w.heap.size + 1) w0 w0 := Below.refl _ _
  have HSM := small5_any w0 (FB _ b0).2.2.2.2.1
  have HFB := hid FB
  clear FB hnew hw0 hp hk hT hA hk1 hk2 hv1 hv2 hs1 hs2 hy1 hy2 hl1 hl2 hbn hsn
  refine HSM.mono ?_
  clear HSM
  rintro e w1 ⟨rfl, b1'⟩
  have b1 : Below (w.heap.size + 1) w0 w1 := b0.trans (b1'.mono (HFB.out _ b0).2.2.2.1)
  have HMD := made5_any _ _ w1 ((HFB.out _ b1).2.2.2.2.2.2.mono (by have := (HFB.out _ b1).2.2.2.1; omega))
  obtain ⟨T, hTT⟩ : ∃ T, (xs.take 12).foldl (fun T x => putIf T x.ent) none = T := ⟨_, rfl⟩
  rw [hTT] at HMD
  clear b1'
  go_wp2_with fail
  refine HMD.mono ?_
  clear HMD hTT
  rintro e w2 ⟨rfl, R2, hn2, hb2⟩
  have b2 : Below (w.heap.size + 1) w0 w2 := b1.trans (hb2.mono (HFB.out _ b1).2.2.2.1)
  have HWF := hid R2.wf
  clear hb2
  generalize w1.heap.size = tb at *
  obtain ⟨r1, r2, r3, r4, r5, r6, r7⟩ := HFB.out _ b2
  obtain ⟨c0, c1, c2, c3⟩ := proof_cells r6
  have HSH := short_any w.heap.size p _ _ _ w2 r2
  clear r1 r2 r3 r5 r6 r7
  by_cases hshort : p.k.length ≤ 4096 ∧ p.v.length ≤ 4096 ∧ p.st.length ≤ 2000
  · rw [decide_eq_true hshort] at HSH
    go_wp2_with fail
    refine HSH.mono ?_
    clear HSH c0 c1 c2 c3
    rintro e w3 ⟨rfl, b3'⟩
    have b3 : Below (w.heap.size + 1) w0 w3 := b2.trans (b3'.mono r4)
    have R3 := R2.new b3'
    clear b3' R2 r4
    by_cases hyl : kb.length ≤ 4096
    · have hyi : (kb.length : Int) ≤ 4096 := by omega
      have HF : Hid (∀ W, Below w3.heap.size w3 W → Below (w.heap.size + 1) w0 W) := hid (fun W h => b3.trans (h.mono (HFB.out _ b3).2.2.2.1))
      have HMR := hid (rootO_length T)
      obtain ⟨⟨te, tbb, tv⟩, hTe⟩ : ∃ X, p.tells (rootO T) kb = X := ⟨_, rfl⟩
      have HRT := root_B tb tb T w3.drew (R3.new (below_drewN _ _ 1)) ((HFB.out _ (HF.out w3.drew (below_drewN _ _ 1))).2.2.2.2.1)
      have HCK : Hid (∀ W, Below w3.heap.size w3 W → Calls Tryd.prog 14 #[.agg (sumV (rootO T)), .slice ya kb.length yc, .agg #[.bool p.no, .slice ka p.k.length kc, .slice va p.v.length vc, .slice sa p.st.length sc]] W fun e w' => ∃ v', e = .returned (.tuple #[v', .bool tbb, .int .i64 te]) ∧ Copy W.heap.size w' v' tv ∧ Below W.heap.size W w') := hid (fun W hW => by
        obtain ⟨f1, f2, f3, f4, f5, f6, f7⟩ := HFB.out W (HF.out W hW)
        have := check_any w.heap.size p _ _ _ _ (rootO T) kb W (by omega) f2 f3 HMR.out f5
        rw [hTe] at this
        exact this)
      have FS : ∀ W, Below w3.heap.size w3 W → W.cell? ⟨w.heap.size, 0, none⟩ = some (.bool p.no) ∧ W.cell? ⟨w.heap.size, 1, none⟩ = some (.slice ka p.k.length kc) ∧ W.cell? ⟨w.heap.size, 2, none⟩ = some (.slice va p.v.length vc) ∧ W.cell? ⟨w.heap.size, 3, none⟩ = some (.slice sa p.st.length sc) := fun W hW => proof_cells (HFB.out W (HF.out W hW)).2.2.2.2.2.1
      obtain ⟨c0, c1, c2, c3⟩ := FS w3 (Below.refl _ _)
      have hS3 := FS w3.drew (below_drewN _ _ 1)
      have HFS := hid FS
      have HTE := hid hTe
      have HR3 := hid R3
      clear FS R3 hTe
      obtain ⟨A, hAe⟩ : ∃ A, sumV (rootO T) = A := ⟨_, rfl⟩
      rw [hAe] at HCK HRT
      have HAE := hid hAe
      clear hAe
      go_wp2_with fail
      go_region_held3 (fun w' => w'.cell? ⟨w.heap.size, 0, none⟩ = some (.bool p.no) ∧ w'.cell? ⟨w.heap.size, 1, none⟩ = some (.slice ka p.k.length kc) ∧ w'.cell? ⟨w.heap.size, 2, none⟩ = some (.slice va p.v.length vc) ∧ w'.cell? ⟨w.heap.size, 3, none⟩ = some (.slice sa p.st.length sc))
        (first | assumption)
        (first
          | (go_at_call 29; refine HRT.mono ?_; clear HRT; rintro e w4 ⟨rfl, hb4⟩
             have d4 : Below w3.heap.size w3 w4 := (below_drewN _ _ 1).trans hb4
             have hS4 := HFS.out _ d4
             have HC4 := HCK.out w4 d4
             clear hb4)
          | (go_at_call 14; refine HC4.mono ?_; clear HC4; rintro e w5 ⟨v5, rfl, hc5, hb5⟩
             obtain ⟨xa, xc, rfl⟩ := hc5.form
             have d5 : Below w3.heap.size w3 w5 := d4.trans (hb5.mono d4.size)
             have hS5 := HFS.out _ d5
             have HC5 := hid hc5
             clear hb5 hc5))
      clear hS3 hS4 hS5 c0 c1 c2 c3 HCK
      cases hcnd : (p.may && decide (p.root = rootO T) && leadsZ kb p.st) with
      | false =>
        obtain ⟨rfl, rfl, rfl⟩ : te = 5 ∧ tbb = false ∧ tv = [] := by
          have := HTE.out
          unfold Prf.tells at this
          rw [hcnd] at this
          simp only [Bool.false_eq_true, if_false, Prod.mk.injEq] at this
          exact ⟨this.1.symm, this.2.1.symm, this.2.2.symm⟩
        have HE := hid (HFB.out _ (HF.out _ d5)).1
        clear HFB HF HFS
        go_wp2
        go_ret
        exact ⟨by simp, HE.out⟩
      | true =>
        simp only [Bool.and_eq_true, decide_eq_true_eq] at hcnd
        obtain ⟨⟨hmay, hroot⟩, hlead⟩ := hcnd
        obtain ⟨rfl, htb, htv⟩ : te = 0 ∧ tbb = !(p.no || !decide (p.k = kb)) ∧ tv = (if (p.no || !decide (p.k = kb)) then [] else p.v) := by
          have := HTE.out
          unfold Prf.tells at this
          rw [hmay, hlead, decide_eq_true hroot] at this
          simp only [Bool.and_self, if_true] at this
          cases hno : (p.no || !decide (p.k = kb)) with
          | true => rw [hno] at this; simp only [if_true, Prod.mk.injEq] at this; exact ⟨this.1.symm, this.2.1.symm, this.2.2.symm⟩
          | false => rw [hno] at this; simp only [Bool.false_eq_true, if_false, Prod.mk.injEq] at this; exact ⟨this.1.symm, this.2.1.symm, this.2.2.symm⟩
        -- if it told otherwise than the tree has, two unlike texts have one digest
        have HSO : Hid (NoClash (textsO T ++ p.texts) → tbb = (look T kb).isSome ∧ tv = (look T kb).getD []) := hid (fun hX => by
          obtain ⟨s1, s2⟩ := sound_pure p T kb HWF.out hok hmay hroot hlead hX
          rw [htb, htv, s1]
          cases hl : look T kb with
          | none => simp
          | some y =>
            have := s2 (by rw [hl]; rfl)
            rw [hl] at this
            simp only [Option.some.injEq] at this
            simp [this])
        have HLK := hid (gotZ_look kb T HWF.out)
        have HAL := all_BZ tb tb T w5 (HR3.out.new d5) (by omega)
        clear HTE htb htv hmay hroot hlead HFS
        go_wp2_with fail
        refine HAL.mono ?_
        clear HAL
        rintro e w6 ⟨sv6, xs6, rfl, hrow6, hent6, hb6⟩
        have d6 : Below w3.heap.size w3 w6 := d5.trans (hb6.mono d5.size)
        have HE6 := hid hrow6.ents
        obtain ⟨aa, ac, rfl, hac1, hac2, _⟩ := id hrow6.ents
        have HX6 := hid hent6
        have hxl : xs6.length ≤ 12 := by have := congrArg List.length hent6; simp at this; omega
        have HC6 := hid (HC5.out.new hb6)
        have HB6 := hid d6
        clear hrow6 hent6 hb6 d5 d6 HC5 d4 hac1 hac2
        go_wp2_with fail
        go_loopw [14, 15, 16] (fun h s i wr => ∃ k : Nat, k ≤ xs6.length ∧ i = .int .i64 (k : Int) ∧ h = .bool (gotZ kb ((Tri.entsO T).take k)).isSome ∧ s = .string (str8 ((gotZ kb ((Tri.entsO T).take k)).getD [])) ∧ Hid (∀ D, Below D w6 wr)) (fun _ _ i _ => xs6.length - (intOf i).toNat)
        case atStart => exact ⟨0, Nat.zero_le _, rfl, rfl, rfl, fun D => Below.refl _ _⟩
        case round =>
          obtain ⟨k, hk, rfl, rfl, rfl, HD⟩ := hrel
          by_cases hlt6 : k < xs6.length
          · have hki : (k : Int) < (xs6.length : Int) := by omega
            have hk0 : (0 : Int) ≤ (k : Int) := by omega
            obtain ⟨b, off, k1, c1, v1, c2, eb, ev, rfl, hbl, hx, hc1, hc2, hs1, hs2⟩ := (HE6.out.below (HD.out _)).at k hlt6
            have hek : (Tri.entsO T)[k]? = some (eb, ev) := by rw [← HX6.out, List.getElem?_map, hx]; rfl
            have HTK : Hid (gotZ kb ((Tri.entsO T).take (k + 1)) = if eb = kb then some ev else gotZ kb ((Tri.entsO T).take k)) := hid (by
              rw [List.take_add_one, hek]
              exact gotZ_snoc kb _ (eb, ev))
            have hS := (HFB.out _ (HF.out _ (HB6.out.trans ((HD.out _).mono HB6.out.size)))).2.2.1
            have e1 := fun nq => strsC (hs1.below (below_drewN _ wr nq))
            have e2 := fun nq => strsC (hS.below (below_drewN _ wr nq))
            have e3 := fun nq => strsC (hs2.below (below_drewN _ wr nq))
            clear hx hek hs1 hs2 hS
            generalize gotZ kb ((Tri.entsO T).take k) = G at *
            by_cases heq : eb = kb
            · rw [if_pos heq] at HTK
              have hse : ((str8 eb).toList == (str8 kb).toList) = true := by rw [heq]; simp
              clear heq
              go_wp2_with fail
              go_quiet (fail)
              go_wp2_with fail
              go_roundw
              case rel => exact ⟨k + 1, by omega, by go_num, by rw [HTK.out]; rfl, by rw [HTK.out]; rfl, fun D => (HD.out D).trans (below_drewN D _ _)⟩
              case measure => simp [intOf]; omega
            · rw [if_neg heq] at HTK
              have hse : ((str8 eb).toList == (str8 kb).toList) = false := by rw [str_beqC]; exact decide_eq_false heq
              clear heq
              go_wp2_with fail
              go_quiet (fail)
              go_wp2_with fail
              go_roundw
              case rel => exact ⟨k + 1, by omega, by go_num, by rw [HTK.out], by rw [HTK.out], fun D => (HD.out D).trans (below_drewN D _ _)⟩
              case measure => simp [intOf]; omega
          · have hki : (xs6.length : Int) ≤ (k : Int) := by omega
            have hall : (Tri.entsO T).take k = Tri.entsO T := List.take_of_length_le (by have := congrArg List.length HX6.out; simp at this; omega)
            rw [hall, HLK.out]
            clear hall HLK
            have k1 := strsC (HC6.out.new (HD.out _)).says
            have HBR : Hid (Below w3.heap.size w3 wr) := hid (HB6.out.trans ((HD.out _).mono HB6.out.size))
            obtain ⟨L, hL⟩ : ∃ L, look T kb = L := ⟨_, rfl⟩
            rw [hL] at HSO ⊢
            obtain ⟨hb, hhb⟩ : ∃ hb, L.isSome = hb := ⟨_, rfl⟩
            obtain ⟨vb, hvb⟩ : ∃ vb, L.getD [] = vb := ⟨_, rfl⟩
            rw [hhb, hvb] at HSO ⊢
            clear hL hhb hvb
            by_cases hgood : tbb = hb ∧ tv = vb
            · obtain ⟨rfl, rfl⟩ := hgood
              have HE := hid (HFB.out _ (HF.out _ HBR.out)).1
              clear HFB HF HSO
              go_wp2
              go_ret
              exact ⟨rfl, HE.out⟩
            · have HNC : Hid (¬ NoClash (textsO T ++ p.texts)) := hid (fun h => hgood (HSO.out h))
              have hER : Ents wr.heap.size wr (.slice aa xs6.length ac) xs6 := (HE6.out.below (HD.out _)).mono (HD.out w6.heap.size).size
              have HTO := textsO_any T HWF.out _ xs6 wr hER HX6.out (by omega)
              rw [HAE.out] at HTO
              have HIS : Hid (IsSum A) := hid (by rw [← HAE.out]; exact isSum _ HMR.out)
              have hZ := textsO_length T
              have HZ2 := hid (textsO_le T)
              have HY2 := hid (ptexts_le p)
              have hY1 : p.texts.length ≤ 2001 := by
                unfold Prf.texts
                split
                · rw [upZ_length, List.length_reverse]; omega
                · simp
              obtain ⟨Z, hZe⟩ : ∃ Z, textsO T = Z := ⟨_, rfl⟩
              obtain ⟨Y, hYe⟩ : ∃ Y, p.texts = Y := ⟨_, rfl⟩
              have HYE := hid hYe
              rw [hZe] at HTO hZ HZ2 HNC
              rw [hYe] at HY2 hY1 HNC
              have hZ3 : Z.length ≤ 25 := by omega
              obtain ⟨i0, hi, hz0, hz1, hz2⟩ := info_parts Tryd.infoBytes4
              have hcs : (tbb == hb) = false ∨ (tbb = hb ∧ ((str8 tv).toList == (str8 vb).toList) = false) := by
                by_cases h1 : tbb = hb
                · exact .inr ⟨h1, by rw [str_beqC]; exact decide_eq_false fun h2 => hgood ⟨h1, h2⟩⟩
                · exact .inl (by rw [beq_eq_false_iff_ne]; exact h1)
              clear hER hZ hZe hYe hgood HSO HE6 HX6
              rcases hcs with hbe | ⟨rfl, hbe⟩
              all_goals
                go_wp2_with fail
                refine HTO.mono ?_
                clear HTO hbe k1
                rintro e w7 ⟨rv7, rfl, htx7, hb7⟩
                obtain ⟨ra, rc, rfl⟩ := htx7.form
                have HT7 := hid htx7
                have HB7 := hid hb7
                have HFR := hid (fresh_row w7 A)
                clear htx7 hb7
                go_wp2_with (first
                  | (refine wpList_store_row rfl 23 (.tmp 17) (.tmp 101) rfl w7.heap.size A rfl rfl 23 zero32 (heap_alloc_new w7 _) HIS.out.info HIS.out.size HIS.out.one ?_
                     generalize hw8 : World.setRow _ w7.heap.size A = w8
                     have HB8 : Hid (Below w7.heap.size w7 w8) := hid (by rw [← hw8]; exact HFR.out.2.1)
                     have HD8 : Hid (Below w3.heap.size w3 w8) := hid (HBR.out.trans ((HB7.out.trans (HB8.out.mono HB7.out.size)).mono HBR.out.size))
                     obtain ⟨c0, c1, c2, c3⟩ := proof_cells (HFB.out _ (HF.out _ HD8.out)).2.2.2.2.2.1
                     clear hw8))
                have HYT := ytexts_any w.heap.size p _ _ _ w8 (by have := (HFB.out _ (HF.out _ HD8.out)).2.2.2.1; omega) (HFB.out _ (HF.out _ HD8.out)).2.1
                rw [HYE.out] at HYT
                refine HYT.mono ?_
                clear HYT c0 c1 c2 c3
                rintro e w9 ⟨rv9, rfl, ⟨us, hrow9, hown9⟩, hb9⟩
                obtain ⟨qa, qc, rfl⟩ := row_form hrow9
                obtain ⟨vs, V9⟩ := ((HT7.out.new HB8.out).new hb9).ex
                have hle : wr.heap.size ≤ w8.heap.size := Nat.le_trans HB7.out.size HB8.out.size
                have HO9 := hid (owns_lower hrow9 (fun g hg => Nat.le_trans hle (hrow9.lt g hg).1))
                have HW9 := hid (rowsOwn_low hown9 hle)
                have HV9 := hid V9
                have HD9 := hid (HD8.out.trans (hb9.mono HD8.out.size))
                have hz9 : wr.heap.size ≤ w9.heap.size := Nat.le_trans hle hb9.size
                have hone9 : ∀ u ∈ us, u.oneCell' = true := fun u hu => by
                  obtain ⟨j, hj⟩ := List.getElem?_of_mem hu
                  have hjr : j < Y.length := by rw [← hown9.len]; exact (List.getElem?_eq_some_iff.1 hj).1
                  obtain ⟨g, cap, rfl⟩ := (hown9.own j u _ hj (List.getElem?_eq_getElem hjr)).2
                  rfl
                clear hrow9 hown9 hb9 V9
                go_wp2_with (first
                  | (at_builtin; go_loud (
                      refine wpList_append_rows4 _ rfl (.tmp 103) (.tmp 105) 32 rfl wr.heap.size 24 i0 Tryd.underlying32 hi hz0 hz1 hz2 _ Z.length vs rfl HV9.out.1 wr.heap.size _ Y.length us rfl HO9.out hone9 (by omega) hz9 ?_
                      intro vA wA oA gA _
                      obtain ⟨aA, cA, rfl⟩ := row_form oA
                      have hLS := both_lists HV9.out HO9.out HW9.out gA oA
                      have HDA : Hid (Below w3.heap.size w3 wA) := hid (HD9.out.trans ((Spares.of_grown (S := fun i => (Value.slice ra Z.length rc).ownBlock = some i) gA (fun k e => e)).below (fun i hi => Nat.le_trans HBR.out.size (HV9.out.1.lt i hi).1) HD9.out.size))
                      have HCL := clash_some wA.heap.size aA cA (Z ++ Y) wA (Nat.le_refl _) (by rw [List.length_append]; exact hLS) (by rw [List.length_append]; omega) (fun t ht => by rcases List.mem_append.1 ht with h | h; exact HZ2.out t h; exact HY2.out t h) HNC.out
                      rw [List.length_append] at HCL
                      clear oA gA hLS))
                  | (go_at_call 32; refine HCL.mono ?_; clear HCL; rintro e w10 ⟨rfl, hb10⟩
                     have HE := hid (HFB.out _ (HF.out _ (HDA.out.trans (hb10.mono HDA.out.size)))).1
                     clear hb10))
                go_ret
                exact ⟨rfl, HE.out⟩
    · have hyi : (4096 : Int) < (kb.length : Int) := by omega
      have HE := hid (HFB.out _ b3).1
      clear HFB
      go_wp2
      go_ret
      exact ⟨by simp, HE.out⟩
  · rw [decide_eq_false hshort] at HSH
    go_wp2_with fail
    refine HSH.mono ?_
    clear HSH
    rintro e w3 ⟨rfl, b3'⟩
    have HE := hid (HFB.out _ (b2.trans (b3'.mono r4))).1
    clear HFB
    go_wp2
    go_ret
    exact ⟨by simp, HE.out⟩
end Go.Proofs.YtmafaioohiaenaaDoor
