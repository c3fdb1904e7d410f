/- ProofMakes: a proof that was made holds, in bytes and back, too. -/
import Derived.Test.YtmafaioohiaenaaDoorSmall5
import Derived.Test.YtmafaioohiaenaaDoorBackP
import Derived.Test.YtmafaioohiaenaaDoorSameZ
namespace Go.Proofs.YtmafaioohiaenaaDoor
open Go.RowKit Go.Shelf
set_option linter.unusedVariables false
set_option linter.unusedSimpArgs false
set_option maxRecDepth 20000

set_option maxHeartbeats 8000000 in
theorem makes_law (lv : Value) (xs : List EntV) (kv : Value) (key : List UInt8) (w : World) (hA : Ents w.heap.size w lv xs) (hk : Shows w.heap.size w kv key) (_ : key.length ≤ 140737488351232) (hT : Tables w) :
    Calls Tryd.prog 5 #[lv, kv] w fun e w' => e = .returned (.bool true) ∧ Below w.heap.size w w' := by
  obtain ⟨la, lc, rfl, hl1, hl2, _⟩ := id hA
  obtain ⟨ka, kc, rfl, hk1, hk2, _⟩ := id hk
  have hlt := hT.lt
  have HA := hid hA
  have HK : Hid (Shows w.heap.size w (.slice ka key.length kc) key) := hid hk
  have HT := hid hT
  have HSM := small5_any w hT
  clear hA hk hT
  generalize xs.length = xl at *
  go_enter Tryd.func5, Tryd.ntmps5
  go_wp2_with fail
  refine HSM.mono ?_
  clear HSM
  rintro e w1 ⟨rfl, b1⟩
  have HMD := made5_any _ _ w1 ((HA.out.below b1).mono b1.size)
  obtain ⟨T, hTT⟩ : ∃ T, (xs.take 12).foldl (fun T x => putIf T x.ent) none = T := ⟨_, rfl⟩
  rw [hTT] at HMD
  go_wp2_with fail
  refine HMD.mono ?_
  clear HMD hTT HA
  rintro e w2 ⟨rfl, R2, hn2, hb2⟩
  have b2 := b1.trans (hb2.mono b1.size)
  have hz1 := b1.size
  clear hb2 b1
  generalize w1.heap.size = tb at *
  by_cases hlen : key.length ≤ 4096
  · have hkl : (key.length : Int) ≤ 4096 := by omega
    have HG := get_B tb tb T _ key w2 R2 ((HK.out.below b2).mono b2.size)
    obtain ⟨vb, hvb⟩ : ∃ vb, (look T key).getD [] = vb := ⟨_, rfl⟩
    obtain ⟨is, his⟩ : ∃ is, (look T key).isSome = is := ⟨_, rfl⟩
    rw [hvb, his] at HG
    go_wp2_with fail
    refine HG.mono ?_
    clear HG
    rintro e w3 ⟨v3, rfl, hc3, hb3⟩
    have R3 := R2.new hb3
    have b3 := b2.trans (hb3.mono b2.size)
    clear hb3 R2 b2
    obtain ⟨va3, vc3, rfl⟩ := hc3.form
    have s3 : Says w3 (.slice va3 vb.length vc3) vb := hc3.says
    clear hc3
    have HMK := make_any tb tb T _ key w3 R3 ((HK.out.below b3).mono b3.size) (HT.out.below b3 (by omega)) (by omega)
    have HME := hid (mkP_tells T key R3.wf)
    have HMY := hid (mkP_may T key R3.wf)
    have HMR := hid (rootO_length T)
    rw [hvb, his] at HME
    obtain ⟨p, hpd⟩ : ∃ p, mkP T key = p := ⟨_, rfl⟩
    rw [hpd] at HMK HME HMY
    clear hpd hvb his
    go_wp2_with (first
      | (go_at_call 28; refine HMK.mono ?_; clear HMK; rintro e w4 ⟨ek, ev, sv, rfl, hp4, hb4⟩
         have R4 := R3.new hb4
         have b4 := b3.trans (hb4.mono b3.size)
         have s4 := s3.new hb4
         clear hb4 R3 b3 s3
         obtain ⟨x4, y4, z4, rfl, rfl, rfl⟩ := slices_of hp4
         have HP4 := hid hp4
         clear hp4)
      | (refine wpList_store_row rfl 29 (.tmp 9) (.tmp 44) rfl w4.heap.size #[.bool p.no, .slice x4.1 p.k.length x4.2, .slice y4.1 p.v.length y4.2, .slice z4.1 p.st.length z4.2] rfl rfl 29 #[.bool false, .slice none 0 0, .slice none 0 0, .slice none 0 0] (World.alloc_heap_new w4 _) Tryd.infoProof rfl (one_four _ _ _ _ _ _ _ _ _ _) ?_
         generalize hw5 : World.setRow _ w4.heap.size #[.bool p.no, .slice x4.1 p.k.length x4.2, .slice y4.1 p.v.length y4.2, .slice z4.1 p.st.length z4.2] = w5
         have hb5 : Below w4.heap.size w4 w5 := by rw [← hw5]; exact below_setRow (new_allocZ w4 (.cells #[.bool false, .slice none 0 0, .slice none 0 0, .slice none 0 0] 29)) (Nat.le_refl _) _
         have HX5 : Hid (w5.heap[w4.heap.size]? = some (.cells #[.bool p.no, .slice x4.1 p.k.length x4.2, .slice y4.1 p.v.length y4.2, .slice z4.1 p.st.length z4.2] 29 (0, 0))) := hid (by rw [← hw5]; exact setRow_heap _ _ _ _ _ _ (World.alloc_heap_new w4 _))
         clear hw5
         ))
    have R5 := R4.new hb5
    have b5 := b4.trans (hb5.mono b4.size)
    have s5 := s4.new hb5
    have hz5 := block_lt HX5.out
    generalize w4.heap.size = pb at *
    have HF : Hid (∀ W, Below w5.heap.size w5 W → PAt pb W p (.slice x4.1 p.k.length x4.2) (.slice y4.1 p.v.length y4.2) (.slice z4.1 p.st.length z4.2) ∧ W.heap[pb]? = some (.cells #[.bool p.no, .slice x4.1 p.k.length x4.2, .slice y4.1 p.v.length y4.2, .slice z4.1 p.st.length z4.2] 29 (0, 0)) ∧ Tables W ∧ Below w.heap.size w W ∧ Says W (.slice va3 vb.length vc3) vb ∧ Shows w.heap.size W (.slice ka key.length kc) key) := hid (fun W hW =>
      ⟨(HP4.out.below hb5).below (hW.mono (by omega)), (hW.block _ hz5).trans HX5.out, HT.out.below (b5.trans (hW.mono b5.size)) (by omega), b5.trans (hW.mono b5.size), s5.new hW, HK.out.below (b5.trans (hW.mono b5.size))⟩)
    have HRT := root_B tb tb T w5.drew (R5.new (below_drewN _ _ 1)) ((HF.out w5.drew (below_drewN _ _ 1)).2.2.1)
    have HCK : Hid (∀ W, Below w5.heap.size w5 W → Calls Tryd.prog 14 #[.agg (sumV (rootO T)), .slice ka key.length kc, .agg #[.bool p.no, .slice x4.1 p.k.length x4.2, .slice y4.1 p.v.length y4.2, .slice z4.1 p.st.length z4.2]] W fun e w' => ∃ v', e = .returned (.tuple #[v', .bool is, .int .i64 0]) ∧ Copy W.heap.size w' v' vb ∧ Below W.heap.size W w') := hid (fun W hW => by
      obtain ⟨f1, f2, f3, f4, f5, f6⟩ := HF.out W hW
      have := check_any W.heap.size p _ _ _ _ (rootO T) key W (Nat.le_refl _) (f1.mono (by have := hW.size; omega)) (f6.mono f4.size) HMR.out f3
      rw [HME.out] at this
      exact this)
    have FS : ∀ W, Below w5.heap.size w5 W → W.cell? ⟨pb, 0, none⟩ = some (.bool p.no) ∧ W.cell? ⟨pb, 1, none⟩ = some (.slice x4.1 p.k.length x4.2) ∧ W.cell? ⟨pb, 2, none⟩ = some (.slice y4.1 p.v.length y4.2) ∧ W.cell? ⟨pb, 3, none⟩ = some (.slice z4.1 p.st.length z4.2) := fun W hW => proof_cells (HF.out W hW).2.1
    obtain ⟨c0, c1, c2, c3⟩ := FS w5 (Below.refl _ _)
    have hS5 := FS w5.drew (below_drewN _ _ 1)
    have HFS := hid FS
    clear FS R4 R5 s4 s5 b4 hb5 HX5 HP4 HK
    generalize sumV (rootO T) = A at *
    go_region_held3 (fun w' => w'.cell? ⟨pb, 0, none⟩ = some (.bool p.no) ∧ w'.cell? ⟨pb, 1, none⟩ = some (.slice x4.1 p.k.length x4.2) ∧ w'.cell? ⟨pb, 2, none⟩ = some (.slice y4.1 p.v.length y4.2) ∧ w'.cell? ⟨pb, 3, none⟩ = some (.slice z4.1 p.st.length z4.2))
      (first | assumption)
      (first
        | (go_at_call 29; refine HRT.mono ?_; clear HRT; rintro e w6 ⟨rfl, hb6⟩
           have d6 : Below w5.heap.size w5 w6 := (below_drewN _ _ 1).trans hb6
           have hS6 := HFS.out _ d6
           have HC6 := HCK.out w6 d6
           clear hb6)
        | (go_at_call 14; refine HC6.mono ?_; clear HC6; rintro e w7 ⟨v7, rfl, hc7, hb7⟩
           obtain ⟨xa, xc, rfl⟩ := hc7.form
           have d7 : Below w5.heap.size w5 w7 := d6.trans (hb7.mono d6.size)
           have hS7 := HFS.out _ d7
           have s7 : Says w7 (.slice xa vb.length xc) vb := hc7.says
           clear hb7 hc7))
    obtain ⟨e0, e1, e2, e3⟩ := hS7
    have hz7 := d7.size
    have HBY := bytes_in p _ _ _ w7 ((HF.out w7 d7).1.mono (by omega)) HMY.out
    have hok := (HF.out w7 d7).1.hs.ok
    have HPB := hid (parse_blobs p HMY.out hok)
    generalize rowBytes p.blobs = bl at *
    clear c0 c1 c2 c3 hS5 hS6 HCK hok
    go_wp2_with fail
    refine HBY.mono ?_
    clear HBY
    rintro e w8 ⟨v8, rfl, ho8, hb8⟩
    have d8 : Below w5.heap.size w5 w8 := d7.trans (hb8.mono hz7)
    have s8 := s7.new hb8
    have hz8 := d8.size
    have HPA := parse_any w8.heap.size v8 bl w8 (shows_of_owns ho8).2 (Nat.le_refl _)
    rw [HPB.out] at HPA
    simp only at HPA
    clear hb8 s7 ho8
    go_wp2_with (first
      | (go_at_call 22; refine HPA.mono ?_; clear HPA; rintro e w9 ⟨qk, qv, qs, rfl, hq9, hb9⟩
         have d9 := d8.trans (hb9.mono hz8)
         have s9 := s8.new hb9
         have HQ9 := hid hq9
         clear hb9 s8 hq9)
      | (refine wpList_store_row rfl 29 (.tmp 15) (.tmp 62) rfl w9.heap.size #[.bool p.no, qk, qv, qs] rfl rfl 29 #[.bool false, .slice none 0 0, .slice none 0 0, .slice none 0 0] (World.alloc_heap_new w9 _) Tryd.infoProof rfl (HQ9.out.one _) ?_
         generalize hw10 : World.setRow _ w9.heap.size #[.bool p.no, qk, qv, qs] = w10
         have hb10 : Below w9.heap.size w9 w10 := by rw [← hw10]; exact below_setRow (new_allocZ w9 (.cells #[.bool false, .slice none 0 0, .slice none 0 0, .slice none 0 0] 29)) (Nat.le_refl _) _
         have HY10 : Hid (w10.heap[w9.heap.size]? = some (.cells #[.bool p.no, qk, qv, qs] 29 (0, 0))) := hid (by rw [← hw10]; exact setRow_heap _ _ _ _ _ _ (World.alloc_heap_new w9 _))
         have HQ10 := hid (HQ9.out.new hb10)
         have d10 := d9.trans (hb10.mono d9.size)
         have s10 := s9.new hb10
         have hz10 := d10.size
         obtain ⟨f1, f2, f3, f4, f5, f6⟩ := HF.out w10 d10
         have HX10 := hid f2
         have HE10 := hid f4
         have HS10 := sameZ_any pb w10.heap.size p _ _ _ qk qv qs w10 f1 HQ10.out.at (by omega) (Nat.le_refl _)
         have k1 := run_string_shows (P := Tryd.prog) 24 5 9 Tryd.underlying24 Tryd.underlying5 Tryd.underlying9 s10
         have k2 := run_string_shows (P := Tryd.prog) 24 5 9 Tryd.underlying24 Tryd.underlying5 Tryd.underlying9 f5
         clear f1 f2 f3 f4 f5 f6 hw10 hb10 s10 s9)
      | (refine wpList_load_z rfl 29 (.tmp 9) rfl ⟨pb, 0, none⟩ rfl #[.bool p.no, .slice x4.1 p.k.length x4.2, .slice y4.1 p.v.length y4.2, .slice z4.1 p.st.length z4.2] (load_row_proof HX10.out rfl) ?_)
      | (refine wpList_load_z rfl 29 (.tmp 15) rfl ⟨w9.heap.size, 0, none⟩ rfl #[.bool p.no, qk, qv, qs] (load_row_proof HY10.out rfl) ?_)
      | (go_at_call 15; refine HS10.mono ?_; clear HS10; rintro e w11 ⟨rfl, hb11⟩
         have HE11 := hid (HE10.out.trans (hb11.mono HE10.out.size))
         clear hb11))
    all_goals
      go_ret
      exact ⟨by simp, HE11.out⟩
  · have hkl : (4096 : Int) < (key.length : Int) := by omega
    go_wp2
    go_ret
    exact ⟨rfl, b2⟩
end Go.Proofs.YtmafaioohiaenaaDoor
