/- The walk of TrieRoots. -/
import Derived.Test.YthkeofinamedfaaDoorRootsP
import Derived.Test.YthkeofinamedfaaDoorPathsP
namespace Go.Proofs.YthkeofinamedfaaDoor
open Go.RowKit Go.Shelf
set_option linter.unusedVariables false
set_option linter.unusedSimpArgs false
set_option maxRecDepth 20000

set_option maxHeartbeats 8000000 in
theorem roots_law (v : Value) (xs : List ActV) (kv : Value) (key : List UInt8) (vv : Value) (val : List UInt8) (w : World) (hA : Acts w.heap.size w v xs) (hk : Shows w.heap.size w kv key) (_ : key.length ≤ 140737488351232) (hv : Shows w.heap.size w vv val) (_ : val.length ≤ 140737488351232) (ht : Tables w) :
    Calls Tryd.prog 5 #[v, kv, vv] w fun e w' => e = .returned (.bool true) ∧ Below w.heap.size w w' := by
  obtain ⟨aA, cA, rfl, _⟩ := id hA
  obtain ⟨a, c, rfl, _⟩ := id hk
  obtain ⟨a', c', rfl, _⟩ := id hv
  have hlt := ht.lt
  have HA := hid hA
  have HW : Hid (∀ W, Below w.heap.size w W → Says W (.slice a key.length c) key ∧ Says W (.slice a' val.length c') val ∧ Tables W) := hid (fun W h => ⟨Says.new hk h, Says.new hv h, ht.below h (by omega)⟩)
  have HT := hid ht
  clear hA hk hv ht
  go_enter Tryd.func5, Tryd.ntmps5
  go_wp2_with fail
  refine (small_any w HT.out).mono ?_
  rintro e w1 ⟨rfl, hb1⟩
  go_wp2_with fail
  refine (made_any _ xs w1 ((HA.out.below hb1).mono hb1.size)).mono ?_
  rintro e w2 ⟨tb, T, rfl, R2, hc2, hb2⟩
  have B2 := hb1.trans (hb2.mono hb1.size)
  have R2 := R2.lower hb1.size
  have HWF := hid R2.wf
  clear hb1 hb2
  have hfew : (Tri.entsO T).length < 1000000000 := by omega
  go_wp2_with fail
  refine (all_B w.heap.size tb T w2 R2 hfew).mono ?_
  rintro e w3 ⟨sv, ys, rfl, D3, hys, hb3⟩
  obtain ⟨a1, c1, rfl, hn1, hn2, _⟩ := id D3.ents
  have HYS := hid hys
  have hyl : ys.length = (Tri.entsO T).length := by rw [← hys, List.length_map]
  have B3 := B2.trans (hb3.mono B2.size)
  have R3 := R2.new hb3
  have hyn : ys.length ≤ 30 := by omega
  have HRO := roots_any _ ys w3 D3.ents (by omega) (HW.out _ B3).2.2
  rw [hys] at HRO
  obtain ⟨cs, K⟩ := cs_of (rootO T) (rootO_length T)
  have HRO2 : Calls Tryd.prog 18 #[.slice a1 ys.length c1] w3 fun e w' => e = .returned (.tuple #[.agg cs.toArray, .int .i64 0]) ∧ Below w3.heap.size w3 w' := HRO.mono (by
    rintro e w' ⟨A, er, rfl, hR, _, hb⟩
    obtain ⟨rfl, rfl⟩ := rootsTo_of HWF.out hR
    exact ⟨by rw [K.sum], hb⟩)
  have HK := hid K
  have hi0 := K.info
  have hq0 := K.same
  have hu := Tryd.underlying37
  have HR3 := hid R3
  have HB3 := hid B3
  have HD3 := hid D3
  have HYL := hid hyl
  clear K HRO D3 B3 R3 R2 B2 hb3 hys hyl
  unfold maxLen at hn2
  go_wp2_with fail
  refine HRO2.mono ?_
  clear HRO2
  rintro e w4 ⟨rfl, hb4⟩
  go_wp2_with (first
    | (refine wpList_store_row rfl 37 (.tmp 10) (.tmp 32) rfl w4.heap.size cs.toArray rfl rfl 37 zero32 (World.alloc_heap_new w4 _) HK.out.isSum.info HK.out.isSum.size HK.out.isSum.one ?_
       generalize hw5 : World.setRow _ w4.heap.size cs.toArray = w5
       have H5 : Hid (w5.heap[w4.heap.size]? = some (.cells cs.toArray 37 (0, 0))) := hid (by rw [← hw5]; exact (fresh_row w4 _).1)
       have HB5 : Hid (Below w3.heap.size w3 w5) := hid (by rw [← hw5]; exact hb4.trans ((fresh_row w4 _).2.1.mono hb4.size))
       clear hw5 hb4))
  have HB5' := hid (HB3.out.trans (HB5.out.mono HB3.out.size))
  have HRT := roots_as (HR3.out.new HB5.out) (HW.out _ HB5'.out).2.2 rfl HK.out
  refine HRT.mono ?_
  clear HRT
  rintro e w6 ⟨rfl, hb6⟩
  go_wp2_with (first
    | (refine wpList_store_row rfl 37 (.tmp 12) (.tmp 35) rfl w6.heap.size cs.toArray rfl rfl 37 zero32 (World.alloc_heap_new w6 _) HK.out.isSum.info HK.out.isSum.size HK.out.isSum.one ?_
       generalize hw7 : World.setRow _ w6.heap.size cs.toArray = w7
       have H7 : Hid (w7.heap[w6.heap.size]? = some (.cells cs.toArray 37 (0, 0))) := hid (by rw [← hw7]; exact (fresh_row w6 _).1)
       have HB7 : Hid (Below w5.heap.size w5 w7) := hid (by rw [← hw7]; exact hb6.trans ((fresh_row w6 _).2.1.mono hb6.size))
       clear hw7 hb6
       have H75 := hid (row_kept H5.out HB7.out)
       have hcn := count_B w.heap.size tb T w7 ((HR3.out.new HB5.out).new HB7.out)
       rw [← HYL.out] at hcn)
    | (refine wpList_load_want (by rfl) 37 (.tmp 10) rfl w4.heap.size rfl 37 cs.toArray (0, 0) _ _ H75.out Tryd.underlying37 HK.out.isSum.info ?_)
    | (refine wpList_load_want (by rfl) 37 (.tmp 12) rfl w6.heap.size rfl 37 cs.toArray (0, 0) _ _ H7.out Tryd.underlying37 HK.out.isSum.info ?_))
  refine hcn.mono ?_
  clear hcn
  rintro e w7' ⟨rfl, e7⟩
  rw [e7]
  clear e7 w7'
  go_wp2_with fail
  refine (new_B w7).mono ?_
  rintro e w8 ⟨rfl, U8, hb8⟩
  have hwr : IntKind.i64.wrap ((ys.length : Int) - 1) = (ys.length : Int) - 1 := by rw [IntKind.wrap_i64]; omega
  have HB37 : Hid (Below w3.heap.size w3 w7) := hid (HB5.out.trans (HB7.out.mono HB5.out.size))
  obtain ⟨ub, hub⟩ : ∃ ub, w7.heap.size = ub := ⟨_, rfl⟩
  have HUB := hid hub
  rw [hub] at U8 hb8
  simp only [hub]
  clear hub
  have HU8 := hid U8
  have HB8 := hid hb8
  clear U8 hb8
  go_wp2_with fail
  go_loopw [14] (fun i wr => ∃ (k : Nat) (U : Option Tri), k ≤ ys.length ∧ i = .int .i64 ((k : Int) - 1) ∧ Hid (Tri.entsO U = (Tri.entsO T).drop k) ∧ Hid (TreeB ub wr ub U) ∧ Hid (Below ub w7 wr)) (fun i _ => (intOf i + 1).toNat)
  case atStart => exact ⟨ys.length, none, Nat.le_refl _, by first | rfl | simp, hid (by rw [HYL.out, List.drop_length]; rfl), HU8, HB8⟩
  case round =>
    clear HU8 HB8
    obtain ⟨k, U, hk, rfl, HUE, HU, HB⟩ := hrel
    have HB3R : Hid (Below w3.heap.size w3 wr) := hid (HB37.out.trans (HB.out.mono (by rw [← HUB.out]; exact HB37.out.size)))
    cases k with
    | succ j =>
      rw [show ((j + 1 : Nat) : Int) - 1 = (j : Int) by omega]
      obtain ⟨b, off, ka, kc, va, vc, kb, vb, rfl, hbl, hx, c0, c1', s1, s2⟩ := (HD3.out.ents.below HB3R.out).at j (by omega)
      have hxe := ent_at HYS.out hx
      have hsh : Tri.short (kb, vb) := shortO HWF.out _ (List.mem_of_getElem? hxe)
      have hji : (j : Int) < (ys.length : Int) := by omega
      have hj0 : (0 : Int) ≤ (j : Int) := by omega
      have hz3 := HB3R.out.size
      have hubz : ub ≤ wr.heap.size := by have := HB.out.size; rw [HUB.out] at this; exact this
      have hS0 : wr.drew.cell? ⟨b, off + j * 2, none⟩ = some (.slice ka kb.length kc) ∧ wr.drew.cell? ⟨b, off + j * 2 + 1, none⟩ = some (.slice va vb.length vc) := ⟨c0, c1'⟩
      have UD : TreeB ub wr.drew ub U := HU.out.new (below_drewN _ wr 1)
      have hUl : (Tri.entsO U).length < 1000000000 := by
        rw [HUE.out]; have := HYL.out; simp; omega
      have HP := put_B ub ub U _ _ kb vb wr.drew hubz UD (Says.new (w := wr) (s1.mono hz3) (below_drewN _ wr 1)) (Says.new (w := wr) (s2.mono hz3) (below_drewN _ wr 1)) hsh hUl
      have HPA := hid (put_ahead HU.out.wf (risesO HWF.out) hxe hsh HUE.out)
      have hbub : b < ub := by have h1 := HB37.out.size; rw [HUB.out] at h1; omega
      have HC0 : Hid (∀ W, Below ub wr.drew W → W.cell? ⟨b, off + j * 2, none⟩ = some (.slice ka kb.length kc) ∧ W.cell? ⟨b, off + j * 2 + 1, none⟩ = some (.slice va vb.length vc)) := hid (fun W hW => ⟨(hW.cell (p := ⟨b, off + j * 2, none⟩) hbub).trans c0, (hW.cell (p := ⟨b, off + j * 2 + 1, none⟩) hbub).trans c1'⟩)
      generalize Tri.put U (kb, vb) = U' at *
      have hwj : IntKind.i64.wrap ((j : Int) - 1) = (j : Int) - 1 := by rw [IntKind.wrap_i64]; omega
      clear s1 s2 hx hxe hsh UD HUE HU
      go_wp2_with fail
      go_region_held3 (fun w' => w'.cell? ⟨b, off + j * 2, none⟩ = some (.slice ka kb.length kc) ∧ w'.cell? ⟨b, off + j * 2 + 1, none⟩ = some (.slice va vb.length vc))
        (first | assumption)
        ((go_at_call 23; refine HP.mono ?_; clear HP; rintro e wn ⟨rfl, Un, hbn, _⟩
          have hSn := HC0.out wn hbn))
      have HUN := hid Un
      have HBN := hid (HB.out.trans ((below_drewN _ wr 1).trans hbn))
      clear Un hbn c0 c1' hS0 HC0 hSn
      go_wp2
      go_roundw
      case rel => exact ⟨j, some U', by omega, by first | rfl | simp, HPA, HUN, HBN⟩
      case measure => simp [intOf]
    | zero =>
      rw [show ((0 : Nat) : Int) - 1 = (-1 : Int) by omega]
      have hUT : U = T := uniqueO HU.out.wf HWF.out (by rw [HUE.out, List.drop_zero])
      subst hUT
      have HUB8 : Hid (ub ≤ wr.heap.size) := hid (by have := HB.out.size; rw [HUB.out] at this; exact this)
      have HBW : Hid (Below w.heap.size w wr) := hid (HB3.out.trans (HB3R.out.mono HB3.out.size))
      have H7R : Hid (wr.heap[w6.heap.size]? = some (.cells cs.toArray 37 (0, 0))) := hid ((HB.out.block _ (by rw [← HUB.out]; exact block_lt H7.out)).trans H7.out)
      have HRW : Hid (TreeB w.heap.size wr tb U) := hid (HR3.out.new HB3R.out)
      have HDW : Hid (Rowed w2.heap.size wr (.slice a1 ys.length c1) ys) := hid (HD3.out.new HB3R.out)
      have HR9 := roots_as (HU.out.new (below_drewN _ wr 1)) (HW.out wr.drew HBW.out.drew).2.2 rfl HK.out
      obtain ⟨g, hg⟩ : ∃ g, w6.heap.size = g := ⟨_, rfl⟩
      rw [hg] at H7R ⊢
      have hS9 : wr.drew.rangeAt g 0 cs := range_of_row H7R.out
      clear H7 H75 H5 HB7 HB5 HB5' HB37 HB3R HB3 HD3 HR3 HUE HB hg HU
      go_wp2_with fail
      go_region_held3 (fun w' => w'.rangeAt g 0 cs)
        (first | assumption)
        ((go_at_call 13; refine HR9.mono ?_; clear HR9; rintro e w9 ⟨rfl, hb9⟩
          have hS10 : w9.rangeAt g 0 cs := range_of_row ((hb9.block _ (Array.getElem?_eq_some_iff.1 H7R.out).1).trans H7R.out)))
      have hb9' : Below wr.heap.size wr w9 := (below_drewN _ wr 1).trans hb9
      have HB9 := hid (HBW.out.trans (hb9'.mono HBW.out.size))
      have HT9 := hid (HRW.out.new hb9')
      have H9 := hid (row_kept H7R.out hb9')
      have HD9 := hid (HDW.out.new hb9')
      have HG := get_B w.heap.size tb U _ key w9 HT9.out (HW.out _ HB9.out).1
      clear hb9 hb9' HBW HRW H7R HDW hS9 hS10 R2 HUB8
      go_wp2_with fail
      refine HG.mono ?_
      clear HG
      rintro e w10 ⟨gv, rfl, hcg, hb10⟩
      obtain ⟨ag, cg, rfl⟩ := hcg.form
      have HB10 := hid (HB9.out.trans (hb10.mono HB9.out.size))
      have HT10 := hid (HT9.out.new hb10)
      have H10 := hid (row_kept H9.out hb10)
      have HD10 := hid (HD9.out.new hb10)
      generalize ((look U key).getD []).length = gl at *
      clear HB9 HT9 H9 HD9 hcg hb10
      cases hlk : look U key with
      | some lv =>
        simp only [Option.isSome_some]
        have HR := roots_as (HT10.out.new (below_drewN _ w10 1)) (HW.out w10.drew HB10.out.drew).2.2 rfl HK.out
        have hS11 : w10.drew.rangeAt g 0 cs := range_of_row H10.out
        clear hlk
        go_wp2_with fail
        go_region_held3 (fun w' => w'.rangeAt g 0 cs)
          (first | assumption)
          ((go_at_call 13; refine HR.mono ?_; clear HR; rintro e w11 ⟨rfl, hb11⟩
            have hS12 : w11.rangeAt g 0 cs := range_of_row ((hb11.block _ (Array.getElem?_eq_some_iff.1 H10.out).1).trans H10.out)
            have HB11 := hid (HB10.out.drew.trans (hb11.mono HB10.out.size))))
        go_wp2
        go_ret
        exact ⟨rfl, HB11.out⟩
      | none =>
        simp only [Option.isSome_none]
        by_cases hsh : Tri.short (key, val)
        · have HPD := hid (put_drop HWF.out hsh hlk)
          have hput := put_few U (key, val)
          have HPU := put_O w.heap.size tb U _ _ key val w10 HB10.out.size HT10.out (HW.out _ HB10.out).1 (HW.out _ HB10.out).2.1 hsh hfew
          generalize Tri.put U (key, val) = U' at *
          clear hlk hsh
          go_wp2_with fail
          refine HPU.mono ?_
          clear HPU
          rintro e w11 ⟨rfl, T11, hb11, ho11, _⟩
          have HB11 := hid (HB10.out.trans hb11)
          have H11 := hid (ho11.keep _ _ _ (by decide) (by decide) H10.out)
          have HD11 := hid (HD10.out.others ho11)
          have HDE := delete_O w.heap.size tb (some U') _ key w11 HB11.out.size T11 (HW.out _ HB11.out).1 (by show U'.ents.length < 1000000000; omega)
          rw [HPD.out.1, HPD.out.2] at HDE
          clear T11 hb11 ho11 HB10 HT10 H10 HD10 hput
          go_wp2_with fail
          refine HDE.mono ?_
          clear HDE
          rintro e w12 ⟨rfl, T12, hb12, ho12, _⟩
          have HB12 := hid (HB11.out.trans hb12)
          have H12 := hid (ho12.keep _ _ _ (by decide) (by decide) H11.out)
          have HD12 := hid (HD11.out.others ho12)
          have HT12 := hid T12
          clear T12 hb12 ho12 HB11 H11 HD11 HPD
          have HR := roots_as (HT12.out.new (below_drewN _ w12 1)) (HW.out w12.drew HB12.out.drew).2.2 rfl HK.out
          have hS12 : w12.drew.rangeAt g 0 cs := range_of_row H12.out
          go_wp2_with fail
          go_region_held3 (fun w' => w'.rangeAt g 0 cs)
            (first | assumption)
            (first
              | (go_at_call 13; refine HR.mono ?_; clear HR; rintro e w13 ⟨rfl, hb13'⟩
                 have hb13 : Below w12.heap.size w12 w13 := (below_drewN _ w12 1).trans hb13'
                 have hS13 : w13.rangeAt g 0 cs := range_of_row (row_kept H12.out hb13)
                 have HAL := all_B w.heap.size tb U w13 (HT12.out.new hb13) hfew)
              | (go_at_call 15; refine HAL.mono ?_; clear HAL; rintro e w14 ⟨sv2, zs, rfl, D14, hzs, hb14⟩
                 have hb14' : Below w12.heap.size w12 w14 := hb13.trans (hb14.mono hb13.size)
                 have hS14 : w14.rangeAt g 0 cs := range_of_row (row_kept H12.out hb14')
                 obtain ⟨a2, c2, rfl, _⟩ := id D14.ents
                 have HSA := same_any _ _ _ _ zs ys w14 D14.ents (HD12.out.ents.new hb14') (by rw [hzs, HYS.out]))
              | (go_at_call 16; refine HSA.mono ?_; clear HSA; rintro e w15 ⟨rfl, q15, rfl⟩
                 have hS15 : (w14.drewN q15).rangeAt g 0 cs := hS14
                 have HB15 := hid ((HB12.out.trans (hb14'.mono HB12.out.size)).trans (below_drewN _ w14 q15))))
          go_wp2
          go_ret
          exact ⟨rfl, HB15.out⟩
        · have HPU := long_B tb _ _ key val w10 (HW.out _ HB10.out).1 (HW.out _ HB10.out).2.1 hsh
          have HR := roots_as (HT10.out.new (below_drewN _ w10 1)) (HW.out w10.drew HB10.out.drew).2.2 rfl HK.out
          have hS11 : w10.drew.rangeAt g 0 cs := range_of_row H10.out
          clear hlk hsh
          go_wp2_with (go_at_call 23; refine HPU.mono ?_; clear HPU; rintro e wq ⟨rfl, rfl⟩)
          go_region_held3 (fun w' => w'.rangeAt g 0 cs)
            (first | assumption)
            ((go_at_call 13; refine HR.mono ?_; clear HR; rintro e w11 ⟨rfl, hb11⟩
              have hS12 : w11.rangeAt g 0 cs := range_of_row ((hb11.block _ (Array.getElem?_eq_some_iff.1 H10.out).1).trans H10.out)
              have HB11 := hid (HB10.out.drew.trans (hb11.mono HB10.out.size))))
          go_wp2
          go_ret
          exact ⟨rfl, HB11.out⟩
end Go.Proofs.YthkeofinamedfaaDoor
