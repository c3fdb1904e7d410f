/- The walk of TrieForks. -/
import Derived.Test.YthkeofinamedfaaDoorForksP
namespace Go.Proofs.YthkeofinamedfaaDoor
open Go.RowKit
set_option linter.unusedVariables false
set_option maxRecDepth 20000
set_option linter.unusedSimpArgs false

set_option maxHeartbeats 8000000 in
theorem forks_any (ka va kb vb : Value) (k1 v1 k2 v2 : List UInt8) (w : World) (hk1 : Says w ka k1) (hv1 : Says w va v1) (hk2 : Says w kb k2) (hv2 : Says w vb v2) (ht : Tables w) :
    Calls Tryd.prog 7 #[.agg #[ka, va], .agg #[kb, vb]] w fun e w' => e = .returned (.bool true) ∧ Below w.heap.size w w' := by
  obtain ⟨a1, c1, rfl, _⟩ := id hk1
  obtain ⟨a2, c2, rfl, _⟩ := id hv1
  obtain ⟨a3, c3, rfl, _⟩ := id hk2
  obtain ⟨a4, c4, rfl, _⟩ := id hv2
  have hlt := ht.lt
  obtain ⟨x0, x1, hb2, hz2⟩ := alloc2 w (.cells #[.slice a1 k1.length c1, .slice a2 v1.length c2] 52) (.cells #[.slice a3 k2.length c3, .slice a4 v2.length c4] 52)
  -- what every world behind the boxes says
  obtain ⟨w2, hw2⟩ : ∃ w2, (w.alloc (.cells #[.slice a1 k1.length c1, .slice a2 v1.length c2] 52)).alloc (.cells #[.slice a3 k2.length c3, .slice a4 v2.length c4] 52) = w2 := ⟨_, rfl⟩
  rw [hw2] at x0 x1 hb2 hz2
  have FB : Hid (∀ W, Below w2.heap.size w2 W → Below w.heap.size w W ∧ Tables W ∧ Says W (.slice a1 k1.length c1) k1 ∧ Says W (.slice a2 v1.length c2) v1 ∧ Says W (.slice a3 k2.length c3) k2 ∧ Says W (.slice a4 v2.length c4) v2) := hid fun W hW => by
    have hwW : Below w.heap.size w W := hb2.trans (hW.mono (by omega))
    exact ⟨hwW, ht.below hwW (by omega), hk1.new hwW, hv1.new hwW, hk2.new hwW, hv2.new hwW⟩
  have FC : Hid (∀ W, Below w2.heap.size w2 W → W.cell? ⟨w.heap.size, 0, none⟩ = some (.slice a1 k1.length c1) ∧ W.cell? ⟨w.heap.size, 1, none⟩ = some (.slice a2 v1.length c2) ∧ W.cell? ⟨w.heap.size + 1, 0, none⟩ = some (.slice a3 k2.length c3) ∧ W.cell? ⟨w.heap.size + 1, 1, none⟩ = some (.slice a4 v2.length c4)) := hid fun W hW => by
    have y0 := row_kept x0 hW
    have y1 := row_kept x1 hW
    refine ⟨?_, ?_, ?_, ?_⟩
    · rw [cell_of_row _ _ _ _ _ _ y0]; rfl
    · rw [cell_of_row _ _ _ _ _ _ y0]; rfl
    · rw [cell_of_row _ _ _ _ _ _ y1]; rfl
    · rw [cell_of_row _ _ _ _ _ _ y1]; rfl
  have HB2 := hid (Below.refl w2.heap.size w2)
  have hz2' : w.heap.size + 2 ≤ w2.heap.size := by omega
  clear x0 x1 hb2 ht hk1 hv1 hk2 hv2 hz2
  go_enter Tryd.func7, Tryd.ntmps7
  go_wp2_with fail
  clear hw2
  refine (small_any w2 (FB.out w2 HB2.out).2.1).mono ?_
  rintro e w3 ⟨rfl, hb3⟩
  go_wp2_with fail
  refine (new_B w3).mono ?_
  rintro e w4 ⟨rfl, R4, hb4⟩
  have B4 := hb3.trans (hb4.mono hb3.size)
  have R4 := hid R4
  have HB4 := hid B4
  obtain ⟨tb, htb⟩ : ∃ tb, w3.heap.size = tb := ⟨_, rfl⟩
  have htb2 : w2.heap.size ≤ tb := by have := hb3.size; omega
  have htb4 : tb ≤ w4.heap.size := by have := hb4.size; omega
  rw [htb] at R4
  simp only [htb]
  clear hb3 hb4 B4 htb
  go_wp2_with fail
  have HOF := of_any 0 (⟨#[110, 111, 110, 101]⟩ : ByteArray) (.slice none 0 0) [] w4 (by decide) (Nat.zero_le _) ⟨none, 0, [], rfl, Nat.le_refl _, Nat.zero_le _, rfl, fun h => absurd rfl h, fun j u r hu => by simp at hu⟩ (fun l c e => by cases e; rfl) (by simp) (FB.out w4 HB4.out).2.1
  obtain ⟨c0, K0⟩ := cs_of noneS (ofS_length _ _)
  replace HOF : Calls Tryd.prog 27 #[.string ⟨#[110, 111, 110, 101]⟩, .slice none 0 0] w4 fun e w' => e = .returned (.tuple #[.agg c0.toArray, .int .i64 0]) ∧ Below w4.heap.size w4 w' := HOF.mono fun e w' ⟨he, hb⟩ => ⟨by rw [he, show (ofOf (⟨#[110, 111, 110, 101]⟩ : ByteArray).data.toList []).1 = 0 from of_ok _ _ (by decide) (by decide) (by simp), ← K0.sum]; rfl, hb⟩
  have HK0 := hid K0
  have hu := Tryd.underlying37
  have hi0 := K0.info
  have hq0 := K0.same
  clear K0
  refine HOF.mono ?_
  clear HOF
  rintro e w5 ⟨rfl, hb5⟩
  go_wp2_with (first
    | (refine wpList_store_row rfl 37 (.tmp 7) (.tmp 26) rfl w5.heap.size c0.toArray rfl rfl 37 zero32 (World.alloc_heap_new w5 _) HK0.out.isSum.info HK0.out.isSum.size HK0.out.isSum.one ?_
       generalize hw6 : World.setRow _ w5.heap.size c0.toArray = w6
       have H6 : Hid (w6.heap[w5.heap.size]? = some (.cells c0.toArray 37 (0, 0))) := hid (by rw [← hw6]; exact (fresh_row w5 _).1)
       have HB6 : Hid (Below w4.heap.size w4 w6) := hid (by rw [← hw6]; exact hb5.trans ((fresh_row w5 _).2.1.mono hb5.size))
       clear hw6 hb5))
  -- the root of none
  have B6 : Below w2.heap.size w2 w6.drew := (HB4.out.trans (HB6.out.mono HB4.out.size)).drew
  have T6 : TreeB tb w6.drew tb none := (R4.out.new HB6.out).new (below_drewN _ _ 1)
  have HR6 := roots_as T6 (FB.out _ B6).2.1 rfl HK0.out
  have hS6 : w6.drew.rangeAt w5.heap.size 0 c0 := range_of_row H6.out
  have HT6 := hid T6
  have HB6' := hid B6
  clear T6 B6
  go_region_held3 (fun w' => w'.rangeAt w5.heap.size 0 c0)
    (first | assumption)
    ((go_at_call 13; refine HR6.mono ?_; clear HR6; rintro e w7 ⟨rfl, hb7⟩
      have hS7 : w7.rangeAt w5.heap.size 0 c0 := range_of_row ((hb7.block _ (Array.getElem?_eq_some_iff.1 H6.out).1).trans H6.out)))
  have B7 : Below w2.heap.size w2 w7 := HB6'.out.trans (hb7.mono HB6'.out.size)
  have T7 := HT6.out.new hb7
  have htb7 : tb ≤ w7.heap.size := by have h1 := HB6.out.size; have h2 : w6.heap.size ≤ w7.heap.size := hb7.size; omega
  obtain ⟨bW7, tW7, s1, s2, s3, s4⟩ := FB.out w7 B7
  obtain ⟨q1, q2, q3, q4⟩ := FC.out w7 B7
  by_cases hs1 : Tri.short (k1, v1)
  · have HP1 := put_B tb tb none _ _ k1 v1 w7 htb7 T7 s1 s2 hs1 (by decide)
    have HB7 := hid B7
    clear B7 T7 bW7 tW7 s1 s2 s3 s4 hb7 HT6 HB6' H6 HB6 HB4 R4 hS6 hS7 hq0 hi0
    go_wp2_with fail
    refine HP1.mono ?_
    clear HP1
    rintro e w8 ⟨rfl, T8, hb8, _⟩
    have B8 : Below w2.heap.size w2 w8 := HB7.out.trans (hb8.mono htb2)
    have htb8 : tb ≤ w8.heap.size := by have := hb8.size; omega
    obtain ⟨bW8, tW8, s1, s2, s3, s4⟩ := FB.out w8 B8
    obtain ⟨q1, q2, q3, q4⟩ := FC.out w8 B8
    have m1 := run_string_shows (P := Tryd.prog) 28 5 9 Tryd.underlying28 Tryd.underlying5 Tryd.underlying9 s1
    have m2 := run_string_shows (P := Tryd.prog) 28 5 9 Tryd.underlying28 Tryd.underlying5 Tryd.underlying9 s3
    have HT8 := hid T8
    have HB8 := hid B8
    have HW8 := hid bW8
    clear T8 B8 hb8 tW8 s1 s2 s3 s4 bW8
    by_cases hkk : k1 = k2
    · have he : str8 k1 = str8 k2 := by rw [hkk]
      rw [he] at m1
      clear he hkk
      go_wp2
      go_ret
      exact ⟨rfl, HW8.out⟩
    · have hne : ¬ (str8 k1).toList = (str8 k2).toList := by rw [str8_toList, str8_toList]; exact hkk
      have HKK := hid hkk
      clear hkk
      generalize str8 k1 = S1 at *
      generalize str8 k2 = S2 at *
      have hne1 : (S1.toList == S2.toList) = false := by simpa using hne
      have hne2 : decide (S1.toList = S2.toList) = false := by simpa using hne
      go_wp2_with fail
      clear hne hne1 hne2 m1 m2
      obtain ⟨d1, K1⟩ := cs_of (leafS (k1, v1)) (ofS_length _ _)
      have hi1 := K1.info
      have hq1 := K1.same
      have HK1 := hid K1
      clear K1
      obtain ⟨_, tW8, s1, s2, s3, s4⟩ := FB.out w8 HB8.out
      have HOF := ofLeaf w8 _ _ k1 v1 d1 s1 s2 hs1 tW8 HK1.out
      clear s1 s2 s3 s4 tW8
      refine HOF.mono ?_
      clear HOF
      rintro e w9 ⟨rfl, hb9⟩
      go_wp2_with (first
        | (refine wpList_store_row rfl 37 (.tmp 9) (.tmp 59) rfl w9.heap.size d1.toArray rfl rfl 37 zero32 (World.alloc_heap_new w9 _) HK1.out.isSum.info HK1.out.isSum.size HK1.out.isSum.one ?_
           generalize hw10 : World.setRow _ w9.heap.size d1.toArray = w10
           have H10 : Hid (w10.heap[w9.heap.size]? = some (.cells d1.toArray 37 (0, 0))) := hid (by rw [← hw10]; exact (fresh_row w9 _).1)
           have HB10 : Hid (Below w8.heap.size w8 w10) := hid (by rw [← hw10]; exact hb9.trans ((fresh_row w9 _).2.1.mono hb9.size))
           clear hw10))
      obtain ⟨g1, hg1⟩ : ∃ g1, w9.heap.size = g1 := ⟨_, rfl⟩
      have hg1tb : tb ≤ g1 := by have := hb9.size; omega
      rw [hg1] at H10
      simp only [hg1]
      clear hg1 hb9
      have B10 : Below w2.heap.size w2 w10.drew := (HB8.out.trans (HB10.out.mono HB8.out.size)).drew
      have T10 : TreeB tb w10.drew tb (some (.leaf k1 v1)) := (HT8.out.new HB10.out).new (below_drewN _ _ 1)
      have HR10 := roots_as T10 (FB.out _ B10).2.1 rfl HK1.out
      have hS10 : w10.drew.rangeAt g1 0 d1 := range_of_row H10.out
      have HT10 := hid T10
      have HB10' := hid B10
      clear T10 B10 HB8 HT8
      go_region_held3 (fun w' => w'.rangeAt g1 0 d1)
        (first | assumption)
        ((go_at_call 13; refine HR10.mono ?_; clear HR10; rintro e w11 ⟨rfl, hb11⟩
          have hS11 : w11.rangeAt g1 0 d1 := range_of_row ((hb11.block _ (Array.getElem?_eq_some_iff.1 H10.out).1).trans H10.out)))
      have B11 : Below w2.heap.size w2 w11 := HB10'.out.trans (hb11.mono HB10'.out.size)
      have T11 := HT10.out.new hb11
      have H11 := hid ((hb11.block _ (Array.getElem?_eq_some_iff.1 H10.out).1).trans H10.out)
      have htb11 : tb ≤ w11.heap.size := by have h1 := HB10.out.size; have h2 : w10.heap.size ≤ w11.heap.size := hb11.size; omega
      obtain ⟨bW11, tW11, s1, s2, s3, s4⟩ := FB.out w11 B11
      obtain ⟨q1, q2, q3, q4⟩ := FC.out w11 B11
      clear hb11 HT10 HB10' H10 HB10 HB7 HW8 hS10 hS11
      by_cases hs2 : Tri.short (k2, v2)
      · have HP2 := put_K tb tb _ _ _ k2 v2 w11 htb11 T11 s3 s4 hs2 (by show 1 < 1000000000; decide)
        have HB11 := hid B11
        clear B11 T11 tW11 s1 s2 s3 s4 bW11
        go_wp2_with fail
        refine HP2.mono ?_
        clear HP2
        rintro e w12 ⟨rfl, T12, hb12, hkeep⟩
        have H12 := hid (hkeep _ _ _ (by decide) (by decide) H11.out)
        have B12 : Below w2.heap.size w2 w12 := HB11.out.trans (hb12.mono htb2)
        have htb12 : tb ≤ w12.heap.size := by have := hb12.size; omega
        obtain ⟨bW12, tW12, s1, s2, s3, s4⟩ := FB.out w12 B12
        obtain ⟨q1, q2, q3, q4⟩ := FC.out w12 B12
        have HT12 := hid T12
        have HB12 := hid B12
        obtain ⟨d2, K2⟩ := cs_of (leafS (k2, v2)) (ofS_length _ _)
        have HK2 := hid K2
        have HOF := ofLeaf w12 _ _ k2 v2 d2 s3 s4 hs2 tW12 HK2.out
        clear K2 T12 hb12 hkeep H11 HB11 B12 bW12 tW12 s1 s2 s3 s4
        go_wp2_with fail
        refine HOF.mono ?_
        clear HOF
        rintro e w13 ⟨rfl, hb13⟩
        go_wp2_with (first
          | (refine wpList_store_row rfl 37 (.tmp 10) (.tmp 87) rfl w13.heap.size d2.toArray rfl rfl 37 zero32 (World.alloc_heap_new w13 _) HK2.out.isSum.info HK2.out.isSum.size HK2.out.isSum.one ?_
             generalize hw14 : World.setRow _ w13.heap.size d2.toArray = w14
             have H14 : Hid (w14.heap[w13.heap.size]? = some (.cells d2.toArray 37 (0, 0))) := hid (by rw [← hw14]; exact (fresh_row w13 _).1)
             have HB14 : Hid (Below w12.heap.size w12 w14) := hid (by rw [← hw14]; exact hb13.trans ((fresh_row w13 _).2.1.mono hb13.size))
             clear hw14))
        obtain ⟨g2, hg2⟩ : ∃ g2, w13.heap.size = g2 := ⟨_, rfl⟩
        rw [hg2] at H14
        simp only [hg2]
        have hg12 : g1 ≠ g2 := by have := (Array.getElem?_eq_some_iff.1 H12.out).1; have := hb13.size; omega
        clear hg2 hb13
        have H14a := hid (row_kept H12.out HB14.out)
        have B14 : Below w2.heap.size w2 w14 := HB12.out.trans (HB14.out.mono HB12.out.size)
        have HT14 := hid (HT12.out.new HB14.out)
        obtain ⟨_, _, s1, _, s3, _⟩ := FB.out w14 B14
        obtain ⟨q1, q2, q3, q4⟩ := FC.out w14 B14
        have HB14' := hid B14
        have htb14 : tb ≤ w14.heap.size := by have := HB14.out.size; omega
        clear B14 H12 HB12 HT12 HB14
        have HP := hid (fu_pre k1 k2)
        have HU := hid (fu_at k1 k2 HKK.out).1
        have HRT := hid (root_two k1 v1 k2 v2 HKK.out)
        have hp : fu k1 k2 < 1080 := by
          have h1 := hs1.1
          have h2 := hs2.1
          simp at h1 h2
          rcases fu_lt k1 k2 HKK.out with h | h <;> omega
        generalize fu k1 k2 = p at *
        go_loopw [11] (fun i wr => ∃ k : Nat, k ≤ p ∧ i = .int .i64 k ∧ Hid (∃ m, wr = w14.drewN m)) (fun i _ => p - (intOf i).toNat)
        case atStart => exact ⟨0, Nat.zero_le _, rfl, ⟨0, rfl⟩⟩
        case round =>
          obtain ⟨k, hk, rfl, HM⟩ := hrel
          have sw : Says wr (.slice a1 k1.length c1) k1 ∧ Says wr (.slice a3 k2.length c3) k2 ∧ wr.cell? ⟨w.heap.size, 0, none⟩ = some (.slice a1 k1.length c1) ∧ wr.cell? ⟨w.heap.size + 1, 0, none⟩ = some (.slice a3 k2.length c3) := by
            obtain ⟨m, rfl⟩ := HM.out
            exact ⟨s1.new (below_drewN _ _ m), s3.new (below_drewN _ _ m), q1, q3⟩
          have HM2 : Hid (∀ j, ∃ m, wr.drewN j = w14.drewN m) := hid (fun j => by obtain ⟨m, hm⟩ := HM.out; exact ⟨m + j, by rw [hm, World.drewN_drewN]⟩)
          obtain ⟨sw1, sw3, r1, r3⟩ := sw
          have t1 : Bv wr k (.slice a1 k1.length c1) (bit k1 k) := ⟨_, sw1, rfl⟩
          have t2 : Bv wr k (.slice a3 k2.length c3) (bit k2 k) := ⟨_, sw3, rfl⟩
          have hk9 : k < 1081 := by omega
          have hk8 : (k : Int) < 1080 := by omega
          have dk : decide ((k : Int) < 1080) = true := by simpa using hk8
          clear q1 q2 q3 q4 s1 s3 sw1 sw3 HM
          by_cases hlt' : k < p
          · have he := HP.out k hlt'
            rw [he] at t1
            have HX := hid hlt'
            clear he hlt' HU HRT HP
            generalize bit k2 k = bv at *
            go_wp2_with fail
            go_quiet ((go_at_call 20; exact Calls.quiet_of_same (bv_any (by assumption) hk9 _)))
            go_wp2
            go_roundw
            case rel => exact ⟨k + 1, HX.out, by go_num, HM2.out nq⟩
            case measure => have := HX.out; simp [intOf]; omega
          · have hkp : k = p := by omega
            subst hkp
            have hne := HU.out
            clear HU hlt' HP
            have hbn : bit k2 k = !bit k1 k := by
              cases h1 : bit k1 k <;> cases h2 : bit k2 k <;> simp [h1, h2] at hne ⊢
            rw [hbn] at t2
            cases hbv : bit k1 k with
            | true =>
              simp only [hbv, Bool.not_true] at t1 t2 hbn
              have HRT2 := HRT.out
              simp only [hbv, Bool.false_eq_true, if_true, if_false] at HRT2
              have HRT3 := hid HRT2
              clear HRT2 HRT
              go_wp2_with fail
              go_quiet ((go_at_call 20; exact Calls.quiet_of_same (bv_any (by assumption) hk9 _)))
              obtain ⟨mm, hmm⟩ := HM2.out nq
              rw [hmm]
              have HR1 : Hid (∀ W', Below (w14.drewN mm).heap.size (w14.drewN mm) W' → W'.heap[g1]? = some (.cells d1.toArray 37 (0, 0))) := hid fun W' h => row_kept (w := w14.drewN mm) H14a.out h
              have HR2 : Hid (∀ W', Below (w14.drewN mm).heap.size (w14.drewN mm) W' → W'.heap[g2]? = some (.cells d2.toArray 37 (0, 0))) := hid fun W' h => row_kept (w := w14.drewN mm) H14.out h
              have HTq : Hid (TreeB tb (w14.drewN mm) tb _) := hid (HT14.out.new (below_drewN _ _ mm))
              have HBq : Hid (Below w2.heap.size w2 (w14.drewN mm)) := hid (HB14'.out.trans (below_drewN _ _ mm))
              have htq : tb ≤ (w14.drewN mm).heap.size := htb14
              clear H14 H14a HT14 HB14' htb14 HM2 hmm r1 r3 t1 t2
              generalize w14.drewN mm = W at *
              have bW : Below W.heap.size W W := Below.refl _ _
              have HZ12 : Hid (d1.toArray.size = d2.toArray.size) := hid (by simp [HK1.out.length, HK2.out.length])
              have HZ21 : Hid (d2.toArray.size = d1.toArray.size) := hid (by simp [HK1.out.length, HK2.out.length])
              go_wp2_with (first
                | (refine wpList_load_row rfl 37 (.tmp 9) rfl g1 rfl 37 d1.toArray (0, 0) _ (HR1.out _ (by assumption)) Tryd.underlying37 rfl HK1.out.isSum.info ?_)
                | (refine wpList_load_row rfl 37 (.tmp 10) rfl g2 rfl 37 d2.toArray (0, 0) _ (HR2.out _ (by assumption)) Tryd.underlying37 rfl HK2.out.isSum.info ?_)
                | (refine wpList_store_row rfl 37 (.tmp 12) (.tmp 104) rfl W.heap.size d1.toArray rfl rfl 37 zero32 (World.alloc_heap_new W _) HK1.out.isSum.info HK1.out.isSum.size HK1.out.isSum.one ?_
                   generalize hwA : World.setRow _ W.heap.size d1.toArray = wA
                   have HA3 : Hid (wA.heap[W.heap.size]? = some (.cells d1.toArray 37 (0, 0))) := hid (by rw [← hwA]; exact (fresh_row W _).1)
                   have bA : Below W.heap.size W wA := by rw [← hwA]; exact (fresh_row W _).2.1
                   have hzA : W.heap.size < wA.heap.size := block_lt HA3.out
                   clear hwA)
                | (refine wpList_store_row rfl 37 (.tmp 13) (.tmp 105) rfl wA.heap.size d2.toArray rfl rfl 37 zero32 (World.alloc_heap_new wA _) HK2.out.isSum.info HK2.out.isSum.size HK2.out.isSum.one ?_
                   generalize hwB : World.setRow _ wA.heap.size d2.toArray = wB
                   have HB4 : Hid (wB.heap[wA.heap.size]? = some (.cells d2.toArray 37 (0, 0))) := hid (by rw [← hwB]; exact (fresh_row wA _).1)
                   have bAB : Below wA.heap.size wA wB := by rw [← hwB]; exact (fresh_row wA _).2.1
                   have bB : Below W.heap.size W wB := bA.trans (bAB.mono bA.size)
                   have HB3 := hid (row_kept HA3.out bAB)
                   have qB := FC.out wB (HBq.out.trans (bB.mono HBq.out.size))
                   have tB : Bv wB k (.slice a1 k1.length c1) true := ⟨_, (FB.out wB (HBq.out.trans (bB.mono HBq.out.size))).2.2.1, hbv⟩
                   clear hwB bAB)
                | (go_at_call 20; refine (bv_any tB hk9 0).mono ?_; rintro e w' ⟨rfl, rfl⟩)
                | (refine wpList_store_row rfl 37 (.tmp 12) (.tmp 110) rfl W.heap.size d2.toArray rfl rfl 37 d1.toArray HB3.out HK2.out.isSum.info HZ12.out HK2.out.isSum.one ?_
                   generalize hwC : World.setRow _ W.heap.size d2.toArray = wC
                   have HC3 : Hid (wC.heap[W.heap.size]? = some (.cells d2.toArray 37 (0, 0))) := hid (by rw [← hwC]; exact setRow_heap _ _ _ _ _ _ HB3.out)
                   have HC4 : Hid (wC.heap[wA.heap.size]? = some (.cells d2.toArray 37 (0, 0))) := hid (by rw [← hwC, setRow_other _ _ _ _ (by omega)]; exact HB4.out)
                   have bC : Below W.heap.size W wC := by rw [← hwC]; exact below_setRow bB (Nat.le_refl _) _
                   clear hwC)
                | (refine wpList_store_row rfl 37 (.tmp 13) (.tmp 111) rfl wA.heap.size d1.toArray rfl rfl 37 d2.toArray HC4.out HK1.out.isSum.info HZ21.out HK1.out.isSum.one ?_
                   generalize hwD : World.setRow _ wA.heap.size d1.toArray = wD
                   have HD4 : Hid (wD.heap[wA.heap.size]? = some (.cells d1.toArray 37 (0, 0))) := hid (by rw [← hwD]; exact setRow_heap _ _ _ _ _ _ HC4.out)
                   have HD3 : Hid (wD.heap[W.heap.size]? = some (.cells d2.toArray 37 (0, 0))) := hid (by rw [← hwD, setRow_other _ _ _ _ (by omega)]; exact HC3.out)
                   have bD : Below W.heap.size W wD := by rw [← hwD]; exact below_setRow bC (by omega) _
                   clear hwD))
              have HB0 : Hid (Below w2.heap.size w2 wD) := hid (HBq.out.trans (bD.mono HBq.out.size))
              have HT0 := hid (HTq.out.new bD)
              have H3 := HD3
              have H4 := HD4
              generalize wA.heap.size = g4 at *
              generalize W.heap.size = g3 at *
              obtain ⟨cs, Kf⟩ := cs_of (forkS k (leafS (k2, v2)) (leafS (k1, v1))) (ofS_length _ _)
              have hIf := Kf.info
              have h1 := Kf.one
              have hqf := Kf.same
              have HKf := hid Kf
              have HL := hid Kf.length
              clear Kf
              clear HA3 HB3 HB4 HC3 HC4 HD3 HD4 bA bB bC bD HR1 HR2 HTq HBq bW hzA HZ12 HZ21 qB tB hq1 hi1 hbn hne
              generalize wD = W0 at *
              have HOF : Hid (∀ (X : World) (g : Nat) (vn : Value), Below W0.heap.size W0 X → X.heap[g]? = some (.cells #[vn, .slice (some ⟨g3, 0, none⟩) 32 32, .slice (some ⟨g4, 0, none⟩) 32 32] 28 (0, 0)) → Says X vn (be (u64of k) 8) →
                  Calls Tryd.prog 27 #[.string ⟨#[102, 111, 114, 107]⟩, .slice (some ⟨g, 0, none⟩) 3 3] X fun e w' => e = .returned (.tuple #[.agg cs.toArray, .int .i64 0]) ∧ Below X.heap.size X w') := hid (fun X g vn hb hg hv =>
                ofFork X g g3 g4 vn k _ _ _ _ cs HK2.out HK1.out HKf.out hg (row_kept H3.out hb) (row_kept H4.out hb) hv (FB.out X (HB0.out.trans (hb.mono HB0.out.size))).2.1)
              obtain ⟨B, hBz⟩ : ∃ B, W0.heap.size = B := ⟨_, rfl⟩
              rw [hBz] at HOF
              have hb3 : Below B W0 W0.drew := (Below.refl _ _).drew
              have hz3 : B ≤ W0.heap.size := by omega
              have hz3' : W0.heap.size ≤ B := by omega
              have HTH : Hid (∀ (W : World) (g : Nat), W.heap[g]? = some (.cells zero32 37 (0, 0)) → W.there g 0 cs.length) := hid (fun W g hg j hj => by
                rw [HL.out] at hj
                have : zero32[j]? = some (.int .u8 0) := by rw [zero32, List.getElem?_toArray, List.getElem?_replicate, if_pos hj]
                exact ⟨by rw [Nat.zero_add, cell_of_row _ _ _ _ _ _ hg, this]; rfl, by simp [World.frozen?, hg]⟩)
              clear hBz
              go_region_held3 (fun w' => Below B W0 w')
                (first | assumption | exact Below.alloc (by assumption) (by first | omega | (simp; omega)) _ | exact below_setCells_w3 (by assumption) (by omega) _ _)
                (first
                  | (go_at_call 28; refine (num_any _ _).mono ?_; rintro e wn ⟨vn, rfl, hon, hbn⟩
                     obtain ⟨an, cn, rfl⟩ := row_form hon
                     have hsay : Says wn (.slice an 8 cn) (be (u64of k) 8) := (shows_of_owns hon).2
                     have hzn : W0.heap.size ≤ wn.heap.size := by have := hbn.size; simp at this; omega
                     have hSn : Below B W0 wn := (fun h => Below.trans h (hbn.mono (by simp; omega))) (by assumption)
                     first
                       | (have hA : wn.heap[W0.heap.size]? = some (.cells zero32 37 (0, 0)) := (hbn.block _ (by show _ < (W0.alloc _).heap.size; rw [World.size_alloc]; exact Nat.lt_succ_self _)).trans (World.alloc_heap_new W0.drew _); have hzA : W0.heap.size < wn.heap.size := (Array.getElem?_eq_some_iff.1 hA).1)
                       | skip
                     have HON := hid hsay
                     clear hon hbn hsay)
                  | (go_at_call 27; refine (HOF.out _ _ _ (by assumption) (by first | exact World.alloc_heap_new _ _ | exact (Below.heap_alloc _ _ _ (by rw [World.size_alloc]; exact Nat.lt_succ_self _)).trans (World.alloc_heap_new wn _) | exact alloc_second wn _ _) (by first | exact HON.out.new ((Below.refl _ _).alloc (Nat.le_refl _) _) | exact (HON.out.new ((Below.refl _ _).alloc (Nat.le_refl _) _)).new ((Below.refl _ _).alloc (Nat.le_refl _) _))).mono ?_
                     rintro e wo ⟨rfl, hbo⟩
                     have hzo : wn.heap.size < wo.heap.size := by have := hbo.size; simp at this; omega
                     have hSo : Below B W0 wo := (fun h => Below.trans h (hbo.mono (by simp; omega))) (by assumption)
                     have hthD : (wo.alloc (.cells zero32 37)).there wo.heap.size 0 cs.length := HTH.out _ _ (World.alloc_heap_new wo _)
                     first
                       | (have hth : wo.there W0.heap.size 0 cs.length := HTH.out _ _ ((hbo.block _ (by rw [World.size_alloc]; omega)).trans ((Below.heap_alloc _ _ _ (by omega)).trans hA)))
                       | (have hth : wo.there wn.heap.size 0 cs.length := HTH.out _ _ ((hbo.block _ (by rw [World.size_alloc, World.size_alloc]; omega)).trans ((Below.heap_alloc _ _ _ (by rw [World.size_alloc]; omega)).trans (World.alloc_heap_new wn (.cells zero32 37)))))
                       | (have hth : wo.there (wn.heap.size + 1) 0 cs.length := HTH.out _ _ ((hbo.block _ (by rw [World.size_alloc, World.size_alloc]; omega)).trans (by have := World.alloc_heap_new (wn.alloc (.cells #[.slice an 8 cn, .slice (some ⟨g3, 0, none⟩) 32 32, .slice (some ⟨g4, 0, none⟩) 32 32] 28)) (.cells zero32 37); rw [World.size_alloc] at this; exact this)))
                       | skip
                     clear hbo))
              all_goals
                refine fork_end (Q := Exit.then _ _ Exit.normal _) (by assumption) (by first | assumption | exact Below.alloc (by assumption) (by omega) _) (by omega) ?_
                intro we hr hbe
                have HBE := hid (HB0.out.trans (hbe.mono (by have := HB0.out.size; omega)))
                have HTE := hid (HT0.out.new (hbe.mono hz3'))
                have HRE := hid hr
                clear hr hbe
                first
                  | (have hr' : we.rangeAt wo.heap.size 0 cs := HRE.out
                     generalize wo.heap.size = G at *)
                  | (have hr' : we.rangeAt (wn.heap.size + 1) 0 cs := HRE.out
                     generalize wn.heap.size + 1 = G at *)
                  | (have hr' : we.rangeAt wn.heap.size 0 cs := HRE.out
                     generalize wn.heap.size = G at *)
                  | (have hr' : we.rangeAt W0.heap.size 0 cs := HRE.out
                     generalize W0.heap.size = G at *)
                have hSe : we.drew.rangeAt G 0 cs := hr'
                have BE : Below w2.heap.size w2 we.drew := HBE.out.drew
                have TE := HTE.out.new (below_drewN _ we 1)
                have HRF := roots_as TE (FB.out _ BE).2.1 HRT3.out.1 HKf.out
                have HTE' := hid TE
                have HBE' := hid BE
                clear TE BE HTE HBE HRE hr' HTH HOF
                go_wp2_with fail
                go_region_held3 (fun w' => w'.rangeAt G 0 cs)
                  (first | assumption)
                  (first
                    | (go_at_call 13; refine HRF.mono ?_; clear HRF; rintro e wf ⟨rfl, hbf⟩
                       have hSf : wf.rangeAt G 0 cs := rangeK hSe hbf
                       have HCF := count_B tb tb _ wf (HTE'.out.new hbf)
                       rw [HRT3.out.2] at HCF
                       have HWF := hid (FB.out wf (HBE'.out.trans (hbf.mono HBE'.out.size))).1)
                    | (go_at_call 12; refine HCF.mono ?_; clear HCF; rintro e wf ⟨rfl, rfl⟩))
                go_wp2
                go_ret
                exact ⟨rfl, HWF.out⟩
            | false =>
              simp only [hbv, Bool.not_false] at t1 t2 hbn
              have HRT2 := HRT.out
              simp only [hbv, Bool.false_eq_true, if_true, if_false] at HRT2
              have HRT3 := hid HRT2
              clear HRT2 HRT
              go_wp2_with fail
              go_quiet ((go_at_call 20; exact Calls.quiet_of_same (bv_any (by assumption) hk9 _)))
              obtain ⟨mm, hmm⟩ := HM2.out nq
              rw [hmm]
              have HR1 : Hid (∀ W', Below (w14.drewN mm).heap.size (w14.drewN mm) W' → W'.heap[g1]? = some (.cells d1.toArray 37 (0, 0))) := hid fun W' h => row_kept (w := w14.drewN mm) H14a.out h
              have HR2 : Hid (∀ W', Below (w14.drewN mm).heap.size (w14.drewN mm) W' → W'.heap[g2]? = some (.cells d2.toArray 37 (0, 0))) := hid fun W' h => row_kept (w := w14.drewN mm) H14.out h
              have HTq : Hid (TreeB tb (w14.drewN mm) tb _) := hid (HT14.out.new (below_drewN _ _ mm))
              have HBq : Hid (Below w2.heap.size w2 (w14.drewN mm)) := hid (HB14'.out.trans (below_drewN _ _ mm))
              have htq : tb ≤ (w14.drewN mm).heap.size := htb14
              clear H14 H14a HT14 HB14' htb14 HM2 hmm r1 r3 t1 t2
              generalize w14.drewN mm = W at *
              have bW : Below W.heap.size W W := Below.refl _ _
              have HZ12 : Hid (d1.toArray.size = d2.toArray.size) := hid (by simp [HK1.out.length, HK2.out.length])
              have HZ21 : Hid (d2.toArray.size = d1.toArray.size) := hid (by simp [HK1.out.length, HK2.out.length])
              go_wp2_with (first
                | (refine wpList_load_row rfl 37 (.tmp 9) rfl g1 rfl 37 d1.toArray (0, 0) _ (HR1.out _ (by assumption)) Tryd.underlying37 rfl HK1.out.isSum.info ?_)
                | (refine wpList_load_row rfl 37 (.tmp 10) rfl g2 rfl 37 d2.toArray (0, 0) _ (HR2.out _ (by assumption)) Tryd.underlying37 rfl HK2.out.isSum.info ?_)
                | (refine wpList_store_row rfl 37 (.tmp 12) (.tmp 104) rfl W.heap.size d1.toArray rfl rfl 37 zero32 (World.alloc_heap_new W _) HK1.out.isSum.info HK1.out.isSum.size HK1.out.isSum.one ?_
                   generalize hwA : World.setRow _ W.heap.size d1.toArray = wA
                   have HA3 : Hid (wA.heap[W.heap.size]? = some (.cells d1.toArray 37 (0, 0))) := hid (by rw [← hwA]; exact (fresh_row W _).1)
                   have bA : Below W.heap.size W wA := by rw [← hwA]; exact (fresh_row W _).2.1
                   have hzA : W.heap.size < wA.heap.size := block_lt HA3.out
                   clear hwA)
                | (refine wpList_store_row rfl 37 (.tmp 13) (.tmp 105) rfl wA.heap.size d2.toArray rfl rfl 37 zero32 (World.alloc_heap_new wA _) HK2.out.isSum.info HK2.out.isSum.size HK2.out.isSum.one ?_
                   generalize hwB : World.setRow _ wA.heap.size d2.toArray = wB
                   have HB4 : Hid (wB.heap[wA.heap.size]? = some (.cells d2.toArray 37 (0, 0))) := hid (by rw [← hwB]; exact (fresh_row wA _).1)
                   have bAB : Below wA.heap.size wA wB := by rw [← hwB]; exact (fresh_row wA _).2.1
                   have bB : Below W.heap.size W wB := bA.trans (bAB.mono bA.size)
                   have HB3 := hid (row_kept HA3.out bAB)
                   have qB := FC.out wB (HBq.out.trans (bB.mono HBq.out.size))
                   have tB : Bv wB k (.slice a1 k1.length c1) false := ⟨_, (FB.out wB (HBq.out.trans (bB.mono HBq.out.size))).2.2.1, hbv⟩
                   clear hwB bAB)
                | (go_at_call 20; refine (bv_any tB hk9 0).mono ?_; rintro e w' ⟨rfl, rfl⟩))
              have HB0 : Hid (Below w2.heap.size w2 wB) := hid (HBq.out.trans (bB.mono HBq.out.size))
              have HT0 := hid (HTq.out.new bB)
              have H3 := HB3
              have H4 := HB4
              generalize wA.heap.size = g4 at *
              generalize W.heap.size = g3 at *
              obtain ⟨cs, Kf⟩ := cs_of (forkS k (leafS (k1, v1)) (leafS (k2, v2))) (ofS_length _ _)
              have hIf := Kf.info
              have h1 := Kf.one
              have hqf := Kf.same
              have HKf := hid Kf
              have HL := hid Kf.length
              clear Kf
              clear HA3 HB3 HB4 bA bB HR1 HR2 HTq HBq bW hzA HZ12 HZ21 qB tB hq1 hi1 hbn hne
              generalize wB = W0 at *
              have HOF : Hid (∀ (X : World) (g : Nat) (vn : Value), Below W0.heap.size W0 X → X.heap[g]? = some (.cells #[vn, .slice (some ⟨g3, 0, none⟩) 32 32, .slice (some ⟨g4, 0, none⟩) 32 32] 28 (0, 0)) → Says X vn (be (u64of k) 8) →
                  Calls Tryd.prog 27 #[.string ⟨#[102, 111, 114, 107]⟩, .slice (some ⟨g, 0, none⟩) 3 3] X fun e w' => e = .returned (.tuple #[.agg cs.toArray, .int .i64 0]) ∧ Below X.heap.size X w') := hid (fun X g vn hb hg hv =>
                ofFork X g g3 g4 vn k _ _ _ _ cs HK1.out HK2.out HKf.out hg (row_kept H3.out hb) (row_kept H4.out hb) hv (FB.out X (HB0.out.trans (hb.mono HB0.out.size))).2.1)
              obtain ⟨B, hBz⟩ : ∃ B, W0.heap.size = B := ⟨_, rfl⟩
              rw [hBz] at HOF
              have hb3 : Below B W0 W0.drew := (Below.refl _ _).drew
              have hz3 : B ≤ W0.heap.size := by omega
              have hz3' : W0.heap.size ≤ B := by omega
              have HTH : Hid (∀ (W : World) (g : Nat), W.heap[g]? = some (.cells zero32 37 (0, 0)) → W.there g 0 cs.length) := hid (fun W g hg j hj => by
                rw [HL.out] at hj
                have : zero32[j]? = some (.int .u8 0) := by rw [zero32, List.getElem?_toArray, List.getElem?_replicate, if_pos hj]
                exact ⟨by rw [Nat.zero_add, cell_of_row _ _ _ _ _ _ hg, this]; rfl, by simp [World.frozen?, hg]⟩)
              clear hBz
              go_region_held3 (fun w' => Below B W0 w')
                (first | assumption | exact Below.alloc (by assumption) (by first | omega | (simp; omega)) _ | exact below_setCells_w3 (by assumption) (by omega) _ _)
                (first
                  | (go_at_call 28; refine (num_any _ _).mono ?_; rintro e wn ⟨vn, rfl, hon, hbn⟩
                     obtain ⟨an, cn, rfl⟩ := row_form hon
                     have hsay : Says wn (.slice an 8 cn) (be (u64of k) 8) := (shows_of_owns hon).2
                     have hzn : W0.heap.size ≤ wn.heap.size := by have := hbn.size; simp at this; omega
                     have hSn : Below B W0 wn := (fun h => Below.trans h (hbn.mono (by simp; omega))) (by assumption)
                     first
                       | (have hA : wn.heap[W0.heap.size]? = some (.cells zero32 37 (0, 0)) := (hbn.block _ (by show _ < (W0.alloc _).heap.size; rw [World.size_alloc]; exact Nat.lt_succ_self _)).trans (World.alloc_heap_new W0.drew _); have hzA : W0.heap.size < wn.heap.size := (Array.getElem?_eq_some_iff.1 hA).1)
                       | skip
                     have HON := hid hsay
                     clear hon hbn hsay)
                  | (go_at_call 27; refine (HOF.out _ _ _ (by assumption) (by first | exact World.alloc_heap_new _ _ | exact (Below.heap_alloc _ _ _ (by rw [World.size_alloc]; exact Nat.lt_succ_self _)).trans (World.alloc_heap_new wn _) | exact alloc_second wn _ _) (by first | exact HON.out.new ((Below.refl _ _).alloc (Nat.le_refl _) _) | exact (HON.out.new ((Below.refl _ _).alloc (Nat.le_refl _) _)).new ((Below.refl _ _).alloc (Nat.le_refl _) _))).mono ?_
                     rintro e wo ⟨rfl, hbo⟩
                     have hzo : wn.heap.size < wo.heap.size := by have := hbo.size; simp at this; omega
                     have hSo : Below B W0 wo := (fun h => Below.trans h (hbo.mono (by simp; omega))) (by assumption)
                     have hthD : (wo.alloc (.cells zero32 37)).there wo.heap.size 0 cs.length := HTH.out _ _ (World.alloc_heap_new wo _)
                     first
                       | (have hth : wo.there W0.heap.size 0 cs.length := HTH.out _ _ ((hbo.block _ (by rw [World.size_alloc]; omega)).trans ((Below.heap_alloc _ _ _ (by omega)).trans hA)))
                       | (have hth : wo.there wn.heap.size 0 cs.length := HTH.out _ _ ((hbo.block _ (by rw [World.size_alloc, World.size_alloc]; omega)).trans ((Below.heap_alloc _ _ _ (by rw [World.size_alloc]; omega)).trans (World.alloc_heap_new wn (.cells zero32 37)))))
                       | (have hth : wo.there (wn.heap.size + 1) 0 cs.length := HTH.out _ _ ((hbo.block _ (by rw [World.size_alloc, World.size_alloc]; omega)).trans (by have := World.alloc_heap_new (wn.alloc (.cells #[.slice an 8 cn, .slice (some ⟨g3, 0, none⟩) 32 32, .slice (some ⟨g4, 0, none⟩) 32 32] 28)) (.cells zero32 37); rw [World.size_alloc] at this; exact this)))
                       | skip
                     clear hbo))
              all_goals
                refine fork_end (Q := Exit.then _ _ Exit.normal _) (by assumption) (by first | assumption | exact Below.alloc (by assumption) (by omega) _) (by omega) ?_
                intro we hr hbe
                have HBE := hid (HB0.out.trans (hbe.mono (by have := HB0.out.size; omega)))
                have HTE := hid (HT0.out.new (hbe.mono hz3'))
                have HRE := hid hr
                clear hr hbe
                first
                  | (have hr' : we.rangeAt wo.heap.size 0 cs := HRE.out
                     generalize wo.heap.size = G at *)
                  | (have hr' : we.rangeAt (wn.heap.size + 1) 0 cs := HRE.out
                     generalize wn.heap.size + 1 = G at *)
                  | (have hr' : we.rangeAt wn.heap.size 0 cs := HRE.out
                     generalize wn.heap.size = G at *)
                  | (have hr' : we.rangeAt W0.heap.size 0 cs := HRE.out
                     generalize W0.heap.size = G at *)
                have hSe : we.drew.rangeAt G 0 cs := hr'
                have BE : Below w2.heap.size w2 we.drew := HBE.out.drew
                have TE := HTE.out.new (below_drewN _ we 1)
                have HRF := roots_as TE (FB.out _ BE).2.1 HRT3.out.1 HKf.out
                have HTE' := hid TE
                have HBE' := hid BE
                clear TE BE HTE HBE HRE hr' HTH HOF
                go_wp2_with fail
                go_region_held3 (fun w' => w'.rangeAt G 0 cs)
                  (first | assumption)
                  (first
                    | (go_at_call 13; refine HRF.mono ?_; clear HRF; rintro e wf ⟨rfl, hbf⟩
                       have hSf : wf.rangeAt G 0 cs := rangeK hSe hbf
                       have HCF := count_B tb tb _ wf (HTE'.out.new hbf)
                       rw [HRT3.out.2] at HCF
                       have HWF := hid (FB.out wf (HBE'.out.trans (hbf.mono HBE'.out.size))).1)
                    | (go_at_call 12; refine HCF.mono ?_; clear HCF; rintro e wf ⟨rfl, rfl⟩))
                go_wp2
                go_ret
                exact ⟨rfl, HWF.out⟩
      · have HP2 := long_B tb _ _ k2 v2 w11 s3 s4 hs2
        have HT11 := hid T11
        have HB11 := hid B11
        clear B11 T11 tW11 s1 s2 s3 s4 bW11
        go_wp2_with (go_at_call 23; refine HP2.mono ?_; clear HP2; rintro e w11 ⟨rfl, rfl⟩)
        have B12 : Below w2.heap.size w2 w11.drew := HB11.out.drew
        have HR12 := roots_as (HT11.out.new (below_drewN _ _ 1)) (FB.out _ B12).2.1 rfl HK1.out
        have hS12 : w11.drew.rangeAt g1 0 d1 := range_of_row H11.out
        have HB12 := hid B12
        clear B12
        go_region_held3 (fun w' => w'.rangeAt g1 0 d1)
          (first | assumption)
          ((go_at_call 13; refine HR12.mono ?_; clear HR12; rintro e w12 ⟨rfl, hb12⟩
            have hS13 : w12.rangeAt g1 0 d1 := range_of_row ((hb12.block _ (Array.getElem?_eq_some_iff.1 H11.out).1).trans H11.out)))
        have HW12 := hid (FB.out w12 (HB12.out.trans (hb12.mono HB12.out.size))).1
        go_wp2
        go_ret
        exact ⟨rfl, HW12.out⟩
  · have HP1 := long_B tb _ _ k1 v1 w7 s1 s2 hs1
    clear B7 T7 tW7 s1 s2 s3 s4 hb7 HT6 HB6' H6 HB6 HB4 R4 hS6 hS7 hq0
    go_wp2_with (go_at_call 23; refine HP1.mono ?_; clear HP1; rintro e w8 ⟨rfl, rfl⟩)
    go_ret
    exact ⟨rfl, bW7⟩
end Go.Proofs.YthkeofinamedfaaDoor
