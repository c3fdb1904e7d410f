/- The walk of BtreePlays. -/
import Derived.Test.YtjfipejfejmlaaaBtPlayB
import Derived.Test.YtjfipejfejmlaaaBtSmall
namespace Go.Proofs.Ytjfipejfejmlaaa
open Go.RowKit Go.Shelf
set_option linter.unusedVariables false
set_option linter.unusedSimpArgs false
set_option maxRecDepth 20000

/-- It goes on with a clone; the other one is acted on. -/
theorem pair_old {BT : (Nat → Prop) → World → Nat → List (List Ent) → Nat → Prop} (HA : Api BT) {B : Nat} {W w' : World} {tb tb' xb : Nat} {L : List Ent} {xs : List EntV} (kv vv : Value) (key val : List UInt8) (h : PairB BT (fun i => B ≤ i) W tb xb L xs) (hB : B ≤ W.heap.size) (hb : Below W.heap.size W w') (hc : BL BT (fun i => W.heap.size ≤ i) w' tb' L) (hk : Says w' kv key) (hv : Says w' vv val) (hs : Fine (key, val)) (hfew : L.length < 100000) :
    Calls Try.prog 11 #[.pointer (some ⟨tb, 0, none⟩), kv, vv] w' fun e w'' => e = .returned (.bool (hitK L key)) ∧ PairB BT (fun i => B ≤ i) w'' tb' xb L xs ∧ Below B w' w'' := by
  obtain ⟨St, Sx, h1, h2, h3, h4⟩ := h
  have hz := hb.size
  refine (HA.putB kv vv key val ((HA.newL h1 hb).mono (A' := fun i => St i ∨ w'.heap.size ≤ i) (fun i hi => .inl hi)) (fun i hi => .inr hi) hk hv hs hfew).mono ?_
  rintro e w'' ⟨rfl, q1, q2⟩
  have hlx := h2.lt
  refine ⟨rfl, ⟨fun i => W.heap.size ≤ i ∧ i < w'.heap.size, Sx, HA.keepL (HA.ltL hc) q2 (fun i hi hs => ?_), (h2.new hb).keep q2 (fun i hi hs => ?_), fun i hi => ⟨by omega, fun hx => by have := hlx i hx; omega, Nat.lt_of_lt_of_le hi.2 q2.size⟩, h4⟩, q2.below (fun i hi => ?_) (by omega)⟩
  · rcases hs with hs | hs
    · have := (h3 i hs).2.2; omega
    · omega
  · rcases hs with hs | hs
    · exact (h3 i hs).2.1 hi
    · have := hlx i hi; omega
  · rcases hi with hi | hi
    · exact (h3 i hi).1
    · omega

/-- What the two trees answer, in every world that only grew. -/
theorem pair_facts {BT : (Nat → Prop) → World → Nat → List (List Ent) → Nat → Prop} (HA : Api BT) {B tb xb : Nat} {L : List Ent} {ys : List EntV} {W : World} (h : PairB BT (fun i => B ≤ i) W tb xb L ys) (hy : ys.map EntV.ent = L) (hn : ys.length ≤ 1000) :
    ∃ a c, (∀ W', Below W.heap.size W W' → W'.cell? ⟨xb, 0, none⟩ = some (.slice a ys.length c)) ∧ (ys.length ≤ c ∧ c ≤ maxLen) ∧
    (∀ W', Below W.heap.size W W' → Calls Try.prog 13 #[.pointer (some ⟨tb, 0, none⟩)] W' fun e w' => e = .returned (.int .i64 (ys.length : Nat)) ∧ Below W.heap.size W w') ∧
    (∀ W', Below W.heap.size W W' → Calls Try.prog 14 #[.pointer (some ⟨tb, 0, none⟩), .agg #[.slice none 0 0, .slice none 0 0, .bool false]] W' fun e w' => ∃ a' c' zs, e = .returned (.slice a' ys.length c') ∧ zs.length = ys.length ∧ Rowed W.heap.size w' (.slice a' ys.length c') zs ∧ zs.map EntV.ent = ys.map EntV.ent ∧ Below W.heap.size W w') ∧
    (∀ W' a' c' zs, Below W.heap.size W W' → Rowed W.heap.size W' (.slice a' ys.length c') zs → zs.map EntV.ent = ys.map EntV.ent → Calls Try.prog 15 #[.slice a' ys.length c', .slice a ys.length c] W' fun e w' => e = .returned (.bool true) ∧ Below W'.heap.size W' w') := by
  obtain ⟨St, Sx, h1, ⟨⟨sv, hsv, hE⟩, hx1, hx2⟩, h3, h4⟩ := id h
  obtain ⟨a, c, rfl, hc1, hc2, _⟩ := id hE.ents
  have hl : L.length = ys.length := by rw [← hy, List.length_map]
  refine ⟨a, c, fun W' hb' => ?_, ⟨hc1, hc2⟩, fun W' hb' => ?_, fun W' hb' => ?_, fun W' a' c' zs hb' hR hz => ?_⟩
  · have := row_kept hsv hb'
    simp [World.cell?, this]
  · exact (HA.countB (HA.newL h.tree hb') (by omega)).mono fun e w' ⟨q1, q2⟩ => ⟨by rw [q1, hl], hb'.trans (q2.mono hb'.size)⟩
  · refine (all_of HA (HA.newL h.tree hb') (by omega)).mono ?_
    rintro e w' ⟨a', c', zs, rfl, q1, q2, q3, q4⟩
    have hzl : zs.length = ys.length := by omega
    rw [hzl] at q1 ⊢
    exact ⟨a', c', zs, rfl, hzl, q1.lower hb'.size, by rw [q2, hy], hb'.trans (q4.mono hb'.size)⟩
  · exact same_rows hR.ents (hE.ents.new hb') hz

set_option maxHeartbeats 16000000 in
theorem plays_law {BT : (Nat → Prop) → World → Nat → List (List Ent) → Nat → Prop} (HA : Api BT) (v : Value) (xs : List ActB) (w : World) (h1 : ActsB w.heap.size w v xs) :
    Calls Try.prog 3 #[v] w fun e w' => e = .returned (.bool true) ∧ Below w.heap.size w w' := by
  obtain ⟨a1, c1', rfl, hc1, hc1', _⟩ := id h1
  unfold maxLen at hc1'
  have HX := hid h1
  clear h1
  go_enter Try.func3, Try.ntmps3
  go_wp2_with fail
  refine (small_any HA w).mono ?_
  rintro e w1 ⟨rfl, hb1⟩
  have HB1 := hid hb1
  clear hb1
  go_wp2_with fail
  refine (HA.newB w1).mono ?_
  rintro e w2 ⟨tb, rfl, R2, hb2⟩
  obtain ⟨w3, hw3⟩ : ∃ w3, w2.alloc (.cells #[.slice none 0 0] 29) = w3 := ⟨_, rfl⟩
  have hb3 : Below w2.heap.size w2 w3 := by rw [← hw3]; exact new_alloc _ _
  have hz3 : w3.heap.size = w2.heap.size + 1 := by rw [← hw3]; exact size_alloc1 _ _
  have hx3 : w3.heap[w2.heap.size]? = some (.cells #[.slice none 0 0] 29 (0, 0)) := by rw [← hw3]; exact heap_alloc_new _ _
  have HP3 : Hid (PairB BT (fun i => w.heap.size ≤ i) w3 tb w2.heap.size [] []) := hid
    ⟨fun i => w1.heap.size ≤ i ∧ i < w2.heap.size, fun i => i = w2.heap.size, HA.newL (HA.ltL R2) hb3, ⟨⟨_, hx3, ⟨⟨none, 0, rfl, Nat.le_refl _, by unfold maxLen; omega, fun h => absurd rfl h⟩, fun g hg => (by cases hg), fun x hx => (by cases hx), .inl rfl⟩⟩, rfl, fun i hi => by omega⟩,
      fun i hi => ⟨by have := HB1.out.size; omega, by omega, by omega⟩, fun i hi => by have := HB1.out.size; have := hb2.size; omega⟩
  have HB3 := hid (HB1.out.trans ((hb2.trans (hb3.mono hb2.size)).mono HB1.out.size))
  clear R2 hb2 hb3 hx3 HB1
  go_wp2_with fail
  try rw [hw3]
  clear hw3
  generalize w2.heap.size = xb at *
  go_loopw [4, 6, 7, 8] (fun u4 i u7 u8 wr => ∃ (k tc : Nat) (ys : List EntV), k ≤ 80 ∧ k ≤ xs.length ∧ u4 = .pointer (some ⟨tc, 0, none⟩) ∧ i = .int .i64 (k : Int) ∧ ys.length ≤ k ∧ Hid (PairB BT (fun i => w.heap.size ≤ i) wr tc xb (ys.map EntV.ent) ys) ∧ Hid (Below w.heap.size w wr)) (fun _ i _ _ _ => 80 - (intOf i).toNat)
  case atStart => exact ⟨0, tb, [], by omega, by omega, rfl, rfl, by simp, HP3, HB3⟩
  case round =>
    clear HP3 HB3 hz3
    obtain ⟨k, tc, ys, hk, hkl, rfl, rfl, hyk, HP, HB⟩ := hrel
    by_cases hgo : k < xs.length ∧ k < 80
    · obtain ⟨hlt, h80⟩ := hgo
      have hki : (k : Int) < (xs.length : Int) := by omega
      have hk80 : (k : Int) < 80 := by omega
      have hk0 : (0 : Int) ≤ (k : Int) := by omega
      have hszr := HB.out.size
      obtain ⟨b, off, ⟨d, kv, vv, fv, tv, en, kb, vb, fb, tb'⟩, rfl, hbl, hx, hc, i0, s1, s2, s3, s4⟩ := (HX.out.below HB.out).at k hlt
      obtain ⟨ka, kc, rfl⟩ : ∃ a c, kv = .slice a kb.length c := s1.form
      obtain ⟨va, vc, rfl⟩ : ∃ a c, vv = .slice a vb.length c := s2.form
      obtain ⟨fa, fc, rfl⟩ : ∃ a c, fv = .slice a fb.length c := s3.form
      obtain ⟨ta, tc', rfl⟩ : ∃ a c, tv = .slice a tb'.length c := s4.form
      have HC0 := hid hc
      have HS := hid (show Lent8 w.heap.size wr (.slice ka kb.length kc) kb ∧ Lent8 w.heap.size wr (.slice va vb.length vc) vb ∧ Lent8 w.heap.size wr (.slice fa fb.length fc) fb ∧ Lent8 w.heap.size wr (.slice ta tb'.length tc') tb' from ⟨s1, s2, s3, s4⟩)
      simp only at i0
      have c0 := (hc wr (Below.refl _ _)).1
      simp only at c0
      clear hc s1 s2 s3 s4 hx
      go_upto_if 36 with fail
      go_cut [4, 7] from 21 to 72 (fun u4 u7 wx => ∃ tc2 : Nat, u4 = .pointer (some ⟨tc2, 0, none⟩) ∧ Hid (PairB BT (fun i => w.heap.size ≤ i) wx tc2 xb (ys.map EntV.ent) ys) ∧ Hid (Below w.heap.size wr wx))
      case first =>
        by_cases hd4 : d = 4
        · subst hd4
          have HCL := hid (HA.cloneB HP.out.tree (by rw [List.length_map]; omega))
          go_wp2_with fail
          refine HCL.out.mono ?_
          clear HCL
          rintro e W1 ⟨t1, rfl, R1, hb1⟩
          have hz1 := hb1.size
          have hb1d : Below wr.heap.size wr W1.drew := hb1.trans (below_drewN _ W1 1)
          have hS0 : W1.drew.cell? ⟨b, off + k * 6 + 1, none⟩ = some (.slice ka kb.length kc) ∧ W1.drew.cell? ⟨b, off + k * 6 + 2, none⟩ = some (.slice va vb.length vc) := ⟨(HC0.out _ (hb1d.mono hszr)).2.1, (HC0.out _ (hb1d.mono hszr)).2.2.1⟩
          have HPO := hid (pair_old HA (.slice ka kb.length kc) (.slice va vb.length vc) kb vb HP.out hszr hb1d (HA.newL R1 (below_drewN _ W1 1)) (HS.out.1.says (hb1d.mono hszr) (by have := hb1d.size; omega)) (HS.out.2.1.says (hb1d.mono hszr) (by have := hb1d.size; omega)) ⟨HS.out.1.2, HS.out.2.1.2⟩ (by rw [List.length_map]; omega))
          have HB1d := hid (hb1d.mono hszr)
          clear R1 hb1 hb1d
          go_wp2_with fail
          go_region_held3 (fun w' => w'.cell? ⟨b, off + k * 6 + 1, none⟩ = some (.slice ka kb.length kc) ∧ w'.cell? ⟨b, off + k * 6 + 2, none⟩ = some (.slice va vb.length vc))
            (first | assumption)
            ((go_at_call 11; refine HPO.out.mono ?_; clear HPO; rintro e W2 ⟨rfl, P2, hb2⟩
              have hb2w := HB1d.out.trans hb2
              have hSn : W2.cell? ⟨b, off + k * 6 + 1, none⟩ = some (.slice ka kb.length kc) ∧ W2.cell? ⟨b, off + k * 6 + 2, none⟩ = some (.slice va vb.length vc) := ⟨(HC0.out _ hb2w).2.1, (HC0.out _ hb2w).2.2.1⟩))
          go_wp2_with fail
          go_meet
          case rel => exact ⟨t1, rfl, hid P2, hid hb2w⟩
        · have hd4' : (d == 4) = false := by simpa using hd4
          go_wp2_with fail
          go_meet
          case rel => exact ⟨tc, rfl, HP, hid (Below.refl _ _)⟩
      case rest =>
        clear HP c0
        obtain ⟨tc2, rfl, HP2, HBC⟩ := hcut
        obtain ⟨wy, hwy⟩ : ∃ wy, wy = wc := ⟨_, rfl⟩
        subst hwy
        have HBY := hid (HB.out.trans HBC.out)
        obtain ⟨d0, d1, d2, d3, d4, d5⟩ := HC0.out wy HBC.out
        simp only at d0 d1 d2 d3 d4 d5
        have HACT := hid (act_any HA w.heap.size tc2 xb ⟨d, .slice ka kb.length kc, .slice va vb.length vc, .slice fa fb.length fc, .slice ta tb'.length tc', en, kb, vb, fb, tb'⟩ _ ys wy HP2.out rfl HBY.out.size i0 (HS.out.1.below HBC.out) (HS.out.2.1.below HBC.out) (HS.out.2.2.1.below HBC.out) (HS.out.2.2.2.below HBC.out) (by omega))
        clear HB HBC HC0 HS hszr
        go_wp2_with fail
        clear d0 d1 d2 d3 d4 d5
        refine HACT.out.mono ?_
        clear HACT
        rintro e W1 ⟨rfl, L', zs, hp1, hy1, hl1, hb1⟩
        subst hy1
        have HB1 := hid (HBY.out.trans hb1)
        have HP1 := hid hp1
        obtain ⟨a, c, f1, ⟨f2, f2'⟩, f3, _⟩ := pair_facts HA hp1 rfl (by omega)
        unfold maxLen at f2'
        have F1 := hid f1
        have F3 := hid f3
        have b1 : Below W1.heap.size W1 W1 := Below.refl _ _
        have b1' : Below W1.heap.size W1 W1.drew := below_drewN _ _ 1
        clear f1 f3 hp1 hb1 HBY HP2
        go_wp2_with fail
        go_region_held3 (fun w' => w'.cell? ⟨xb, 0, none⟩ = some (.slice a zs.length c))
          (first | exact F1.out _ (by assumption))
          ((go_at_call 13; refine (F3.out _ (by assumption)).mono ?_; rintro e W2 ⟨rfl, b2⟩))
        go_wp2_with fail
        go_roundw
        case rel => exact ⟨k + 1, tc2, zs, by omega, by omega, rfl, by go_num, by omega, hid (HP1.out.new HA b2), htr HB1 b2⟩
        case measure => simp [intOf]; omega
    · obtain ⟨a, c, f1, ⟨f2, f2'⟩, _, f4, f5⟩ := pair_facts HA HP.out rfl (by omega)
      unfold maxLen at f2'
      have F1 := hid f1
      have F4 := hid f4
      have F5 := hid f5
      have hsz := HB.out.size
      clear f1 f4 f5
      by_cases hlt : k < xs.length
      · have hki : (k : Int) < (xs.length : Int) := by omega
        have hk80 : ¬ (k : Int) < 80 := by omega
        go_wp2_with fail
        refine (F4.out _ (Below.refl _ _)).mono ?_
        rintro e W1 ⟨a5, c5, es, rfl, hel, hR5, he5, b1⟩
        have HR5 := hid hR5
        have HE5 := hid he5
        have cx5 := F1.out _ b1
        clear hR5 he5
        go_wp2_with fail
        refine (F5.out _ _ _ es b1 HR5.out HE5.out).mono ?_
        rintro e W2 ⟨rfl, b2⟩
        have B2 := b1.trans (b2.mono b1.size)
        have HSP := hid (spoil_any wr.heap.size _ es W2 B2.size (HR5.out.new b2))
        clear b2 b1 cx5
        go_wp2_with fail
        refine HSP.out.mono ?_
        rintro e W3 ⟨rfl, h3⟩
        have b3 : Below wr.heap.size wr W3 := B2.trans h3
        have b3' : Below wr.heap.size wr W3.drew := b3.trans (below_drewN _ _ 1)
        clear h3 B2 HSP HR5 HE5
        go_wp2_with fail
        go_region_held3 (fun w' => w'.cell? ⟨xb, 0, none⟩ = some (.slice a ys.length c))
          (first | exact F1.out _ (by assumption))
          (first
            | (go_at_call 14; refine (F4.out _ (by assumption)).mono ?_; rintro e W4 ⟨a8, c8, gs, rfl, hgl, hR8, he8, b8⟩; have HR8 := hid hR8; have HE8 := hid he8; clear hR8 he8)
            | (go_at_call 15; refine (F5.out _ _ _ gs b8 HR8.out HE8.out).mono ?_; rintro e W5 ⟨rfl, b9⟩; have B9 : Below wr.heap.size wr W5 := b8.trans (b9.mono b8.size)))
        go_wp2_with fail
        go_ret
        exact ⟨rfl, HB.out.trans (B9.mono hsz)⟩
      · have hki : ¬ (k : Int) < (xs.length : Int) := by omega
        go_wp2_with fail
        refine (F4.out _ (Below.refl _ _)).mono ?_
        rintro e W1 ⟨a5, c5, es, rfl, hel, hR5, he5, b1⟩
        have HR5 := hid hR5
        have HE5 := hid he5
        have cx5 := F1.out _ b1
        clear hR5 he5
        go_wp2_with fail
        refine (F5.out _ _ _ es b1 HR5.out HE5.out).mono ?_
        rintro e W2 ⟨rfl, b2⟩
        have B2 := b1.trans (b2.mono b1.size)
        have HSP := hid (spoil_any wr.heap.size _ es W2 B2.size (HR5.out.new b2))
        clear b2 b1 cx5
        go_wp2_with fail
        refine HSP.out.mono ?_
        rintro e W3 ⟨rfl, h3⟩
        have b3 : Below wr.heap.size wr W3 := B2.trans h3
        have b3' : Below wr.heap.size wr W3.drew := b3.trans (below_drewN _ _ 1)
        clear h3 B2 HSP HR5 HE5
        go_wp2_with fail
        go_region_held3 (fun w' => w'.cell? ⟨xb, 0, none⟩ = some (.slice a ys.length c))
          (first | exact F1.out _ (by assumption))
          (first
            | (go_at_call 14; refine (F4.out _ (by assumption)).mono ?_; rintro e W4 ⟨a8, c8, gs, rfl, hgl, hR8, he8, b8⟩; have HR8 := hid hR8; have HE8 := hid he8; clear hR8 he8)
            | (go_at_call 15; refine (F5.out _ _ _ gs b8 HR8.out HE8.out).mono ?_; rintro e W5 ⟨rfl, b9⟩; have B9 : Below wr.heap.size wr W5 := b8.trans (b9.mono b8.size)))
        go_wp2_with fail
        go_ret
        exact ⟨rfl, HB.out.trans (B9.mono hsz)⟩
end Go.Proofs.Ytjfipejfejmlaaa
