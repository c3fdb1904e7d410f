/- The walk of TriePlays. -/
import Derived.Test.YthkeofinamedfaaDoorPlayE
import Derived.Test.YthkeofinamedfaaDoorRef4D
import Derived.Test.YthkeofinamedfaaDoorSmall4
import Derived.Test.YthkeofinamedfaaDoorPathsP
namespace Go.Proofs.YthkeofinamedfaaDoor
open Go.RowKit Go.Shelf
set_option linter.unusedVariables false
set_option linter.unusedSimpArgs false
set_option maxRecDepth 20000

/-- What two trees answer, in every world that only grew. -/
theorem pair_facts {B tb xb : Nat} {T : Option Tri} {ys : List EntV} {w W : World} (h : Pair (fun i => B ≤ i) W tb xb T ys) (hy : ys.map EntV.ent = Tri.entsO T) (hn : ys.length ≤ 1000) (hb : Below B w W) (ht : Tables w) (htB : 2 + 1 ≤ B) (hB : B ≤ W.heap.size) {cs : List Value} (K : Cs (rootO T) cs) :
    ∃ a c, (∀ W', Below W.heap.size W W' → W'.cell? ⟨xb, 0, none⟩ = some (.slice a ys.length c)) ∧ (ys.length ≤ c ∧ c ≤ maxLen) ∧
    (∀ W', Below W.heap.size W W' → Calls Tryd.prog 12 #[.pointer (some ⟨tb, 0, none⟩)] W' fun e w' => e = .returned (.int .i64 (ys.length : Nat)) ∧ Below W.heap.size W w') ∧
    (∀ W', Below W.heap.size W W' → Calls Tryd.prog 13 #[.pointer (some ⟨tb, 0, none⟩)] W' fun e w' => e = .returned (.agg cs.toArray) ∧ Below W.heap.size W w') ∧
    (∀ W', Below W.heap.size W W' → Calls Tryd.prog 14 #[.slice a ys.length c] W' fun e w' => e = .returned (.agg cs.toArray) ∧ Below W.heap.size W w') ∧
    (∀ W', Below W.heap.size W W' → Calls Tryd.prog 15 #[.pointer (some ⟨tb, 0, none⟩)] W' fun e w' => ∃ a' c' zs, e = .returned (.slice a' ys.length c') ∧ zs.length = ys.length ∧ Rowed W.heap.size w' (.slice a' ys.length c') zs ∧ zs.map EntV.ent = ys.map EntV.ent ∧ Below W.heap.size W w') ∧
    (∀ W' a' c' zs, Below W.heap.size W W' → Rowed W.heap.size W' (.slice a' ys.length c') zs → zs.map EntV.ent = ys.map EntV.ent → Calls Tryd.prog 16 #[.slice a' ys.length c', .slice a ys.length c] W' fun e w' => e = .returned (.bool true) ∧ Below W'.heap.size W' w') := by
  obtain ⟨St, Sx, h1, ⟨⟨sv, hsv, hE⟩, hx1, hx2⟩, h3, h4⟩ := id h
  obtain ⟨a, c, rfl, hc1, hc2, _⟩ := id hE.ents
  have hl : (Tri.entsO T).length = ys.length := by rw [← hy, List.length_map]
  have htr := fun W' (hb' : Below W.heap.size W W') => (h.new hb').tree
  have hT : ∀ W', Below W.heap.size W W' → Tables W' := fun W' hb' => ht.below (hb.trans (hb'.mono hB)) htB
  refine ⟨a, c, fun W' hb' => ?_, ⟨hc1, hc2⟩, fun W' hb' => ?_, fun W' hb' => ?_, fun W' hb' => ?_, fun W' hb' => ?_, fun W' a' c' zs hb' hR hz => ?_⟩
  · have := row_kept hsv hb'
    simp [World.cell?, this]
  · exact (count_B 0 tb T W' (htr W' hb')).mono fun e w' ⟨q1, q2⟩ => ⟨by rw [q1, hl], q2 ▸ hb'⟩
  · exact (roots_as (htr W' hb') (hT W' hb') rfl K).mono fun e w' ⟨q1, q2⟩ => ⟨q1, hb'.trans (q2.mono hb'.size)⟩
  · exact (xroot_any T h.wf _ ys W' (hE.ents.new hb') hy (by omega)).mono fun e w' ⟨q1, q2⟩ => ⟨by rw [q1, K.sum], hb'.trans (q2.mono hb'.size)⟩
  · refine (all_B 0 tb T W' (htr W' hb') (by omega)).mono ?_
    rintro e w' ⟨sv, zs, rfl, q1, q2, q3⟩
    have hzl : zs.length = ys.length := by rw [← hl, ← q2, List.length_map]
    obtain ⟨⟨a', c', rfl⟩, _⟩ := row_form2 q1.row
    rw [hzl] at q1 ⊢
    exact ⟨a', c', zs, rfl, hzl, q1.lower hb'.size, by rw [q2, hy], hb'.trans (q3.mono hb'.size)⟩
  · exact (same_any _ _ _ _ zs ys W' hR.ents (hE.ents.new hb') hz).mono fun e w' ⟨q1, q, q2⟩ => ⟨q1, q2 ▸ below_drewN _ _ q⟩

set_option maxHeartbeats 8000000 in
theorem plays_law (v : Value) (xs : List ActV) (w : World) (hA : Acts w.heap.size w v xs) (ht : Tables w) :
    Calls Tryd.prog 3 #[v] w fun e w' => e = .returned (.bool true) ∧ Below w.heap.size w w' := by
  obtain ⟨aA, cA, rfl, hc1, hc2, _⟩ := id hA
  unfold maxLen at hc2
  have hlt := ht.lt
  have HA := hid hA
  have HT := hid ht
  clear hA ht
  go_enter Tryd.func3, Tryd.ntmps3
  go_wp2_with fail
  refine (small_any w HT.out).mono ?_
  rintro e w1 ⟨rfl, hb1⟩
  go_wp2_with fail
  refine (new_S w1).mono ?_
  rintro e w2 ⟨rfl, T2, hb2⟩
  have hz2 : w1.heap.size < w2.heap.size := T2.lt _ rfl
  go_wp2_with fail
  refine (xnew_any w2).mono ?_
  rintro e w3 ⟨rfl, X3, hb3⟩
  have HP3 : Hid (Pair (fun i => w.heap.size ≤ i) w3 w1.heap.size w2.heap.size none []) := hid ⟨_, _, T2.new hb3, X3, fun i hi => ⟨by have := hb1.size; omega, by omega⟩, fun i hi => by have := hb1.size; omega⟩
  have HB3 := hid (hb1.trans ((hb2.trans (hb3.mono hb2.size)).mono hb1.size))
  clear T2 X3 hb1 hb2 hb3
  generalize w1.heap.size = tb at *
  generalize w2.heap.size = xb at *
  go_wp2_with fail
  go_loopw [6] (fun i wr => ∃ (k : Nat) (T : Option Tri) (ys : List EntV), k ≤ 40 ∧ k ≤ xs.length ∧ i = .int .i64 (k : Int) ∧ ys.length ≤ k ∧ Hid (ys.map EntV.ent = Tri.entsO T) ∧ Hid (Pair (fun i => w.heap.size ≤ i) wr tb xb T ys) ∧ Hid (Below w.heap.size w wr)) (fun i _ => 40 - (intOf i).toNat)
  case atStart => exact ⟨0, none, [], by omega, by omega, rfl, by simp, hid rfl, HP3, HB3⟩
  case round =>
    clear HP3 HB3
    obtain ⟨k, T, ys, hk, hkl, rfl, hyk, HY, HP, HB⟩ := hrel
    by_cases hgo : k < xs.length ∧ k < 40
    · obtain ⟨b, off, d, ka, kc, va, vc, kb, vb, rfl, hb, q0, q1, q2, hd, s1, s2⟩ := (HA.out.below HB.out).at k hgo.1
      have hki : (k : Int) < (xs.length : Int) := by omega
      have hk0 : (0 : Int) ≤ (k : Int) := by omega
      have hk40 : (k : Int) < 40 := by omega
      have hkm := s1.len
      have hvm := s2.len
      unfold maxLen at hkm hvm
      by_cases hk4 : kb.length ≤ 4096
      · have hk4' : ¬ (4096 : Int) < (kb.length : Int) := by omega
        by_cases hv4 : vb.length ≤ 16384
        · have hv4' : ¬ (16384 : Int) < (vb.length : Int) := by omega
          have HACT := hid (act_any w.heap.size tb xb d _ _ kb vb T ys wr HP.out HY.out HB.out.size hd s1 s2 hk4 hv4 (HT.out.below HB.out (by omega)) (by omega) (by omega))
          clear s1 s2
          go_wp2_with fail
          refine HACT.out.mono ?_
          rintro e W1 ⟨rfl, T', zs, hp1, hy1, hl1, hb1⟩
          have HB1 := hid (HB.out.trans hb1)
          have HP1 := hid hp1
          have HY1 := hid hy1
          obtain ⟨cs, K⟩ := cs_of (rootO T') (rootO_length T')
          obtain ⟨a, c, f1, ⟨f2, f2'⟩, f3, f4, f5, f6, f7⟩ := pair_facts hp1 hy1 (by omega) HB1.out HT.out (by omega) HB1.out.size K
          unfold maxLen at f2'
          have F1 := hid f1
          have F3 := hid f3
          have F4 := hid f4
          have F5 := hid f5
          have F6 := hid f6
          have F7 := hid f7
          have HK := hid K
          have hi0 := K.info
          have hq0 := K.same
          have hu := Tryd.underlying37
          have b1 : Below W1.heap.size W1 W1 := Below.refl _ _
          have b1' : Below W1.heap.size W1 W1.drew := below_drewN _ _ 1
          have hnn : ((zs.length : Int) == (zs.length : Int)) = true := by simp
          clear f1 f3 f4 f5 f6 f7 hp1 hy1 hb1 HACT q0 q1 q2 K
          go_wp2_with fail
          go_region_held3 (fun w' => w'.cell? ⟨xb, 0, none⟩ = some (.slice a zs.length c))
            (first | exact F1.out _ (by assumption))
            (first
              | (go_at_call 12; refine (F3.out _ (by assumption)).mono ?_; rintro e W2 ⟨rfl, b2⟩)
              | (go_at_call 13; refine (F4.out _ (by assumption)).mono ?_; rintro e W3 ⟨rfl, b3⟩)
              | (go_at_call 14; refine (F5.out _ (by assumption)).mono ?_; rintro e W4 ⟨rfl, b4⟩))
          clear F3 F4 F5 hq0 hi0 hu
          go_wp2_with fail
          refine (F6.out _ (by assumption)).mono ?_
          rintro e W5 ⟨a5, c5, es, rfl, hel, hR5, he5, b5⟩
          have HR5 := hid hR5
          have HE5 := hid he5
          have cx5 := F1.out _ b5
          clear hR5 he5
          go_wp2_with fail
          refine (F7.out _ _ _ es b5 HR5.out HE5.out).mono ?_
          rintro e W6 ⟨rfl, b6⟩
          have B6 := b5.trans (b6.mono b5.size)
          have HSP := hid (spoil_any W1.heap.size _ es W6 B6.size (HR5.out.new b6))
          clear b6 b5 cx5
          go_wp2_with fail
          refine HSP.out.mono ?_
          rintro e W7 ⟨rfl, h7⟩
          have b7 : Below W1.heap.size W1 W7 := B6.trans h7
          have b7' : Below W1.heap.size W1 W7.drew := b7.trans (below_drewN _ _ 1)
          clear h7 B6 HSP HR5 HE5
          go_wp2_with fail
          go_region_held3 (fun w' => w'.cell? ⟨xb, 0, none⟩ = some (.slice a zs.length c))
            (first | exact F1.out _ (by assumption))
            (first
              | (go_at_call 15; refine (F6.out _ (by assumption)).mono ?_; rintro e W8 ⟨a8, c8, gs, rfl, hgl, hR8, he8, b8⟩; have HR8 := hid hR8; have HE8 := hid he8; clear hR8 he8)
              | (go_at_call 16; refine (F7.out _ _ _ gs b8 HR8.out HE8.out).mono ?_; rintro e W9 ⟨rfl, b9⟩; have B9 : Below W1.heap.size W1 W9 := b8.trans (b9.mono b8.size)))
          go_wp2_with fail
          go_roundw
          case rel => exact ⟨k + 1, T', zs, by omega, by omega, by go_num, by omega, HY1, hid (HP1.out.new B9), hid (HB1.out.trans (B9.mono HB1.out.size))⟩
          case measure => simp [intOf]; omega
        · have hv4' : (16384 : Int) < (vb.length : Int) := by omega
          clear s1 s2
          go_wp2_with fail
          go_ret
          exact ⟨rfl, HB.out⟩
      · have hk4' : (4096 : Int) < (kb.length : Int) := by omega
        clear s1 s2
        go_wp2_with fail
        go_ret
        exact ⟨rfl, HB.out⟩
    · obtain ⟨cs, K⟩ := cs_of (rootO T) (rootO_length T)
      obtain ⟨a, c, f1, ⟨f2, f2'⟩, f3, _⟩ := pair_facts HP.out HY.out (by omega) HB.out HT.out (by omega) HB.out.size K
      unfold maxLen at f2'
      have F1 := hid f1
      have F3 := hid f3
      have b1 : Below wr.heap.size wr wr := Below.refl _ _
      have b1' : Below wr.heap.size wr wr.drew := below_drewN _ _ 1
      have hnn : ((ys.length : Int) == (ys.length : Int)) = true := by simp
      clear f1 f3 K
      by_cases hk1 : k < xs.length
      · have hki : (k : Int) < (xs.length : Int) := by omega
        have hk40 : ¬ (k : Int) < 40 := by omega
        go_wp2_with fail
        go_region_held3 (fun w' => w'.cell? ⟨xb, 0, none⟩ = some (.slice a ys.length c))
          (first | exact F1.out _ (by assumption))
          ((go_at_call 12; refine (F3.out _ (by assumption)).mono ?_; rintro e W2 ⟨rfl, b2⟩))
        go_wp2_with fail
        go_ret
        exact ⟨rfl, HB.out.trans (b2.mono HB.out.size)⟩
      · have hki : ¬ (k : Int) < (xs.length : Int) := by omega
        go_wp2_with fail
        go_region_held3 (fun w' => w'.cell? ⟨xb, 0, none⟩ = some (.slice a ys.length c))
          (first | exact F1.out _ (by assumption))
          ((go_at_call 12; refine (F3.out _ (by assumption)).mono ?_; rintro e W2 ⟨rfl, b2⟩))
        go_wp2_with fail
        go_ret
        exact ⟨rfl, HB.out.trans (b2.mono HB.out.size)⟩
end Go.Proofs.YthkeofinamedfaaDoor
