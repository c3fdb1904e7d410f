/- The walk of RegistryPlays: a registry, act by act, is the document's. -/
import Derived.Test.YtnhgjjpjmfjmjaaPlaysG
import Derived.Deep.CutBlock
namespace Go.Proofs.Ytnhgjjpjmfjmjaa
open Go.RowKit Go.Maps
set_option linter.unusedVariables false

set_option maxRecDepth 100000 in
set_option maxHeartbeats 20000000 in
theorem plays_law (v : Value) (xs : List ActV) (w : World) (hA : Acts w.heap.size w v xs) :
    Calls Try.prog 3 #[v] w fun e w' => e = .returned (.bool true) ∧ Below w.heap.size w w' := by
  have hA0 := hA
  obtain ⟨a, c, rfl, h1, h2, h3⟩ := hA
  have hmax : c ≤ 9223372036854775807 := by unfold maxLen at h2; omega
  clear h3
  have HA0 := hid hA0
  clear hA0
  go_enter Try.func3, Try.ntmps3
  go_wp2_with fail
  refine (small_any w).mono ?_
  rintro e w1 ⟨rfl, hb1⟩
  go_wp2_with fail
  refine (start_RX w1).mono ?_
  rintro e w2 ⟨rb0, rfl, hb2, hnx⟩
  have HNX := hid hnx
  clear hnx
  go_wp2_with fail
  refine HNX.out.mono ?_
  rintro e w3 ⟨xb, rfl, X3, hb3⟩
  have X3' : RX w.heap.size w3 (.pointer (some ⟨rb0, 0, none⟩)) (.pointer (some ⟨xb, 0, none⟩)) [] := by obtain ⟨S, T, k1, k2, k3, k4, k5⟩ := X3; exact ⟨S, T, k1, k2, fun i hi => Nat.le_trans hb1.size (k3 i hi), fun i hi => Nat.le_trans hb1.size (k4 i hi), k5⟩
  have b3 : Below w.heap.size w w3 := (hb1.trans (hb2.mono hb1.size)).trans (hb3.mono (Nat.le_trans hb1.size hb2.size))
  clear X3 hb3 hb2 hb1 HNX
  go_wp2_with fail
  go_loopw [4, 6] (fun u4 i wr => ∃ (k : Nat) (L : List Pr) (rb : Nat), k ≤ 150 ∧ k ≤ xs.length ∧ i = .int .i64 (k : Int) ∧ u4 = .pointer (some ⟨rb, 0, none⟩) ∧ L.length ≤ k ∧ Hid (RX w.heap.size wr (.pointer (some ⟨rb, 0, none⟩)) (.pointer (some ⟨xb, 0, none⟩)) L) ∧ Hid (Below w.heap.size w wr)) (fun _ i _ => 150 - (intOf i).toNat)
  case atStart => exact ⟨0, [], rb0, by omega, by omega, rfl, rfl, by simp, X3', b3⟩
  case round =>
    clear X3' b3
    obtain ⟨k, L, rb, hk, hkl, rfl, rfl, hL, HX, HB⟩ := hrel
    by_cases hgo : k < xs.length ∧ k < 150
    · obtain ⟨b, off, x, va, vc, rfl, hbl, hx, hvb, c0, c1, c2, c3, i0, i1, i2, shb, hlb⟩ := (HA0.out.below HB.out).at k hgo.1
      have hki : (k : Int) < (xs.length : Int) := by omega
      have hk0 : (0 : Int) ≤ (k : Int) := by omega
      have hk150 : (k : Int) < 150 := by omega
      obtain ⟨d, who, vb, bs, n⟩ := x
      simp only at hvb c0 c1 c2 c3 i0 i1 i2 shb hlb
      clear hvb hx
      have hszr := HB.out.size
      have HLT := hid (lent_any w.heap.size (.slice va bs.length vc) bs (wr.alloc (.cells #[.int .i64 d, .int .i64 who, .slice va bs.length vc, .int .i64 n] 30)) (alloc_ge hszr _) (shb.below ((Below.refl _ wr).alloc hszr _)) hlb)
      have HMK := hid (fun (w4 : World) (vin : Value) h4 h5 => Bd.make (w4 := w4) (vin := vin) HX.out HB.out (Nat.le_refl _) shb i1 i0 i2 hlb h4 h5)
      clear shb
      go_wp2_with fail
      refine HLT.out.mono ?_
      rintro e w4 ⟨vin, rfl, hLn, hb4⟩
      have hbd := HMK.out w4 vin hLn hb4
      obtain ⟨gi, rfl, _⟩ := id hLn
      have HBD := hid hbd
      clear hbd hLn hb4 HLT HMK HX c0 c1 c2 c3 i0 i1 i2 HB
      generalize wr.heap.size = pa at *
      have cd : w4.cell? ⟨pa, 0, none⟩ = some (.int .i64 d) := HBD.out.cell.1
      go_upto_block 2 with fail
      go_cut [4] (fun u4 wx => ∃ (rb' : Nat) (L' : List Pr), u4 = .pointer (some ⟨rb', 0, none⟩) ∧ L'.length ≤ k + 1 ∧ Hid (Bd w.heap.size w wx (.pointer (some ⟨rb', 0, none⟩)) (.pointer (some ⟨xb, 0, none⟩)) L' L' pa d who (.slice va bs.length vc) n (.slice (some ⟨gi, 0, none⟩) bs.length (bs.length + 1)) bs))
      case first =>
        clear cd
        by_cases hd0 : d = 0
        · subst hd0
          have hlen := signL_le L who bs
          have HB0 := hid (HBD.out.new (W' := w4.drew) (Below.refl _ w4).drew)
          go_wp2_with fail
          go_region_held3 (fun w' => w'.cell? ⟨pa, 1, none⟩ = some (.int .i64 who) ∧ w'.cell? ⟨pa, 2, none⟩ = some (.slice va bs.length vc))
            (first | exact HB0.out.cell2 | exact HB5.out.cell2 | exact HR5.out.cell2 | exact HB6.out.cell2)
            (first
              | (go_at_call 11; first
                  | (refine (sign_Bd HB0.out (by omega)).mono ?_; rintro e w5 ⟨rfl, B5⟩; have HB5 := hid B5; clear B5)
                  | (refine (sign_Bd HR5.out (by omega)).mono ?_; rintro e w6 ⟨rfl, B6⟩; have HB6 := hid B6; clear B6))
              | (go_at_call 12; first
                  | (refine (rsign_Bd HB0.out (by omega)).mono ?_; rintro e w5 ⟨rfl, R5⟩; have HR5 := hid R5; clear R5)
                  | (refine (rsign_Bd HB5.out (by omega)).mono ?_; rintro e w6 ⟨rfl, B6⟩; have HB6 := hid B6; clear B6)))
          all_goals (go_wp2_with fail; go_meet)
          all_goals exact ⟨rb, _, rfl, by omega, HB6⟩
        · have he0 : (d == 0) = false := by rw [beq_eq_false_iff_ne]; exact hd0
          have hf0 : decide (d = 0) = false := decide_eq_false hd0
          by_cases hd1 : d = 1
          · subst hd1
            have HB0 := hid (HBD.out.new (W' := w4.drew) (Below.refl _ w4).drew)
            have HKN := hid (fun (W : World) h => knows_Bd (B := w.heap.size) (w := w) (W := W) (vr := .pointer (some ⟨rb, 0, none⟩)) (vx := .pointer (some ⟨xb, 0, none⟩)) (L := L) (M := L) (pa := pa) (d := 1) (who := who) (vb := .slice va bs.length vc) (n := n) (vin := .slice (some ⟨gi, 0, none⟩) bs.length (bs.length + 1)) (bs := bs) h)
            have HRK := hid (fun (W : World) h => rknows_Bd (B := w.heap.size) (w := w) (W := W) (vr := .pointer (some ⟨rb, 0, none⟩)) (vx := .pointer (some ⟨xb, 0, none⟩)) (L := L) (M := L) (pa := pa) (d := 1) (who := who) (vb := .slice va bs.length vc) (n := n) (vin := .slice (some ⟨gi, 0, none⟩) bs.length (bs.length + 1)) (bs := bs) h (by omega))
            generalize decide ((who, bs) ∈ L) = q at HKN HRK
            go_wp2_with fail
            go_region_held3 (fun w' => w'.cell? ⟨pa, 1, none⟩ = some (.int .i64 who) ∧ w'.cell? ⟨pa, 2, none⟩ = some (.slice va bs.length vc))
              (first | exact HB0.out.cell2 | exact HB5.out.cell2 | exact HB6.out.cell2)
              (first
                | (go_at_call 13; first
                    | (refine (HKN.out _ HB0.out).mono ?_; rintro e w5 ⟨rfl, B5⟩; have HB5 := hid B5; clear B5)
                    | (refine (HKN.out _ HB5.out).mono ?_; rintro e w6 ⟨rfl, B6⟩; have HB6 := hid B6; clear B6))
                | (go_at_call 14; first
                    | (refine (HRK.out _ HB0.out).mono ?_; rintro e w5 ⟨rfl, B5⟩; have HB5 := hid B5; clear B5)
                    | (refine (HRK.out _ HB5.out).mono ?_; rintro e w6 ⟨rfl, B6⟩; have HB6 := hid B6; clear B6)))
            all_goals (go_wp2_with fail; go_meet)
            all_goals exact ⟨rb, _, rfl, by omega, HB6⟩
          · have he1 : (d == 1) = false := by rw [beq_eq_false_iff_ne]; exact hd1
            have hf1 : decide (d = 1) = false := decide_eq_false hd1
            by_cases hd2 : d = 2
            · subst hd2
              have hlr := textsOf_le L who
              have HBY := hid (by_Bd HBD.out (by omega))
              have hc1 := HBD.out.cell1
              go_wp2_with fail
              refine HBY.out.mono ?_
              rintro e w5 ⟨v5, rfl, r5, b5⟩
              have hbd5 := HBD.out.new b5
              have HRB := hid (rby_Bd hbd5 (by omega))
              have hc5 := hbd5.cell1
              have HR5 := hid r5
              clear hbd5 HBY hc1 r5
              go_wp2_with fail
              refine HRB.out.mono ?_
              rintro e w6 ⟨v6, rfl, r6, b6⟩
              have r56 := HR5.out.new b6
              have HSM := hid (sameF_any _ _ v5 v6 _ w6 (lists_of_rowsF r56) (lists_of_rowsF r6))
              have HR56 := hid r56
              clear HRB hc5 r56 r6 HR5
              go_wp2_with fail
              refine HSM.out.mono ?_
              rintro e w7 ⟨rfl, b7⟩
              have HOW := hid (ownRows w4 w7 v5 _ (HR56.out.new b7) ((b5.trans (b6.mono b5.size)).trans (b7.mono (Nat.le_trans b5.size b6.size))) (by omega))
              clear HSM HR56 b5 b6 b7
              go_wp2_with fail
              refine HOW.out.mono ?_
              rintro e w8 ⟨rfl, b8⟩
              have HB0 := hid (HBD.out.new (W' := w8.drew) b8.drew)
              clear b8 HOW
              go_wp2_with fail
              go_region_held3 (fun w' => w'.cell? ⟨pa, 1, none⟩ = some (.int .i64 who))
                (first | exact HB0.out.cell1 | exact HB9.out.cell1 | exact HQ9.out.cell1 | exact HB10.out.cell1 | exact HB11.out.cell1)
                (first
                  | (go_at_call 15; first
                      | (refine (by_Bd HB0.out (by omega)).mono ?_; rintro e w9 ⟨v9, rfl, r9, b9⟩; have HB9 := hid (HB0.out.new b9); have HP9 := hid r9; clear r9 b9)
                      | (refine (by_Bd HQ9.out (by omega)).mono ?_; rintro e w10 ⟨v10, rfl, r10, b10⟩; have HB10 := hid (HQ9.out.new b10); have HS10 := hid (sameF_any _ _ v10 v9 _ w10 (lists_of_rowsF r10) (lists_of_rowsF (HQP.out.new b10))); clear r10 b10))
                  | (go_at_call 17; first
                      | (refine (rby_Bd HB0.out (by omega)).mono ?_; rintro e w9 ⟨v9, rfl, r9, b9⟩; have HQ9 := hid (HB0.out.new b9); have HQP := hid r9; clear r9 b9)
                      | (refine (rby_Bd HB9.out (by omega)).mono ?_; rintro e w10 ⟨v10, rfl, r10, b10⟩; have HB10 := hid (HB9.out.new b10); have HS10 := hid (sameF_any _ _ v9 v10 _ w10 (lists_of_rowsF (HP9.out.new b10)) (lists_of_rowsF r10)); clear r10 b10))
                  | (go_at_call 16; refine HS10.out.mono ?_; rintro e w11 ⟨rfl, b11⟩; have HB11 := hid (HB10.out.new b11); clear b11))
              all_goals (go_wp2_with fail; go_meet)
              all_goals exact ⟨rb, L, rfl, by omega, HB11⟩
            · have he2 : (d == 2) = false := by rw [beq_eq_false_iff_ne]; exact hd2
              have hf2 : decide (d = 2) = false := decide_eq_false hd2
              by_cases hd3 : d = 3
              · subst hd3
                have HCP := hid (copy_Bd HBD.out (by omega))
                clear HBD
                go_wp2_with fail
                refine HCP.out.mono ?_
                rintro e w5 ⟨cb, rfl, T5, B5⟩
                have HSO := hid (signOld_Bd B5 T5 (by omega))
                have hc1 := B5.cell1
                clear T5 B5 HCP
                go_wp2_with fail
                refine HSO.out.mono ?_
                rintro e w6 ⟨rfl, B6⟩
                have HB6 := hid B6
                clear B6 HSO hc1
                go_wp2_with fail
                go_meet
                case rel => exact ⟨cb, L, rfl, by omega, HB6⟩
              · have he3 : (d == 3) = false := by rw [beq_eq_false_iff_ne]; exact hd3
                have hf3 : decide (d = 3) = false := decide_eq_false hd3
                by_cases hd4 : d = 4
                · subst hd4
                  have hlr := textsOf_le L who
                  have HTX := hid (text_Bd HBD.out)
                  have hc1 := HBD.out.cell1
                  have hc3 := HBD.out.cell.2.2.2
                  go_wp2_with fail
                  refine HTX.out.mono ?_
                  rintro e w5 (⟨hno, rfl, e5⟩ | ⟨v5, r, hsu, hr, rfl, o5, b5⟩)
                  · rw [e5]
                    clear e5 w5 HTX
                    have HRT := hid (rtext_Bd HBD.out (by omega))
                    have HNO := hid hno
                    clear hno
                    go_wp2_with fail
                    refine HRT.out.mono ?_
                    rintro e w6 (⟨_, rfl, b6⟩ | ⟨v6, r6, hsu6, _⟩)
                    · have e1 := strR (shows_nil 0 w6)
                      have HON := hid (ownOne w.heap.size w6 nilS (Nat.le_trans HBD.out.size b6.size) ⟨[], .inl ⟨rfl, rfl⟩⟩)
                      have HB6 := hid b6
                      clear HRT hc1 hc3 b6
                      go_wp2_with fail
                      refine HON.out.mono ?_
                      rintro e w7 ⟨rfl, k7⟩
                      have b7 : Below w4.heap.size w4 w7 := HB6.out.trans (k7.below (fun i hi => by simp [Value.ownBlock] at hi) HB6.out.size)
                      clear k7 HON e1
                      have HB7 := hid (HBD.out.new (W' := w7.drew) b7.drew)
                      clear b7
                      go_wp2_with fail
                      go_region_held3 (fun w' => w'.cell? ⟨pa, 1, none⟩ = some (.int .i64 who))
                        (first | exact HB7.out.cell1 | exact HB8.out.cell1)
                        (first
                          | (go_at_call 22; first
                              | (refine (many_Bd HB7.out).mono ?_; rintro e w' ⟨rfl, rfl⟩)
                              | (refine (many_Bd HB8.out).mono ?_; rintro e w' ⟨rfl, rfl⟩))
                          | (go_at_call 17; refine (rby_Bd HB7.out (by omega)).mono ?_; rintro e w8 ⟨v8, rfl, r8, b8⟩; obtain ⟨a8, c8, rfl, hc8⟩ := r8.form; have hc8' : c8 ≤ 9223372036854775807 := (by unfold maxLen at hc8; exact hc8); have HB8 := hid (HB7.out.new b8); clear r8 b8 hc8))
                      all_goals (go_wp2_with fail; go_meet)
                      all_goals exact ⟨rb, L, rfl, by omega, HB8⟩
                    · exact (such_not hsu6 HNO.out).elim
                  · have hbd5 := HBD.out.new b5
                    have HRT := hid (rtext_Bd hbd5 (by omega))
                    have HSU := hid hsu
                    have hd1 := hbd5.cell1
                    have hd3 := hbd5.cell.2.2.2
                    obtain ⟨g5, cap5, _, _, rfl, _⟩ := id o5
                    have HO5 := hid o5
                    clear hsu hbd5 hc1 hc3 HTX o5
                    go_wp2_with fail
                    refine HRT.out.mono ?_
                    rintro e w6 (⟨hno, _⟩ | ⟨v6, r6, hsu6, rfl, o6, b6⟩)
                    · exact (such_not HSU.out hno).elim
                    · obtain rfl := such_one HSU.out hsu6
                      have o56 := HO5.out.new b6
                      have e1 := strR o56.shows
                      have e2 := strR o6.shows
                      have HB6 := hid (b5.trans (b6.mono b5.size))
                      have HON := hid (ownOne w4.heap.size w6 _ HB6.out.size o56.full)
                      have HO56 := hid o56
                      clear HRT hd1 hd3 hsu6 o6 b6 b5 o56 HO5
                      generalize str8 r = s at *
                      go_wp2_with fail
                      refine HON.out.mono ?_
                      rintro e w7 ⟨rfl, k7⟩
                      have b7 : Below w4.heap.size w4 w7 := HB6.out.trans (k7.below (fun i hi => (HO56.out.lt i hi).1) HB6.out.size)
                      clear k7 HON e1 e2
                      have HB7 := hid (HBD.out.new (W' := w7.drew) b7.drew)
                      clear b7
                      go_wp2_with fail
                      go_region_held3 (fun w' => w'.cell? ⟨pa, 1, none⟩ = some (.int .i64 who))
                        (first | exact HB7.out.cell1 | exact HB8.out.cell1)
                        (first
                          | (go_at_call 22; first
                              | (refine (many_Bd HB7.out).mono ?_; rintro e w' ⟨rfl, rfl⟩)
                              | (refine (many_Bd HB8.out).mono ?_; rintro e w' ⟨rfl, rfl⟩))
                          | (go_at_call 17; refine (rby_Bd HB7.out (by omega)).mono ?_; rintro e w8 ⟨v8, rfl, r8, b8⟩; obtain ⟨a8, c8, rfl, hc8⟩ := r8.form; have hc8' : c8 ≤ 9223372036854775807 := (by unfold maxLen at hc8; exact hc8); have HB8 := hid (HB7.out.new b8); clear r8 b8 hc8))
                      all_goals (go_wp2_with fail; go_meet)
                      all_goals exact ⟨rb, L, rfl, by omega, HB8⟩
                · have he4 : (d == 4) = false := by rw [beq_eq_false_iff_ne]; exact hd4
                  have hf4 : decide (d = 4) = false := decide_eq_false hd4
                  go_wp2_with fail
                  go_meet
                  case rel => exact ⟨rb, L, rfl, by omega, HBD⟩
      case rest =>
        clear cd HBD
        obtain ⟨rb', L', rfl, hL', HBC⟩ := hcut
        have HKP := hid (kept_Bd HBC.out)
        have HTL := hid (tail_Bd HBC.out)
        have cb2 := HBC.out.cell.2.2.1
        go_wp2_with fail
        refine HKP.out.mono ?_
        rintro e w5 ⟨rfl, e5⟩
        rw [e5]
        clear e5 w5 HKP
        go_wp2_with fail
        refine HTL.out.mono ?_
        rintro e w6 ⟨rfl, X6, b6⟩
        obtain ⟨xa, xc, cx, hxc⟩ := X6.xl
        have hxm : xc ≤ 9223372036854775807 := by unfold maxLen at hxc; exact hxc
        have HCO := hid (fun nq => X6.count nq)
        have HX6 := hid X6
        have HB6 := hid b6
        clear X6 b6 HTL HBC cb2
        go_wp2_with fail
        go_quiet ((go_at_call 24; refine Calls.quiet_of_same (HCO.out _)))
        go_wp2_with fail
        go_roundw
        case rel => exact ⟨k + 1, L', rb', by omega, by omega, by go_num, rfl, by omega, HX6.out.new (below_drewN (Below.refl _ _) _), below_drewN HB6.out _⟩
        case measure => simp [intOf]; omega
    · obtain ⟨xa, xc, cx, hxc⟩ := HX.out.xl
      have hxm : xc ≤ 9223372036854775807 := by unfold maxLen at hxc; exact hxc
      have HCO := hid (fun nq => HX.out.count nq)
      clear HX HA0
      by_cases hk1 : k < xs.length
      · have hki : (k : Int) < (xs.length : Int) := by omega
        have hk60 : ¬ (k : Int) < 150 := by omega
        go_wp2_with fail
        go_quiet ((go_at_call 24; refine Calls.quiet_of_same (HCO.out _)))
        go_wp2
        go_ret
        exact ⟨by simp, below_drewN HB.out _⟩
      · have hki : ¬ (k : Int) < (xs.length : Int) := by omega
        go_wp2_with fail
        go_quiet ((go_at_call 24; refine Calls.quiet_of_same (HCO.out _)))
        go_wp2
        go_ret
        exact ⟨by simp, below_drewN HB.out _⟩
end Go.Proofs.Ytnhgjjpjmfjmjaa
