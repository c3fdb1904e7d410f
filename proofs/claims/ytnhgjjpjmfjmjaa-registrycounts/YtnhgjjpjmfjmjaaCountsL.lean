/- The walk of RegistryCounts: as many pairs as texts of all signers, each once. -/
import Derived.Test.YtnhgjjpjmfjmjaaCountF
import Derived.Deep.QuietTactic
import Derived.BigQuiet
namespace Go.Proofs.Ytnhgjjpjmfjmjaa
open Go.RowKit Go.Maps
set_option linter.unusedVariables false

theorem list_beqC (a b : List UInt8) : (a == b) = decide (a = b) := by
  by_cases h : a = b
  · rw [decide_eq_true h, h]; simp
  · rw [decide_eq_false h]; simpa using h

theorem str_beqC (a b : List UInt8) : ((str8 a).toList == (str8 b).toList) = decide (a = b) := by
  rw [ByteArray.toList_eq, ByteArray.toList_eq]
  exact list_beqC a b

theorem Shows.drewC {B : Nat} {w : World} {v : Value} {bs : List UInt8} (h : Shows B w v bs) (n : Nat) : Shows B (w.drewN n) v bs :=
  h.below (below_drewN (Below.refl _ _) n)

theorem nodup_at (rows : List (List UInt8)) (h : rows.Nodup) (i k : Nat) (hi : i < rows.length) (hk : k < i) : ¬ (rows[i]?.getD [] = rows[k]?.getD []) := by
  have hk' : k < rows.length := by omega
  rw [List.getElem?_eq_getElem hi, List.getElem?_eq_getElem hk', Option.getD_some, Option.getD_some]
  intro e
  exact (List.pairwise_iff_getElem.1 h) k i hk' hi hk e.symm

/-- One element of a list whose place is known. -/
theorem Lists.at2 {B : Nat} {w : World} {b off l c : Nat} {rows : List (List UInt8)} (h : Lists B w (.slice (some ⟨b, off, none⟩) l c) rows) (k : Nat) (hk : k < rows.length) :
    ∃ ak ck, w.cell? ⟨b, off + k, none⟩ = some (.slice ak (rows[k]?.getD []).length ck) ∧ Shows B w (.slice ak (rows[k]?.getD []).length ck) (rows[k]?.getD []) := by
  obtain ⟨b', off', ak, ck, e, h1, h2⟩ := h.at k hk
  simp only [Option.some.injEq, Addr.mk.injEq, and_true] at e
  obtain ⟨rfl, rfl⟩ := e
  exact ⟨ak, ck, h1, h2⟩

set_option maxRecDepth 20000 in
set_option maxHeartbeats 2000000 in
theorem counts_law (v : Value) (xs : List ActV) (w : World) (hA : Acts w.heap.size w v xs) :
    Calls Try.prog 5 #[v] w fun e w' => e = .returned (.bool true) ∧ Below w.heap.size w w' := by
  have hA0 := hA
  obtain ⟨a, c, rfl, h1, h2, h3⟩ := hA
  have hmax : c ≤ 9223372036854775807 := by unfold maxLen at h2; omega
  clear h3
  have HA0 := hid hA0
  clear hA0
  go_enter Try.func5, Try.ntmps5
  go_wp2_with fail
  refine (small_any w).mono ?_
  rintro e w1 ⟨rfl, hb1⟩
  go_wp2_with fail
  refine (new_B w1).mono ?_
  rintro e w2 ⟨sb, rfl, R2, hb2⟩
  have R2' : RegB w.heap.size w2 (.pointer (some ⟨sb, 0, none⟩)) [] := by obtain ⟨S, hR, hS⟩ := R2; exact ⟨S, hR, fun i hi => Nat.le_trans hb1.size (hS i hi)⟩
  have b2 : Below w.heap.size w w2 := hb1.trans (hb2.mono hb1.size)
  clear R2 hb2 hb1
  go_wp2_with fail
  go_loopw [5] (fun i wr => ∃ (k : Nat) (L : List Pr), k ≤ 60 ∧ k ≤ xs.length ∧ i = .int .i64 (k : Int) ∧ L.length ≤ k ∧ RegB w.heap.size wr (.pointer (some ⟨sb, 0, none⟩)) L ∧ Below w.heap.size w wr) (fun i _ => 60 - (intOf i).toNat)
  case atStart => exact ⟨0, [], by omega, by omega, rfl, by simp, R2', b2⟩
  case round =>
    obtain ⟨k, L, hk, hkl, rfl, hL, R, hb⟩ := hrel
    have hszr := hb.size
    clear R2' b2
    by_cases hgo : k < xs.length ∧ k < 60
    · obtain ⟨b, off, x, va, vc, rfl, hbl, hx, hvb, c0, c1, c2, c3, i0, i1, i2, shb, _⟩ := (HA0.out.below hb).at k hgo.1
      have hki : (k : Int) < (xs.length : Int) := by omega
      have hk0 : (0 : Int) ≤ (k : Int) := by omega
      have hk60 : (k : Int) < 60 := by omega
      obtain ⟨d, who', vb, bs, n⟩ := x
      simp only at hvb c0 c1 c2 c3 i0 i1 i2 shb
      clear hvb hx
      by_cases hd : d = 0
      · subst hd
        obtain ⟨S, hR, hS⟩ := R
        have hlen := signL_le L who' bs
        have hsg : ∀ w', wr.grownBy w' none → Calls Try.prog 11 #[.pointer (some ⟨sb, 0, none⟩), .int .i64 who', .slice va bs.length vc] w' fun e w3 => e = .returned (.int .i64 (signE who' bs)) ∧
            (w3.cell? ⟨b, off + k * 4 + 1, none⟩ = some (.int .i64 who') ∧ w3.cell? ⟨b, off + k * 4 + 2, none⟩ = some (.slice va bs.length vc)) ∧ Hid (RegB w.heap.size w3 (.pointer (some ⟨sb, 0, none⟩)) (signL L who' bs) ∧ Below w.heap.size w w3) := fun w' hg => by
          have hbn : Below wr.heap.size wr w' := (Below.refl _ wr).grown hg (Nat.le_refl _) (fun k e => by cases e)
          have hszn := hbn.size
          refine (sign_any _ _ who' bs L S _ (hR.new hbn) i1 ((shb.below (hbn.mono hszr)).mono (Nat.le_trans hszr hszn)) (by omega)).mono ?_
          rintro e w3 ⟨rfl, R3, k3⟩
          have hb3 : Below w.heap.size wr w3 := (hbn.mono hszr).trans (k3.below hS (Nat.le_trans hszr hszn))
          refine ⟨rfl, ⟨by rw [hb3.cell (p := ⟨b, off + k * 4 + 1, none⟩) hbl]; exact c1, by rw [hb3.cell (p := ⟨b, off + k * 4 + 2, none⟩) hbl]; exact c2⟩, ⟨⟨_, R3, fun i hi => ?_⟩, hb.trans hb3⟩⟩
          rcases hi with hi | hi
          · exact hS i hi
          · exact Nat.le_trans (Nat.le_trans hszr hszn) hi.1
        have HSG := hid hsg
        have HC := hid (show wr.cell? ⟨b, off + k * 4 + 1, none⟩ = some (.int .i64 who') ∧ wr.cell? ⟨b, off + k * 4 + 2, none⟩ = some (.slice va bs.length vc) from ⟨c1, c2⟩)
        clear hsg hR shb
        generalize signL L who' bs = L' at *
        generalize signE who' bs = E at *
        go_wp2_with fail
        go_region_held3 (fun w' => w'.cell? ⟨b, off + k * 4 + 1, none⟩ = some (.int .i64 who') ∧ w'.cell? ⟨b, off + k * 4 + 2, none⟩ = some (.slice va bs.length vc))
          (first | exact HC.out | assumption)
          ((go_at_call 11; refine (HSG.out _ (grown_drew wr)).mono ?_; rintro e w3 ⟨rfl, hS3, HF3⟩))
        obtain ⟨R3, b3⟩ := HF3.out
        go_wp2
        go_roundw
        case rel => exact ⟨k + 1, L', by omega, by omega, by go_num, by omega, R3, b3⟩
        case measure => simp [intOf]; omega
      · have hdf : decide (d = 0) = false := decide_eq_false hd
        clear shb i0 i1 i2
        go_wp2_with fail
        go_roundw
        case rel => exact ⟨k + 1, L, by omega, by omega, by go_num, by omega, R, hb⟩
        case measure => simp [intOf]; omega
    · have hex : ¬ k < xs.length ∨ ¬ k < 60 := by omega
      have hL60 : L.length ≤ 60 := by omega
      have hLH : L.length ≤ 60 := hL60
      by_cases hk1 : k < xs.length
      · have hki : (k : Int) < (xs.length : Int) := by omega
        have hk60 : ¬ (k : Int) < 60 := by omega
        go_wp2_with fail
        go_loopw [6, 7] (fun n i wq => ∃ j : Nat, j ≤ 66 ∧ i = .int .i64 (j : Int) ∧ n = .int .i64 (cnt L j : Int) ∧ RegB w.heap.size wq (.pointer (some ⟨sb, 0, none⟩)) L ∧ Below w.heap.size w wq) (fun _ i _ => 66 - (intOf i).toNat)
        case atStart => exact ⟨0, by omega, rfl, rfl, R, hb⟩
        case round =>
          clear R hb hszr
          obtain ⟨j, hj, rfl, rfl, Rj, hbj⟩ := hrel
          have hcl := cnt_le L Rj.ok.1 j
          by_cases hj66 : j < 66
          · have hji : (j : Int) ≤ 65 := by omega
            have ij : I64 (j : Int) := ⟨by omega, by omega⟩
            have hcs : cnt L (j + 1) = cnt L j + (textsOf L (j : Int)).length := rfl
            have hcl2 := cnt_le L Rj.ok.1 (j + 1)
            have HND := hid (texts_nodup L Rj.ok.2 (j : Int))
            have HMM := hid (fun t => mem_texts L (j : Int) t)
            have HBY := hid (by_B w.heap.size _ (j : Int) L _ Rj ij (by omega))
            clear Rj
            generalize textsOf L (j : Int) = rows at *
            generalize cnt L j = cj at *
            generalize hcj : cnt L (j + 1) = cj1 at *
            have HCJ := hid hcj
            have HCS := hid hcs
            have hcr : cj + rows.length ≤ 60 := by omega
            clear hcj hcs
            go_wp2_with fail
            refine HBY.out.mono ?_
            rintro e w4 ⟨va, vc, rfl, hvm, hvc, hLs, R4, b4⟩
            have hvc2 : vc ≤ 9223372036854775807 := by unfold maxLen at hvm; exact hvm
            have B4 := hid (hbj.trans (b4.mono hbj.size))
            have HLS := hid hLs
            clear b4 hLs HBY
            go_wp2_with fail
            go_loopw [9] (fun i w5 => ∃ m : Nat, m ≤ rows.length ∧ i = .int .i64 (m : Int) ∧ RegB w.heap.size w5 (.pointer (some ⟨sb, 0, none⟩)) L ∧ Hid (Below w4.heap.size w4 w5)) (fun i _ => rows.length - (intOf i).toNat)
            case atStart => exact ⟨0, by omega, rfl, R4, Below.refl _ _⟩
            case round =>
              clear R4
              rename_i w5 _
              obtain ⟨m, hm, rfl, R5, B5⟩ := hrel
              by_cases hm2 : m < rows.length
              · obtain ⟨gb, goff, ak, ck, rfl, hcell, hsh⟩ := (HLS.out.below B5.out).at m hm2
                have hmi : (m : Int) < (rows.length : Int) := by omega
                have hm0 : (0 : Int) ≤ (m : Int) := by omega
                have hkn := knows_B w.heap.size _ _ (j : Int) (rows[m]?.getD []) L _ R5 ij (hsh.mono B5.out.size)
                rw [decide_eq_true ((HMM.out _).1 (by rw [List.getElem?_eq_getElem hm2]; exact List.getElem_mem hm2))] at hkn
                have HKN := hid hkn
                clear hkn hsh R5
                generalize rows[m]?.getD [] = r0 at *
                go_wp2_with fail
                refine HKN.out.mono ?_
                rintro e w6 ⟨rfl, R6, b6⟩
                have B6 := hid (B5.out.trans (b6.mono B5.out.size))
                have R6H := hid R6
                clear b6 HKN R6
                go_wp2_with fail
                go_loopw [10] (fun i w7 => ∃ q : Nat, q ≤ m ∧ i = .int .i64 (q : Int) ∧ Hid (∀ D, Below D w6 w7)) (fun i _ => m - (intOf i).toNat)
                case atStart => exact ⟨0, Nat.zero_le _, rfl, fun D => Below.refl _ _⟩
                case round =>
                  rename_i w7 _
                  obtain ⟨q, hq, rfl, HD⟩ := hrel
                  by_cases hqm : q < m
                  · have hL7 := (HLS.out.below B6.out).below (HD.out _)
                    obtain ⟨a1, k1, hc1, hs1⟩ := hL7.at2 m hm2
                    obtain ⟨a2, k2, hc2, hs2⟩ := hL7.at2 q (by omega)
                    have e1 := fun nq => strR (hs1.drewC nq)
                    have e2 := fun nq => strR (hs2.drewC nq)
                    have hcmp := str_beqC (rows[m]?.getD []) (rows[q]?.getD [])
                    rw [decide_eq_false (nodup_at rows HND.out m q hm2 hqm)] at hcmp
                    have hqi : (q : Int) < (rows.length : Int) := by omega
                    have hq0 : (0 : Int) ≤ (q : Int) := by omega
                    have hqmi : (q : Int) < (m : Int) := by omega
                    clear hs1 hs2 hL7 hcell
                    generalize rows[m]?.getD [] = r1 at *
                    generalize rows[q]?.getD [] = r2 at *
                    go_wp2_with fail
                    go_quiet (fail)
                    go_wp2_with fail
                    go_roundw
                    case rel => exact ⟨q + 1, by omega, by go_num, fun D => below_drewN (HD.out D) _⟩
                    case measure => simp [intOf]; omega
                  · have hqmi : ¬ (q : Int) < (m : Int) := by omega
                    go_wp2
                    go_roundw
                    case rel => exact ⟨m + 1, by omega, by go_num, R6H.out.new (HD.out _), B6.out.trans (HD.out _)⟩
                    case measure => simp [intOf]; omega
              · have hmi : ¬ (m : Int) < (rows.length : Int) := by omega
                go_wp2
                go_roundw
                case rel => exact ⟨j + 1, by omega, by go_num, by rw [HCJ.out, HCS.out]; go_num, R5, B4.out.trans (B5.out.mono B4.out.size)⟩
                case measure => simp [intOf]; omega
          · have hje : j = 66 := by omega
            have hji : ¬ (j : Int) ≤ 65 := by omega
            have HJ := hid hje
            have HCT := hid (cnt_all L Rj.ok.1)
            clear hje
            have HCO := hid (count_B w.heap.size _ _ _ Rj)
            have HBJ := hid hbj
            go_wp2_with fail
            refine HCO.out.mono ?_
            rintro e w4 ⟨rfl, rfl⟩
            have hfin : cnt L j = L.length := by rw [HJ.out]; exact HCT.out
            go_wp2
            go_ret
            exact ⟨by simp, HBJ.out⟩
      · have hki : ¬ (k : Int) < (xs.length : Int) := by omega
        go_wp2_with fail
        go_loopw [6, 7] (fun n i wq => ∃ j : Nat, j ≤ 66 ∧ i = .int .i64 (j : Int) ∧ n = .int .i64 (cnt L j : Int) ∧ RegB w.heap.size wq (.pointer (some ⟨sb, 0, none⟩)) L ∧ Below w.heap.size w wq) (fun _ i _ => 66 - (intOf i).toNat)
        case atStart => exact ⟨0, by omega, rfl, rfl, R, hb⟩
        case round =>
          clear R hb hszr
          obtain ⟨j, hj, rfl, rfl, Rj, hbj⟩ := hrel
          have hcl := cnt_le L Rj.ok.1 j
          by_cases hj66 : j < 66
          · have hji : (j : Int) ≤ 65 := by omega
            have ij : I64 (j : Int) := ⟨by omega, by omega⟩
            have hcs : cnt L (j + 1) = cnt L j + (textsOf L (j : Int)).length := rfl
            have hcl2 := cnt_le L Rj.ok.1 (j + 1)
            have HND := hid (texts_nodup L Rj.ok.2 (j : Int))
            have HMM := hid (fun t => mem_texts L (j : Int) t)
            have HBY := hid (by_B w.heap.size _ (j : Int) L _ Rj ij (by omega))
            clear Rj
            generalize textsOf L (j : Int) = rows at *
            generalize cnt L j = cj at *
            generalize hcj : cnt L (j + 1) = cj1 at *
            have HCJ := hid hcj
            have HCS := hid hcs
            have hcr : cj + rows.length ≤ 60 := by omega
            clear hcj hcs
            go_wp2_with fail
            refine HBY.out.mono ?_
            rintro e w4 ⟨va, vc, rfl, hvm, hvc, hLs, R4, b4⟩
            have hvc2 : vc ≤ 9223372036854775807 := by unfold maxLen at hvm; exact hvm
            have B4 := hid (hbj.trans (b4.mono hbj.size))
            have HLS := hid hLs
            clear b4 hLs HBY
            go_wp2_with fail
            go_loopw [9] (fun i w5 => ∃ m : Nat, m ≤ rows.length ∧ i = .int .i64 (m : Int) ∧ RegB w.heap.size w5 (.pointer (some ⟨sb, 0, none⟩)) L ∧ Hid (Below w4.heap.size w4 w5)) (fun i _ => rows.length - (intOf i).toNat)
            case atStart => exact ⟨0, by omega, rfl, R4, Below.refl _ _⟩
            case round =>
              clear R4
              rename_i w5 _
              obtain ⟨m, hm, rfl, R5, B5⟩ := hrel
              by_cases hm2 : m < rows.length
              · obtain ⟨gb, goff, ak, ck, rfl, hcell, hsh⟩ := (HLS.out.below B5.out).at m hm2
                have hmi : (m : Int) < (rows.length : Int) := by omega
                have hm0 : (0 : Int) ≤ (m : Int) := by omega
                have hkn := knows_B w.heap.size _ _ (j : Int) (rows[m]?.getD []) L _ R5 ij (hsh.mono B5.out.size)
                rw [decide_eq_true ((HMM.out _).1 (by rw [List.getElem?_eq_getElem hm2]; exact List.getElem_mem hm2))] at hkn
                have HKN := hid hkn
                clear hkn hsh R5
                generalize rows[m]?.getD [] = r0 at *
                go_wp2_with fail
                refine HKN.out.mono ?_
                rintro e w6 ⟨rfl, R6, b6⟩
                have B6 := hid (B5.out.trans (b6.mono B5.out.size))
                have R6H := hid R6
                clear b6 HKN R6
                go_wp2_with fail
                go_loopw [10] (fun i w7 => ∃ q : Nat, q ≤ m ∧ i = .int .i64 (q : Int) ∧ Hid (∀ D, Below D w6 w7)) (fun i _ => m - (intOf i).toNat)
                case atStart => exact ⟨0, Nat.zero_le _, rfl, fun D => Below.refl _ _⟩
                case round =>
                  rename_i w7 _
                  obtain ⟨q, hq, rfl, HD⟩ := hrel
                  by_cases hqm : q < m
                  · have hL7 := (HLS.out.below B6.out).below (HD.out _)
                    obtain ⟨a1, k1, hc1, hs1⟩ := hL7.at2 m hm2
                    obtain ⟨a2, k2, hc2, hs2⟩ := hL7.at2 q (by omega)
                    have e1 := fun nq => strR (hs1.drewC nq)
                    have e2 := fun nq => strR (hs2.drewC nq)
                    have hcmp := str_beqC (rows[m]?.getD []) (rows[q]?.getD [])
                    rw [decide_eq_false (nodup_at rows HND.out m q hm2 hqm)] at hcmp
                    have hqi : (q : Int) < (rows.length : Int) := by omega
                    have hq0 : (0 : Int) ≤ (q : Int) := by omega
                    have hqmi : (q : Int) < (m : Int) := by omega
                    clear hs1 hs2 hL7 hcell
                    generalize rows[m]?.getD [] = r1 at *
                    generalize rows[q]?.getD [] = r2 at *
                    go_wp2_with fail
                    go_quiet (fail)
                    go_wp2_with fail
                    go_roundw
                    case rel => exact ⟨q + 1, by omega, by go_num, fun D => below_drewN (HD.out D) _⟩
                    case measure => simp [intOf]; omega
                  · have hqmi : ¬ (q : Int) < (m : Int) := by omega
                    go_wp2
                    go_roundw
                    case rel => exact ⟨m + 1, by omega, by go_num, R6H.out.new (HD.out _), B6.out.trans (HD.out _)⟩
                    case measure => simp [intOf]; omega
              · have hmi : ¬ (m : Int) < (rows.length : Int) := by omega
                go_wp2
                go_roundw
                case rel => exact ⟨j + 1, by omega, by go_num, by rw [HCJ.out, HCS.out]; go_num, R5, B4.out.trans (B5.out.mono B4.out.size)⟩
                case measure => simp [intOf]; omega
          · have hje : j = 66 := by omega
            have hji : ¬ (j : Int) ≤ 65 := by omega
            have HJ := hid hje
            have HCT := hid (cnt_all L Rj.ok.1)
            clear hje
            have HCO := hid (count_B w.heap.size _ _ _ Rj)
            have HBJ := hid hbj
            go_wp2_with fail
            refine HCO.out.mono ?_
            rintro e w4 ⟨rfl, rfl⟩
            have hfin : cnt L j = L.length := by rw [HJ.out]; exact HCT.out
            go_wp2
            go_ret
            exact ⟨by simp, HBJ.out⟩
end Go.Proofs.Ytnhgjjpjmfjmjaa
