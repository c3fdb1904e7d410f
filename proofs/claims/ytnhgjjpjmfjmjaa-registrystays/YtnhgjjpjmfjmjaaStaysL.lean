/- The walk of RegistryStays: what one signs makes nothing known of another one. -/
import Derived.Test.YtnhgjjpjmfjmjaaActs
namespace Go.Proofs.Ytnhgjjpjmfjmjaa
open Go.RowKit Go.Maps
set_option linter.unusedVariables false

theorem list_beqR (a b : List UInt8) : (a == b) = decide (a = b) := by
  by_cases h : a = b
  · rw [decide_eq_true h, h]; simp
  · rw [decide_eq_false h]; simpa using h

theorem str_beqR (a b : List UInt8) : ((str8 a).toList == (str8 b).toList) = decide (a = b) := by
  rw [ByteArray.toList_eq, ByteArray.toList_eq]
  exact list_beqR a b

theorem at_of {α : Type} (l : List α) (k : Nat) (h : k < l.length) : ∃ x, l[k]? = some x := ⟨l[k], List.getElem?_eq_getElem h⟩

set_option maxRecDepth 20000 in
set_option maxHeartbeats 4000000 in
theorem stays_law (v : Value) (xs : List ActV) (who : Int) (vt : Value) (t : List UInt8) (w : World) (hA : Acts w.heap.size w v xs) (hw : I64 who) (hsh : Shows w.heap.size w vt t) :
    Calls Try.prog 4 #[v, .int .i64 who, vt] w fun e w' => e = .returned (.bool true) ∧ Below w.heap.size w w' := by
  have hA0 := hA
  obtain ⟨a, c, rfl, h1, h2, h3⟩ := hA
  have hmax : c ≤ 9223372036854775807 := by unfold maxLen at h2; omega
  go_enter Try.func4, Try.ntmps4
  go_wp2_with fail
  refine (small_any w).mono ?_
  rintro e w1 ⟨rfl, hb1⟩
  go_wp2_with fail
  refine (new_B w1).mono ?_
  rintro e w2 ⟨sb, rfl, R2, hb2⟩
  have R2' : RegB w.heap.size w2 (.pointer (some ⟨sb, 0, none⟩)) [] := by obtain ⟨S, hR, hS⟩ := R2; exact ⟨S, hR, fun i hi => Nat.le_trans hb1.size (hS i hi)⟩
  have b2 : Below w.heap.size w w2 := hb1.trans (hb2.mono hb1.size)
  clear R2 hb2 hb1
  go_wp2_with fail
  go_loopw [9, 10] (fun u i wr => ∃ (k : Nat) (L : List Pr), k ≤ 150 ∧ k ≤ xs.length ∧ i = .int .i64 (k : Int) ∧ u = .bool (decide ((who, t) ∈ L)) ∧ L.length ≤ k ∧ RegB w.heap.size wr (.pointer (some ⟨sb, 0, none⟩)) L ∧ Below w.heap.size w wr) (fun _ i _ => 150 - (intOf i).toNat)
  case atStart => exact ⟨0, [], by omega, by omega, rfl, by simp, by simp, R2', b2⟩
  case round =>
    obtain ⟨k, L, hk, hkl, rfl, rfl, hL, R, hb⟩ := hrel
    have hszr := hb.size
    have hA1 := hA0.below hb
    have hshr := (hsh.below hb).mono hszr
    by_cases hlt : k < xs.length
    · by_cases h150 : k < 150
      · obtain ⟨b, off, x, va, vc, rfl, hbl, hx, hvb, c0, c1, c2, c3, i0, i1, i2, shb, _⟩ := hA1.at k hlt
        have hki : (k : Int) < (xs.length : Int) := by omega
        have hk0 : (0 : Int) ≤ (k : Int) := by omega
        have hk150 : (k : Int) < 150 := by omega
        obtain ⟨d, who', vb, bs, n⟩ := x
        simp only at hvb c0 c1 c2 c3 i0 i1 i2 shb
        clear hvb hA1 h3
        have HX := hid hx
        clear hx
        by_cases hd : d = 0
        · subst hd
          obtain ⟨S, hR, hS⟩ := R
          have hnS : ¬ S wr.heap.size := fun h => by have := hR.lt _ h; omega
          have hsg := sign_any _ _ who' bs L S _ (hR.new (new_alloc wr (.cells #[.int .i64 0, .int .i64 who', .slice va bs.length vc, .int .i64 n] 30))) i1 ((shb.below ((Below.refl _ wr).alloc hszr _)).mono (alloc_ge hszr _)) (by omega)
          have hfin : ∀ w3, Reg w3 (.pointer (some ⟨sb, 0, none⟩)) (signL L who' bs) (ext S (wr.alloc (.cells #[.int .i64 0, .int .i64 who', .slice va bs.length vc, .int .i64 n] 30)) w3) → Spares S (wr.alloc (.cells #[.int .i64 0, .int .i64 who', .slice va bs.length vc, .int .i64 n] 30)) w3 →
              RegB w.heap.size w3 (.pointer (some ⟨sb, 0, none⟩)) (signL L who' bs) ∧ Below w.heap.size wr w3 ∧ w3.cell? ⟨wr.heap.size, 1, none⟩ = some (.int .i64 who') ∧ w3.cell? ⟨wr.heap.size, 2, none⟩ = some (.slice va bs.length vc) := fun w3 R3 k3 => by
            have hblk := heap_alloc_new wr (.cells #[.int .i64 0, .int .i64 who', .slice va bs.length vc, .int .i64 n] 30)
            refine ⟨⟨_, R3, fun i hi => ?_⟩, ((Below.refl _ wr).alloc hszr _).trans (k3.below hS (alloc_ge hszr _)), k3.cell (cell_of_row _ _ _ _ _ _ hblk) hnS, k3.cell (cell_of_row _ _ _ _ _ _ hblk) hnS⟩
            rcases hi with hi | hi
            · exact hS i hi
            · exact Nat.le_trans (alloc_ge hszr _) hi.1
          have HSG := hid hsg
          have HFIN := hid hfin
          have hmem := mem_signL L who who' t bs
          have hlen := signL_le L who' bs
          clear hsg hfin hR hnS
          generalize signL L who' bs = L' at *
          generalize signE who' bs = E at *
          have HM := hid hmem
          clear hmem
          generalize decide ((who, t) ∈ L) = q at *
          go_wp2_with fail
          refine HSG.out.mono ?_
          rintro e w3 ⟨rfl, R3', k3⟩
          obtain ⟨R3, b3', d1, d2⟩ := HFIN.out w3 R3' k3
          have b3 := hb.trans b3'
          have sh3 := (hsh.below b3).mono b3.size
          have e1 := strR (shb.below b3')
          have e2 := strR (hsh.below b3)
          have hcmp := str_beqR bs t
          have HB3 := hid b3
          have HKN := hid (knows_B w.heap.size _ _ who t L' w3 R3 hw sh3)
          clear R3' k3 R3 b3 b3' HSG HFIN shb hshr
          by_cases hE : E = 0
          · subst hE
            by_cases hwho : who' = who
            · subst hwho
              by_cases ht : bs = t
              · rw [decide_eq_true ht] at hcmp
                have hq : decide ((who', t) ∈ L') = true := by rw [HM.out, decide_eq_true ht]; simp
                rw [hq] at HKN
                have HQ := hid hq
                clear hq ht
                go_wp2_with fail
                refine HKN.out.mono ?_
                rintro e w4 ⟨rfl, R4, b4⟩
                go_wp2
                go_roundw
                case rel => exact ⟨k + 1, L', by omega, by omega, by go_num, by rw [HQ.out], by omega, R4, HB3.out.trans (b4.mono HB3.out.size)⟩
                case measure => simp [intOf]; omega
              · rw [decide_eq_false ht] at hcmp
                have hq : decide ((who', t) ∈ L') = q := by rw [HM.out, decide_eq_false ht]; simp
                rw [hq] at HKN
                have HQ := hid hq
                clear hq ht
                go_wp2_with fail
                refine HKN.out.mono ?_
                rintro e w4 ⟨rfl, R4, b4⟩
                go_wp2
                go_roundw
                case rel => exact ⟨k + 1, L', by omega, by omega, by go_num, by rw [HQ.out], by omega, R4, HB3.out.trans (b4.mono HB3.out.size)⟩
                case measure => simp [intOf]; omega
            · have hq : decide ((who, t) ∈ L') = q := by rw [HM.out, decide_eq_false hwho]; simp
              rw [hq] at HKN
              have HQ := hid hq
              clear hq hcmp e1 e2
              go_wp2_with fail
              refine HKN.out.mono ?_
              rintro e w4 ⟨rfl, R4, b4⟩
              go_wp2
              go_roundw
              case rel => exact ⟨k + 1, L', by omega, by omega, by go_num, by rw [HQ.out], by omega, R4, HB3.out.trans (b4.mono HB3.out.size)⟩
              case measure => simp [intOf]; omega
          · have hq : decide ((who, t) ∈ L') = q := by rw [HM.out, decide_eq_false hE]; simp
            rw [hq] at HKN
            have HQ := hid hq
            clear hq hcmp e1 e2
            go_wp2_with fail
            refine HKN.out.mono ?_
            rintro e w4 ⟨rfl, R4, b4⟩
            go_wp2
            go_roundw
            case rel => exact ⟨k + 1, L', by omega, by omega, by go_num, by rw [HQ.out], by omega, R4, HB3.out.trans (b4.mono HB3.out.size)⟩
            case measure => simp [intOf]; omega
        · have HKN := hid (knows_B w.heap.size _ _ who t L _ (R.new (new_alloc wr (.cells #[.int .i64 d, .int .i64 who', .slice va bs.length vc, .int .i64 n] 30))) hw (((hsh.below hb).below ((Below.refl _ wr).alloc hszr _)).mono (alloc_ge hszr _)))
          have HB := hid (hb.alloc hszr (.cells #[.int .i64 d, .int .i64 who', .slice va bs.length vc, .int .i64 n] 30))
          have hdf : decide (d = 0) = false := decide_eq_false hd
          clear R shb hshr hA0 i0 i1 i2 R2' b2
          generalize hq : decide ((who, t) ∈ L) = q at HKN ⊢
          have HQ := hid hq
          clear hq
          go_wp2_with fail
          refine HKN.out.mono ?_
          rintro e w4 ⟨rfl, R4, b4⟩
          go_wp2
          go_roundw
          case rel => exact ⟨k + 1, L, by omega, by omega, by go_num, by rw [HQ.out], by omega, R4, HB.out.trans (b4.mono HB.out.size)⟩
          case measure => simp [intOf]; omega
      · have HKN := hid (knows_B w.heap.size _ _ who t L _ R hw hshr)
        have h150i : ¬ ((k : Int) < 150) := by omega
        have hki : (k : Int) < (xs.length : Int) := by omega
        generalize hq : decide ((who, t) ∈ L) = q at HKN ⊢
        clear hq
        go_wp2_with fail
        refine HKN.out.mono ?_
        rintro e w4 ⟨rfl, R4, b4⟩
        go_wp2
        go_ret
        exact ⟨by simp, hb.trans (b4.mono hszr)⟩
    · have HKN := hid (knows_B w.heap.size _ _ who t L _ R hw hshr)
      have hki : ¬ ((k : Int) < (xs.length : Int)) := by omega
      generalize hq : decide ((who, t) ∈ L) = q at HKN ⊢
      clear hq
      go_wp2_with fail
      refine HKN.out.mono ?_
      rintro e w4 ⟨rfl, R4, b4⟩
      go_wp2
      go_ret
      exact ⟨by simp, hb.trans (b4.mono hszr)⟩
end Go.Proofs.Ytnhgjjpjmfjmjaa
