/- What is agreed is said by one that is not faulty: the plain fact, and the walk of QuorumOne. -/
import Derived.Test.YtkjgipiaamhdlaaSmall6
namespace Go.Proofs.Ytkjgipiaamhdlaa
open Go.RowKit
set_option linter.unusedVariables false
set_option maxRecDepth 20000

theorem countP_range (p : Nat → Bool) (m : Nat) : ∀ k, m ≤ k → (List.range m).countP p ≤ (List.range k).countP p
  | 0, h => by
    have : m = 0 := by omega
    rw [this]
    exact Nat.le_refl _
  | k + 1, h => by
    rcases Nat.lt_or_ge k m with e | e
    · have : m = k + 1 := by omega
      rw [this]
      exact Nat.le_refl _
    · have := countP_range p m k e
      rw [List.range_succ, List.countP_append]
      omega

/-- If all that say what is agreed are faulty, there are more than f of these. -/
theorem one_fact (f : Int) (h1 : 1 ≤ f) (h5 : f ≤ 5) (ts : List (List UInt8)) (q : Nat) (hq : q < 65536) (hne : agQ (sizeQ f) ts ≠ []) (hcnt : ((memQ (q : Int) 16).length : Int) ≤ f)
    (hall : ∀ j, j < min (sizeQ f).toNat ts.length → ts[j]? = some (agQ (sizeQ f) ts) → q.testBit j = true) : False := by
  obtain ⟨s1, s2, s3, s4, s5⟩ := sizeQ_ok ⟨h1, h5⟩
  have k1 := agB_said Op.bytesLess (fewQ (sizeQ f)) ts _ hne
  have k2 := count_bits ts (agQ (sizeQ f) ts) (fun j => q.testBit j) _ hall
  have k3 := countP_range (fun j => q.testBit j) (min (sizeQ f).toNat ts.length) 16 (by rw [s1]; omega)
  rw [memQ_nat q hq, List.length_map, memsN_len, show min (16 : Int).toNat 16 = 16 from rfl] at hcnt
  unfold agQ at k2
  have k4 : f + 1 ≤ fewQ (sizeQ f) := by omega
  clear s1 s2 s3 s4 s5
  omega

set_option maxHeartbeats 1000000 in
theorem one_law (f : Int) (v : Value) (ts : List (List UInt8)) (y : Int) (w : World) (h1 : -9223372036854775808 ≤ f) (h2 : f ≤ 9223372036854775807) (hL : Strs w.heap.size w v ts) (y1 : -9223372036854775808 ≤ y) (y2 : y ≤ 9223372036854775807) :
    Calls Try.prog 6 #[.int .i64 f, v, .int .i64 y] w fun e w' => e = .returned (.bool true) ∧ Below w.heap.size w w' := by
  have HF := hid (show I64 f from ⟨h1, h2⟩)
  obtain ⟨a, c, rfl, hc1, hc2⟩ := hL.form
  unfold maxLen at hc2
  have HL := hid hL
  clear hL
  by_cases h : 1 ≤ f ∧ f ≤ 5
  · have HS := hid (sizeQ_ok h)
    obtain ⟨ha, hb⟩ := h
    have hsz : sizeQ f = 3 * f + 1 := HS.out.1
    by_cases hx0 : y < 0
    · clear hsz
      go_enter Try.func6, Try.ntmps6
      go_wp2_with (first
        | (go_at_call 8; refine (small6_any _).mono ?_; rintro e w1 ⟨rfl, hb1⟩)
        | (go_at_call 9; refine (size_any _ _ HF.out).mono ?_; rintro e w2 ⟨rfl, rfl⟩; rw [HS.out.2.1]))
      go_ret
      exact ⟨rfl, hb1⟩
    by_cases hx1 : 65535 < y
    · clear hsz
      go_enter Try.func6, Try.ntmps6
      go_wp2_with (first
        | (go_at_call 8; refine (small6_any _).mono ?_; rintro e w1 ⟨rfl, hb1⟩)
        | (go_at_call 9; refine (size_any _ _ HF.out).mono ?_; rintro e w2 ⟨rfl, rfl⟩; rw [HS.out.2.1]))
      go_ret
      exact ⟨rfl, hb1⟩
    obtain ⟨q, hqy⟩ : ∃ q : Nat, y = q := ⟨y.toNat, by omega⟩
    have hA := one_fact f ha hb ts q (by omega)
    rw [← hqy] at hA
    have HA := hid hA
    have HQY := hid hqy
    clear hA hqy
    have hml := memQ_len y 16
    have HSI := hid (show I64 (sizeQ f) by rw [hsz]; unfold I64; omega)
    clear hsz
    generalize hn : sizeQ f = n at *
    have hn2 : n = 3 * f + 1 := HS.out.1
    have hn4 : 4 ≤ n := by omega
    have hn16 : n ≤ 16 := by omega
    clear hn2
    have HN := hid hn
    clear hn
    go_enter Try.func6, Try.ntmps6
    go_wp2_with (first
      | (go_at_call 8; refine (small6_any _).mono ?_; rintro e w1 ⟨rfl, hb1⟩)
      | (go_at_call 9; refine (size_any _ _ HF.out).mono ?_; rintro e w2 ⟨rfl, rfl⟩; rw [HN.out, HS.out.2.1]))
    refine (count_any _ _ (by unfold I64; omega)).mono ?_
    rintro e w3 ⟨rfl, hb3⟩
    have hB3 := hb1.trans (hb3.mono hb1.size)
    clear hb1 hb3
    by_cases hcf : f < ((memQ y 16).length : Int)
    · generalize (memQ y 16).length = d at *
      go_wp2
      go_ret
      exact ⟨rfl, hB3⟩
    have HA2 := hid (fun (hne : agQ n ts ≠ []) => HA.out hne (by omega))
    clear HA
    generalize (memQ y 16).length = d at *
    go_wp2_with fail
    refine (agreed_any _ n _ ts _ HSI.out hB3.size (HL.out.below hB3)).mono ?_
    rintro e w4 ⟨rfl, hb4⟩
    have hB4 := hB3.trans (hb4.mono hB3.size)
    have HL4 := hid (HL.out.below hB4)
    clear hb4 hB3 HL
    generalize agQ n ts = g at *
    by_cases hg : g = []
    · subst hg
      have e0 : str8 [] = ⟨#[]⟩ := rfl
      rw [e0]
      go_wp2
      go_ret
      exact ⟨rfl, hB4⟩
    have hge : g.isEmpty = false := by simpa using hg
    have hge2 : (str8 g).toList.isEmpty = false := by rw [str8_toList]; exact hge
    rw [hge]
    have HA3 := hid (HA2.out hg)
    clear HA2 hg hge
    go_wp2_with fail
    go_loopw [12] (fun i wr => ∃ k : Nat, k ≤ ts.length ∧ (k : Int) ≤ n ∧ i = .int .i64 (k : Int) ∧ Hid (∀ j, j < k → ts[j]? = some g → q.testBit j = true) ∧ wr = w4) (fun i _ => ts.length - (intOf i).toNat)
    case atStart => exact ⟨0, by omega, by omega, rfl, hid (by intro j hj; omega), rfl⟩
    case round =>
      obtain ⟨k, hk, hkn, rfl, HJ, rfl⟩ := hrel
      by_cases hkl : k < ts.length ∧ (k : Int) < n
      · obtain ⟨hkl, hkn2⟩ := hkl
        obtain ⟨b, off, rfl, _, _, hbB, hcell, hlen⟩ := HL4.out.at k hkl
        have hkz : (k : Int) < (ts.length : Int) := by omega
        have HT := hid (List.getElem?_eq_getElem hkl)
        generalize ts[k] = t at *
        by_cases ht : t = g
        · subst ht
          have heq : ((str8 t).toList == (str8 t).toList) = true := by simp
          by_cases hbit : q.testBit k = true
          · have HH := hid (show hasQ y ((k : Int) + 1) = true by
              have hqy := HQY.out
              unfold hasQ
              rw [decide_eq_true (by omega), decide_eq_true (by omega), show y.toNat = q by omega, show ((k : Int) + 1 - 1).toNat = k by omega]
              exact hbit)
            have HB := hid hbit
            clear hbit
            go_wp2_with (go_at_call 24; refine (has_any _ _ _ (by unfold I64; omega) (by unfold I64; omega)).mono ?_; rintro e w6 ⟨rfl, rfl⟩; rw [HH.out])
            go_roundw
            case rel => exact ⟨k + 1, by omega, by omega, by go_num, hid (fun j hj hjt => by
              rcases Nat.lt_or_ge j k with h | h
              · exact HJ.out j h hjt
              · have : j = k := by omega
                subst this
                exact HB.out), by trivial⟩
            case measure => simp only [intOf]; omega
          · have HH := hid (show hasQ y ((k : Int) + 1) = false by
              have hqy := HQY.out
              unfold hasQ
              rw [decide_eq_true (by omega), decide_eq_true (by omega), show y.toNat = q by omega, show ((k : Int) + 1 - 1).toNat = k by omega]
              simpa using hbit)
            clear hbit
            go_wp2_with (go_at_call 24; refine (has_any _ _ _ (by unfold I64; omega) (by unfold I64; omega)).mono ?_; rintro e w6 ⟨rfl, rfl⟩; rw [HH.out])
            go_ret
            exact ⟨rfl, hB4⟩
        · have heq : ((str8 t).toList == (str8 g).toList) = false := by rw [str8_toList, str8_toList]; simpa using ht
          have HTG := hid ht
          clear ht
          go_wp2
          go_roundw
          case rel => exact ⟨k + 1, by omega, by omega, by go_num, hid (fun j hj hjt => by
            rcases Nat.lt_or_ge j k with h | h
            · exact HJ.out j h hjt
            · have : j = k := by omega
              subst this
              rw [HT.out] at hjt
              exact absurd (Option.some.inj hjt) HTG.out), by trivial⟩
          case measure => simp only [intOf]; omega
      · exact (HA3.out fun j hj => HJ.out j (by omega)).elim
  · have HS := hid (sizeQ_bad h)
    clear h
    go_enter Try.func6, Try.ntmps6
    go_wp2_with (first
      | (go_at_call 8; refine (small6_any _).mono ?_; rintro e w1 ⟨rfl, hb1⟩)
      | (go_at_call 9; refine (size_any _ _ HF.out).mono ?_; rintro e w2 ⟨rfl, rfl⟩; rw [HS.out.1, HS.out.2]))
    go_ret
    exact ⟨rfl, hb1⟩
end Go.Proofs.Ytkjgipiaamhdlaa
