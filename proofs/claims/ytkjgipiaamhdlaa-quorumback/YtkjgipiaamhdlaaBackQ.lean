/- A set's members make it, and members the set: the plain facts, and the walk of QuorumBack. -/
import Derived.Test.YtkjgipiaamhdlaaSmall6
namespace Go.Proofs.Ytkjgipiaamhdlaa
open Go.RowKit
set_option linter.unusedVariables false
set_option maxRecDepth 20000

theorem set_members (s : Nat) (h : s < 65536) : setN (memQ (s : Int) 16) = s := by
  apply Nat.eq_of_testBit_eq
  intro i
  rw [setN_bit _ (memQ_ok _ _), memQ_nat s h]
  have e : min (16 : Int).toNat 16 = 16 := rfl
  rw [e, Bool.eq_iff_iff]
  simp only [decide_eq_true_eq, List.mem_map, mem_memsN]
  constructor
  · rintro ⟨j, ⟨_, h2⟩, h3⟩
    have : j = i := by omega
    rw [← this]
    exact h2
  · intro hb
    refine ⟨i, ⟨?_, hb⟩, rfl⟩
    rcases Nat.lt_or_ge i 16 with h1 | h1
    · exact h1
    · rw [bit_high (show s < 2 ^ 16 by simpa using h) h1] at hb
      cases hb

theorem members_back (s : Int) : setE (memQ s 16) = 0 ∧ ((0 ≤ s ∧ s < 65536) → setV (memQ s 16) = s) ∧ (¬ (0 ≤ s ∧ s < 65536) → setV (memQ s 16) = 0) := by
  obtain ⟨e1, e2⟩ := set_ok (memQ_ok s 16)
  refine ⟨e2, fun h => ?_, fun h => ?_⟩
  · obtain ⟨n, rfl⟩ : ∃ n : Nat, s = n := ⟨s.toNat, by omega⟩
    rw [e1, set_members n (by omega)]
  · rw [memQ_none h]
    rfl

theorem countP_or (p q : Nat → Bool) : ∀ l : List Nat, l.countP (fun i => p i || q i) ≤ l.countP p + l.countP q
  | [] => by simp
  | x :: l => by
    have := countP_or p q l
    simp only [List.countP_cons]
    cases p x <;> cases q x <;> simp <;> omega

theorem countP_one (x : Int) : ∀ k, (List.range k).countP (fun i : Nat => decide ((i : Int) + 1 = x)) = if 1 ≤ x ∧ x ≤ (k : Int) then 1 else 0
  | 0 => by
    rw [if_neg (by omega)]
    rfl
  | k + 1 => by
    rw [List.range_succ, List.countP_append, countP_one x k]
    by_cases h : (k : Int) + 1 = x
    · rw [if_neg (by omega), if_pos (by omega)]
      simp [h]
    · have e : List.countP (fun i : Nat => decide ((i : Int) + 1 = x)) [k] = 0 := by simp [h]
      rw [e]
      by_cases h2 : 1 ≤ x ∧ x ≤ (k : Int)
      · rw [if_pos h2, if_pos (by omega)]
      · rw [if_neg h2, if_neg (by omega)]

theorem countP_mem (k : Nat) : ∀ l : List Int, (List.range k).countP (fun i : Nat => decide ((i : Int) + 1 ∈ l)) ≤ l.length
  | [] => by simp
  | x :: l => by
    have h1 := countP_mem k l
    have h2 := countP_or (fun i : Nat => decide ((i : Int) + 1 = x)) (fun i : Nat => decide ((i : Int) + 1 ∈ l)) (List.range k)
    have h3 := countP_one x k
    have h4 : (if 1 ≤ x ∧ x ≤ (k : Int) then 1 else 0) ≤ 1 := by split <;> omega
    have e : (List.range k).countP (fun i : Nat => decide ((i : Int) + 1 ∈ x :: l)) = (List.range k).countP (fun i : Nat => decide ((i : Int) + 1 = x) || decide ((i : Int) + 1 ∈ l)) := by
      refine List.countP_congr fun i _ => ?_
      simp
    rw [e, List.length_cons]
    omega

theorem set_facts {l : List Int} (h : ∀ x ∈ l, 1 ≤ x ∧ x ≤ 16) : (∀ x ∈ l, hasQ ((setN l : Nat) : Int) x = true) ∧ (memQ ((setN l : Nat) : Int) 16).length ≤ l.length := by
  have hlt := setN_lt l h
  constructor
  · intro x hx
    have hx1 := h x hx
    unfold hasQ
    rw [decide_eq_true (by omega), decide_eq_true hx1, show ((setN l : Nat) : Int).toNat = setN l from rfl, setN_bit l h]
    simp only [Bool.true_and, decide_eq_true_eq]
    have : (((x - 1).toNat : Nat) : Int) + 1 = x := by omega
    rw [this]
    exact hx
  · rw [memQ_nat _ hlt, List.length_map, memsN_len]
    have e : (List.range (min (16 : Int).toNat 16)).countP (fun i => (setN l).testBit i) = (List.range 16).countP (fun i : Nat => decide ((i : Int) + 1 ∈ l)) :=
      List.countP_congr fun i _ => by rw [setN_bit l h]
    rw [e]
    exact countP_mem 16 l

set_option maxHeartbeats 1000000 in
theorem back_law (s : Int) (v : Value) (l : List Int) (w : World) (h1 : -9223372036854775808 ≤ s) (h2 : s ≤ 9223372036854775807) (hL : Ints w.heap.size w v l) (hl8 : l.length * 8 ≤ 140737488351232) :
    Calls Try.prog 7 #[.int .i64 s, v] w fun e w' => e = .returned (.bool true) ∧ Below w.heap.size w w' := by
  have HS := hid (show I64 s from ⟨h1, h2⟩)
  obtain ⟨a, c, rfl, hc1, hc2⟩ := hL.form
  unfold maxLen at hc2
  have HL := hid hL
  obtain ⟨E1, E2, E3⟩ := members_back s
  have HM := hid E1
  have hml := memQ_len s 16
  clear hL E1
  go_enter Try.func7, Try.ntmps7
  go_wp2_with (go_at_call 8; refine (small6_any _).mono ?_; rintro e w1 ⟨rfl, hb1⟩)
  refine (members_any s _ HS.out).mono ?_
  rintro e w2 ⟨vm, rfl, ho2, hb2⟩
  have hB2 := hb1.trans (hb2.mono hb1.size)
  obtain ⟨am, cm, rfl⟩ := owns_form ho2
  have HI := hid (show Ints w2.heap.size w2 (.slice am (memQ s 16).length cm) (memQ s 16) from ⟨(Cel.of_owns ho2).2, fun x hx => by have := memQ_ok s 16 x hx; unfold I64; omega⟩)
  clear hb1 hb2 ho2
  go_wp2_with fail
  refine (set_any _ _ _ _ HI.out).mono ?_
  rintro e w3 ⟨rfl, rfl⟩
  rw [HM.out]
  by_cases hr : 0 ≤ s ∧ s < 65536
  · rw [E2 hr]
    clear E2 E3 HI
    generalize hm : memQ s 16 = m at *
    obtain ⟨hr0, hr1⟩ := hr
    go_wp2_with fail
    refine (count_any _ _ HS.out).mono ?_
    rintro e w4 ⟨rfl, hb4⟩
    rw [hm]
    have hB4 := hB2.trans (hb4.mono hB2.size)
    clear hb4 hB2 hm
    have HL4 := hid (HL.out.below hB4)
    clear HL
    go_wp2_with fail
    refine (set_any _ _ _ _ HL4.out).mono ?_
    rintro e w5 ⟨rfl, rfl⟩
    by_cases hok : ∀ x ∈ l, 1 ≤ x ∧ x ≤ 16
    · rw [(set_ok hok).1, (set_ok hok).2]
      have HF := hid (set_facts hok)
      have hlt := setN_lt l hok
      clear hok
      generalize setN l = q at *
      go_wp2_with fail
      go_loopw [11] (fun i wr => ∃ k : Nat, k ≤ l.length ∧ i = .int .i64 (k : Int) ∧ wr = w5) (fun i _ => l.length - (intOf i).toNat)
      case atStart => exact ⟨0, by omega, rfl, rfl⟩
      case round =>
        obtain ⟨k, hk, rfl, rfl⟩ := hrel
        by_cases hkl : k < l.length
        · obtain ⟨b, off, rfl, _, _, hbB, hcell, hi64⟩ := HL4.out.at k hkl
          have HH := hid (HF.out.1 l[k] (List.getElem_mem hkl))
          generalize l[k] = x at *
          have hkz : (k : Int) < (l.length : Int) := by omega
          go_wp2_with (go_at_call 24; refine (has_any _ _ _ (by unfold I64; omega) hi64).mono ?_; rintro e w6 ⟨rfl, rfl⟩; rw [HH.out])
          go_roundw
          case rel => exact ⟨k + 1, by omega, by go_num, by trivial⟩
          case measure => simp only [intOf]; omega
        · have hkz : ¬ (k : Int) < (l.length : Int) := by omega
          have hcn := HF.out.2
          clear HF
          go_wp2_with fail
          refine (count_any _ _ (by unfold I64; omega)).mono ?_
          rintro e w6 ⟨rfl, hb6⟩
          have hB6 := hB4.trans (hb6.mono hB4.size)
          clear hb6 hB4
          generalize (memQ (q : Int) 16).length = d at *
          have hdz : (d : Int) ≤ (l.length : Int) := by omega
          go_wp2
          go_ret
          exact ⟨rfl, hB6⟩
    · have HB := hid (show setV l = 0 ∧ setE l = 6 from ⟨if_neg hok, if_neg hok⟩)
      clear hok
      rw [HB.out.1, HB.out.2]
      go_wp2
      go_ret
      exact ⟨rfl, hB4⟩
  · rw [E3 hr]
    clear E2 E3 HI
    generalize hm : memQ s 16 = m at *
    have hs0 : (0 == s) = false := by rw [beq_eq_false_iff_ne]; omega
    by_cases hr0 : s < 0
    · clear hr
      go_wp2_with fail
      refine (count_any _ _ HS.out).mono ?_
      rintro e w4 ⟨rfl, hb4⟩
      rw [hm]
      have hB4 := hB2.trans (hb4.mono hB2.size)
      clear hb4 hB2 hm
      have HL4 := hid (HL.out.below hB4)
      clear HL
      go_wp2_with fail
      refine (set_any _ _ _ _ HL4.out).mono ?_
      rintro e w5 ⟨rfl, rfl⟩
      by_cases hok : ∀ x ∈ l, 1 ≤ x ∧ x ≤ 16
      · rw [(set_ok hok).1, (set_ok hok).2]
        have HF := hid (set_facts hok)
        have hlt := setN_lt l hok
        clear hok
        generalize setN l = q at *
        go_wp2_with fail
        go_loopw [11] (fun i wr => ∃ k : Nat, k ≤ l.length ∧ i = .int .i64 (k : Int) ∧ wr = w5) (fun i _ => l.length - (intOf i).toNat)
        case atStart => exact ⟨0, by omega, rfl, rfl⟩
        case round =>
          obtain ⟨k, hk, rfl, rfl⟩ := hrel
          by_cases hkl : k < l.length
          · obtain ⟨b, off, rfl, _, _, hbB, hcell, hi64⟩ := HL4.out.at k hkl
            have HH := hid (HF.out.1 l[k] (List.getElem_mem hkl))
            generalize l[k] = x at *
            have hkz : (k : Int) < (l.length : Int) := by omega
            go_wp2_with (go_at_call 24; refine (has_any _ _ _ (by unfold I64; omega) hi64).mono ?_; rintro e w6 ⟨rfl, rfl⟩; rw [HH.out])
            go_roundw
            case rel => exact ⟨k + 1, by omega, by go_num, by trivial⟩
            case measure => simp only [intOf]; omega
          · have hkz : ¬ (k : Int) < (l.length : Int) := by omega
            have hcn := HF.out.2
            clear HF
            go_wp2_with fail
            refine (count_any _ _ (by unfold I64; omega)).mono ?_
            rintro e w6 ⟨rfl, hb6⟩
            have hB6 := hB4.trans (hb6.mono hB4.size)
            clear hb6 hB4
            generalize (memQ (q : Int) 16).length = d at *
            have hdz : (d : Int) ≤ (l.length : Int) := by omega
            go_wp2
            go_ret
            exact ⟨rfl, hB6⟩
      · have HB := hid (show setV l = 0 ∧ setE l = 6 from ⟨if_neg hok, if_neg hok⟩)
        clear hok
        rw [HB.out.1, HB.out.2]
        go_wp2
        go_ret
        exact ⟨rfl, hB4⟩
    · have hr1 : 65535 < s := by omega
      have hr2 : 0 ≤ s := by omega
      clear hr hr0
      go_wp2_with fail
      refine (count_any _ _ HS.out).mono ?_
      rintro e w4 ⟨rfl, hb4⟩
      rw [hm]
      have hB4 := hB2.trans (hb4.mono hB2.size)
      clear hb4 hB2 hm
      have HL4 := hid (HL.out.below hB4)
      clear HL
      go_wp2_with fail
      refine (set_any _ _ _ _ HL4.out).mono ?_
      rintro e w5 ⟨rfl, rfl⟩
      by_cases hok : ∀ x ∈ l, 1 ≤ x ∧ x ≤ 16
      · rw [(set_ok hok).1, (set_ok hok).2]
        have HF := hid (set_facts hok)
        have hlt := setN_lt l hok
        clear hok
        generalize setN l = q at *
        go_wp2_with fail
        go_loopw [11] (fun i wr => ∃ k : Nat, k ≤ l.length ∧ i = .int .i64 (k : Int) ∧ wr = w5) (fun i _ => l.length - (intOf i).toNat)
        case atStart => exact ⟨0, by omega, rfl, rfl⟩
        case round =>
          obtain ⟨k, hk, rfl, rfl⟩ := hrel
          by_cases hkl : k < l.length
          · obtain ⟨b, off, rfl, _, _, hbB, hcell, hi64⟩ := HL4.out.at k hkl
            have HH := hid (HF.out.1 l[k] (List.getElem_mem hkl))
            generalize l[k] = x at *
            have hkz : (k : Int) < (l.length : Int) := by omega
            go_wp2_with (go_at_call 24; refine (has_any _ _ _ (by unfold I64; omega) hi64).mono ?_; rintro e w6 ⟨rfl, rfl⟩; rw [HH.out])
            go_roundw
            case rel => exact ⟨k + 1, by omega, by go_num, by trivial⟩
            case measure => simp only [intOf]; omega
          · have hkz : ¬ (k : Int) < (l.length : Int) := by omega
            have hcn := HF.out.2
            clear HF
            go_wp2_with fail
            refine (count_any _ _ (by unfold I64; omega)).mono ?_
            rintro e w6 ⟨rfl, hb6⟩
            have hB6 := hB4.trans (hb6.mono hB4.size)
            clear hb6 hB4
            generalize (memQ (q : Int) 16).length = d at *
            have hdz : (d : Int) ≤ (l.length : Int) := by omega
            go_wp2
            go_ret
            exact ⟨rfl, hB6⟩
      · have HB := hid (show setV l = 0 ∧ setE l = 6 from ⟨if_neg hok, if_neg hok⟩)
        clear hok
        rw [HB.out.1, HB.out.2]
        go_wp2
        go_ret
        exact ⟨rfl, hB4⟩
end Go.Proofs.Ytkjgipiaamhdlaa
