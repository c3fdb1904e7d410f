/- Two quorums have one in common that is not faulty: the plain theorem, and the walk of QuorumMeets. -/
import Derived.Test.YtkjgipiaamhdlaaSmall6
namespace Go.Proofs.Ytkjgipiaamhdlaa
open Go.RowKit
set_option linter.unusedVariables false
set_option maxRecDepth 20000

/-! ### the plain theorem -/

/-- How many of the first k have p. -/
def cnt (k : Nat) (p : Nat → Bool) : Nat := (List.range k).countP p

theorem cnt_both (p q : Nat → Bool) (k : Nat) : cnt k p + cnt k q ≤ k + cnt k fun i => p i && q i := by
  unfold cnt
  induction k with
  | zero => simp
  | succ k ih =>
    simp only [List.range_succ, List.countP_append, List.countP_cons, List.countP_nil]
    cases p k <;> cases q k <;> simp <;> omega

theorem cnt_not (p : Nat → Bool) (k : Nat) : cnt k p + cnt k (fun i => !p i) = k := by
  unfold cnt
  induction k with
  | zero => simp
  | succ k ih =>
    simp only [List.range_succ, List.countP_append, List.countP_cons, List.countP_nil]
    cases p k <;> simp <;> omega

theorem cnt_but (p q : Nat → Bool) (k : Nat) : cnt k p ≤ cnt k q + cnt k fun i => p i && !q i := by
  unfold cnt
  induction k with
  | zero => simp
  | succ k ih =>
    simp only [List.range_succ, List.countP_append, List.countP_cons, List.countP_nil]
    cases p k <;> cases q k <;> simp <;> omega

/-- Only the first n count. -/
theorem cnt_low (p : Nat → Bool) (n : Nat) : ∀ k, n ≤ k → cnt k (fun i => p i && decide (i < n)) = cnt n p
  | 0, h => by
    have : n = 0 := by omega
    subst this
    rfl
  | k + 1, h => by
    rcases Nat.lt_or_ge k n with e | e
    · have : n = k + 1 := by omega
      subst this
      unfold cnt
      refine List.countP_congr fun i hi => ?_
      have : i < k + 1 := by simpa using hi
      simp [this]
    · have ih := cnt_low p n k e
      unfold cnt at ih ⊢
      rw [List.range_succ, List.countP_append, ih]
      have : ¬ k < n := by omega
      simp [this]

theorem cnt_congr {p q : Nat → Bool} {k : Nat} (h : ∀ i, i < k → p i = q i) : cnt k p = cnt k q := by
  unfold cnt
  refine List.countP_congr fun i hi => ?_
  rw [h i (by simpa using hi)]

/-- How many members a set has, up to a last one. -/
theorem memQ_cnt (s : Nat) (h : s < 65536) (last : Int) : (memQ (s : Int) last).length = cnt (min last.toNat 16) fun i => s.testBit i := by
  rw [memQ_nat s h, List.length_map, memsN_len]
  rfl

theorem first_bit (n i : Nat) : (2 ^ n - 1).testBit i = decide (i < n) := Nat.testBit_two_pow_sub_one ..

/-- A number whose bits are among those of the first 16. -/
theorem lt16 {s : Nat} (h : ∀ i, 16 ≤ i → s.testBit i = false) : s < 65536 := by
  have : s < 2 ^ 16 := Nat.lt_pow_two_of_testBit _ fun i hi => h i hi
  simpa using this

/-- The first n: all their bits. -/
theorem first_lt {n : Nat} (h : n ≤ 16) : 2 ^ n - 1 < 65536 := lt16 fun i hi => by rw [first_bit]; simp; omega

structure MeetsF (f : Int) (a b y : Int) (n F X H C E : Nat) : Prop where
  n16 : n ≤ 16
  size : sizeQ f = (n : Int)
  first : IntKind.i64.wrap (2 ^ n) = (F : Int) + 1
  lF : F < 65536
  fault : bits .and .i64 y (F : Int) = (X : Int)
  honest : bits .andNot .i64 (F : Int) (X : Int) = (H : Int)
  lX : X < 65536
  lH : H < 65536
  good : (memQ (X : Int) 16).length ≤ f.toNat → isQ (n : Int) (H : Int) = true
  both : 0 ≤ a ∧ a < 65536 → 0 ≤ b ∧ b < 65536 → bits .and .i64 (bits .and .i64 a b) (F : Int) = (C : Int) ∧ bits .andNot .i64 (C : Int) y = (E : Int) ∧ C < 65536 ∧ E < 65536 ∧
    (isQ (n : Int) a = true → isQ (n : Int) b = true → (memQ (X : Int) 16).length ≤ f.toNat → fewQ (n : Int) ≤ ((memQ (C : Int) 16).length : Int) ∧ 1 ≤ (memQ (E : Int) 16).length)

theorem meets_facts (f a b y : Int) (h1 : 1 ≤ f) (h5 : f ≤ 5) : ∃ n F X H C E, MeetsF f a b y n F X H C E := by
  obtain ⟨s1, s2, s3, s4, s5⟩ := sizeQ_ok ⟨h1, h5⟩
  obtain ⟨m, rfl⟩ : ∃ m : Nat, f = m := ⟨f.toNat, by omega⟩
  have hn : sizeQ (m : Int) = ((3 * m + 1 : Nat) : Int) := by rw [s1]; omega
  rw [hn] at s3 s4 s5
  generalize hnn : 3 * m + 1 = n at *
  have n16 : n ≤ 16 := by omega
  have hF : 2 ^ n - 1 < 65536 := first_lt n16
  have hy := low_lt y
  have lF : low ((2 ^ n - 1 : Nat) : Int) = 2 ^ n - 1 := low_nat _ (by omega)
  -- the faulty ones
  have xb : ∀ i, (low y &&& (2 ^ n - 1)).testBit i = ((low y).testBit i && decide (i < n)) := fun i => by rw [Nat.testBit_and, first_bit]
  have lX : low y &&& (2 ^ n - 1) < 65536 := lt16 fun i hi => by rw [xb]; simp; omega
  have eX : bits .and .i64 y ((2 ^ n - 1 : Nat) : Int) = ((low y &&& (2 ^ n - 1) : Nat) : Int) := by
    rw [bits_and _ _ (by rw [lF]; omega), lF]
  have lowX : low ((low y &&& (2 ^ n - 1) : Nat) : Int) = low y &&& (2 ^ n - 1) := low_nat _ (by omega)
  -- the honest ones
  have hb : ∀ i, (but (2 ^ n - 1) (low y &&& (2 ^ n - 1))).testBit i = (decide (i < n) && !(low y).testBit i) := fun i => by
    rw [but_bit _ _ _ (by omega) (by omega), first_bit, xb]
    cases decide (i < n) <;> cases (low y).testBit i <;> rfl
  have lH : but (2 ^ n - 1) (low y &&& (2 ^ n - 1)) < 65536 := lt16 fun i hi => by rw [hb]; simp; omega
  have eH : bits .andNot .i64 ((2 ^ n - 1 : Nat) : Int) ((low y &&& (2 ^ n - 1) : Nat) : Int) = ((but (2 ^ n - 1) (low y &&& (2 ^ n - 1)) : Nat) : Int) := by
    rw [bits_but _ _ (by rw [lF, lowX]; omega), lF, lowX]
  have cX : (memQ ((low y &&& (2 ^ n - 1) : Nat) : Int) 16).length = cnt n fun i => (low y).testBit i := by
    rw [memQ_cnt _ lX, show min (16 : Int).toNat 16 = 16 from rfl, ← cnt_low (fun i => (low y).testBit i) n 16 n16]
    exact cnt_congr fun i _ => xb i
  have cH : (memQ ((but (2 ^ n - 1) (low y &&& (2 ^ n - 1)) : Nat) : Int) (n : Int)).length = cnt n fun i => !(low y).testBit i := by
    rw [memQ_cnt _ lH, show min ((n : Int)).toNat 16 = n by omega]
    exact cnt_congr fun i hi => by rw [hb]; simp [hi]
  refine ⟨n, 2 ^ n - 1, _, _, low (bits .and .i64 a b) &&& (2 ^ n - 1), but (low (bits .and .i64 a b) &&& (2 ^ n - 1)) (low y), ⟨n16, hn, ?_, hF, eX, eH, lX, lH, ?_, ?_⟩⟩
  · rw [wrap_pow n (by omega)]
    have h2 := Nat.two_pow_pos n
    rw [Int.natCast_sub (by omega), Int.natCast_pow]
    show (2 : Int) ^ n = 2 ^ n - 1 + 1
    omega
  · intro hle
    rw [cX] at hle
    have h2 := cnt_not (fun i => (low y).testBit i) n
    unfold isQ
    rw [s4, cH]
    simp
    omega
  · intro ha hbb
    obtain ⟨p, rfl⟩ : ∃ p : Nat, a = p := ⟨a.toNat, by omega⟩
    obtain ⟨q, rfl⟩ : ∃ q : Nat, b = q := ⟨b.toNat, by omega⟩
    have hp : p < 65536 := by omega
    have hq : q < 65536 := by omega
    have lp : low (p : Int) = p := low_nat _ (by omega)
    have lq : low (q : Int) = q := low_nat _ (by omega)
    have ab : ∀ i, (p &&& q).testBit i = (p.testBit i && q.testBit i) := fun i => Nat.testBit_and ..
    have lab : p &&& q < 65536 := lt16 fun i hi => by rw [ab, bit_high (show p < 2 ^ 16 by simpa using hp) hi]; rfl
    have eab : bits .and .i64 (p : Int) (q : Int) = ((p &&& q : Nat) : Int) := by
      rw [bits_and _ _ (by rw [lp, lq]; omega), lp, lq]
    rw [eab, low_nat _ (show p &&& q < 18446744073709551616 by omega)]
    have cb : ∀ i, (p &&& q &&& (2 ^ n - 1)).testBit i = (p.testBit i && q.testBit i && decide (i < n)) := fun i => by rw [Nat.testBit_and, ab, first_bit]
    have lC : p &&& q &&& (2 ^ n - 1) < 65536 := lt16 fun i hi => by rw [cb]; simp; omega
    have lowab : low ((p &&& q : Nat) : Int) = p &&& q := low_nat _ (by omega)
    have eC : bits .and .i64 ((p &&& q : Nat) : Int) ((2 ^ n - 1 : Nat) : Int) = ((p &&& q &&& (2 ^ n - 1) : Nat) : Int) := by
      rw [bits_and _ _ (by rw [lowab, lF]; omega), lowab, lF]
    have lowC : low ((p &&& q &&& (2 ^ n - 1) : Nat) : Int) = p &&& q &&& (2 ^ n - 1) := low_nat _ (by omega)
    have eb : ∀ i, (but (p &&& q &&& (2 ^ n - 1)) (low y)).testBit i = (p.testBit i && q.testBit i && decide (i < n) && !(low y).testBit i) := fun i => by
      rw [but_bit _ _ _ (by omega) hy, cb]
    have lE : but (p &&& q &&& (2 ^ n - 1)) (low y) < 65536 := lt16 fun i hi => by rw [eb]; simp; omega
    have eE : bits .andNot .i64 ((p &&& q &&& (2 ^ n - 1) : Nat) : Int) y = ((but (p &&& q &&& (2 ^ n - 1)) (low y) : Nat) : Int) := by
      rw [bits_but _ _ (by rw [lowC]; omega), lowC]
    refine ⟨eC, eE, lC, lE, fun ia ib hle => ?_⟩
    rw [cX] at hle
    unfold isQ at ia ib
    rw [s4, memQ_cnt _ hp, show min ((n : Int)).toNat 16 = n by omega] at ia
    rw [s4, memQ_cnt _ hq, show min ((n : Int)).toNat 16 = n by omega] at ib
    simp only [Bool.and_eq_true, decide_eq_true_eq] at ia ib
    have cC : (memQ ((p &&& q &&& (2 ^ n - 1) : Nat) : Int) 16).length = cnt n fun i => p.testBit i && q.testBit i := by
      rw [memQ_cnt _ lC, show min (16 : Int).toNat 16 = 16 from rfl, ← cnt_low (fun i => p.testBit i && q.testBit i) n 16 n16]
      exact cnt_congr fun i _ => cb i
    have cE : (memQ ((but (p &&& q &&& (2 ^ n - 1)) (low y) : Nat) : Int) 16).length = cnt n fun i => (p.testBit i && q.testBit i) && !(low y).testBit i := by
      rw [memQ_cnt _ lE, show min (16 : Int).toNat 16 = 16 from rfl, ← cnt_low (fun i => (p.testBit i && q.testBit i) && !(low y).testBit i) n 16 n16]
      exact cnt_congr fun i _ => by
        rw [eb]
        cases p.testBit i <;> cases q.testBit i <;> cases decide (i < n) <;> cases (low y).testBit i <;> rfl
    have k1 := cnt_both (fun i => p.testBit i) (fun i => q.testBit i) n
    have k2 := cnt_but (fun i => p.testBit i && q.testBit i) (fun i => (low y).testBit i) n
    rw [s5, cC, cE]
    omega

set_option maxHeartbeats 1000000 in
theorem meets_law (f a b y : Int) (w : World) (h1 : -9223372036854775808 ≤ f) (h2 : f ≤ 9223372036854775807) (a1 : -9223372036854775808 ≤ a) (a2 : a ≤ 9223372036854775807) (b1 : -9223372036854775808 ≤ b) (b2 : b ≤ 9223372036854775807) (y1 : -9223372036854775808 ≤ y) (y2 : y ≤ 9223372036854775807) :
    Calls Try.prog 5 #[.int .i64 f, .int .i64 a, .int .i64 b, .int .i64 y] w fun e w' => e = .returned (.bool true) ∧ Below w.heap.size w w' := by
  have HF := hid (show I64 f from ⟨h1, h2⟩)
  by_cases h : 1 ≤ f ∧ f ≤ 5
  · have HS := hid (sizeQ_ok h)
    obtain ⟨ha, hb⟩ := h
    obtain ⟨n, F, X, H, C, E, M⟩ := meets_facts f a b y ha hb
    have HM := hid M
    have hn := M.n16
    have hfirst := M.first
    have hlF := M.lF
    have hfault := M.fault
    have hhon := M.honest
    have hlX := M.lX
    have hlH := M.lH
    clear M
    go_enter Try.func5, Try.ntmps5
    go_wp2_with (first
      | (go_at_call 8; refine (small6_any _).mono ?_; rintro e w1 ⟨rfl, hb1⟩)
      | (go_at_call 9; refine (size_any _ _ HF.out).mono ?_; rintro e w2 ⟨rfl, rfl⟩; rw [HM.out.size, HS.out.2.1]))
    refine (count_any _ _ (by unfold I64; omega)).mono ?_
    rintro e w3 ⟨rfl, hb3⟩
    have hB3 := hb1.trans (hb3.mono hb1.size)
    clear hb1 hb3
    have hcl := memQ_len (X : Int) 16
    have HGood := hid HM.out.good
    have HBoth := hid HM.out.both
    generalize (memQ (X : Int) 16).length = c at *
    by_cases hc : f < (c : Int)
    · go_wp2
      go_ret
      exact ⟨rfl, hB3⟩
    · have hc' : ¬ f < (c : Int) := hc
      by_cases hab : (0 ≤ a ∧ a < 65536) ∧ (0 ≤ b ∧ b < 65536)
      · obtain ⟨eC, eE, lC, lE, HQ⟩ := HBoth.out hab.1 hab.2
        have HQ := hid HQ
        have HG := hid (HGood.out (by omega))
        obtain ⟨⟨ha0, ha1⟩, hb0, hb1⟩ := hab
        clear HBoth HGood
        go_wp2_with fail
        refine (is_any _ _ _ (by unfold I64; omega) (by unfold I64; omega)).mono ?_
        rintro e w4 ⟨rfl, hb4⟩
        have hB4 := hB3.trans (hb4.mono hB3.size)
        clear hb4 hB3
        go_wp2_with fail
        refine (is_any _ _ _ (by unfold I64; omega) (by unfold I64; omega)).mono ?_
        rintro e w5 ⟨rfl, hb5⟩
        have hB5 := hB4.trans (hb5.mono hB4.size)
        clear hb5 hB4
        go_wp2_with fail
        refine (is_any _ _ _ (by unfold I64; omega) (by unfold I64; omega)).mono ?_
        rintro e w6 ⟨rfl, hb6⟩
        have hB6 := hB5.trans (hb6.mono hB5.size)
        clear hb6 hB5
        rw [HG.out]
        cases hpa : isQ (n : Int) a
        · go_wp2
          go_ret
          exact ⟨rfl, hB6⟩
        cases hpb : isQ (n : Int) b
        · go_wp2
          go_ret
          exact ⟨rfl, hB6⟩
        have HR := hid (HQ.out hpa hpb (by omega))
        go_wp2_with fail
        refine (count_any _ _ (by unfold I64; omega)).mono ?_
        rintro e w7 ⟨rfl, hb7⟩
        have hB7 := hB6.trans (hb7.mono hB6.size)
        clear hb7 hB6
        go_wp2_with (go_at_call 15; refine (few_any _ _ (by unfold I64; omega)).mono ?_; rintro e w8 ⟨rfl, rfl⟩; have hr1 := HR.out.1)
        refine (count_any _ _ (by unfold I64; omega)).mono ?_
        rintro e w9 ⟨rfl, hb9⟩
        have hB9 := hB7.trans (hb9.mono hB7.size)
        clear hb9 hB7
        have hr2 : 1 ≤ (memQ (E : Int) 16).length := HR.out.2
        have hlen2 := memQ_len (E : Int) 16
        clear HR HQ
        generalize (memQ (E : Int) 16).length = d at *
        go_wp2
        go_ret
        refine ⟨?_, hB9⟩
        show Ending.returned (.bool (decide (1 ≤ (d : Int)))) = _
        rw [decide_eq_true (by omega)]
      · by_cases hx0 : a < 0
        · go_wp2
          go_ret
          exact ⟨rfl, hB3⟩
        by_cases hx1 : 65535 < a
        · go_wp2
          go_ret
          exact ⟨rfl, hB3⟩
        by_cases hx2 : b < 0
        · clear hab
          go_wp2
          go_ret
          exact ⟨rfl, hB3⟩
        have hx3 : 65535 < b := by omega
        clear hab
        go_wp2
        go_ret
        exact ⟨rfl, hB3⟩
  · have HS := hid (sizeQ_bad h)
    clear h
    go_enter Try.func5, Try.ntmps5
    go_wp2_with (first
      | (go_at_call 8; refine (small6_any _).mono ?_; rintro e w1 ⟨rfl, hb1⟩)
      | (go_at_call 9; refine (size_any _ _ HF.out).mono ?_; rintro e w2 ⟨rfl, rfl⟩; rw [HS.out.1, HS.out.2]))
    go_ret
    exact ⟨rfl, hb1⟩
end Go.Proofs.Ytkjgipiaamhdlaa
