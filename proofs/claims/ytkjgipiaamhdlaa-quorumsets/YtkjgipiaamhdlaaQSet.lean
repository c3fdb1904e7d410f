/- Slices of numbers and of texts; contracts of quorum.Has, membersUpTo, Members, Count, Is, Set. -/
import Derived.Test.YtkjgipiaamhdlaaQNum
import Derived.WalkLawsBesides
import Derived.WalkSpells
import Derived.Handy
import Derived.Laws.AppendOwnNone
import Derived.Below
import Derived.WalkMore
namespace Go.Proofs.Ytkjgipiaamhdlaa
open Go.RowKit
set_option linter.unusedVariables false
set_option maxRecDepth 20000

/-- THE SLICE v HOLDS THE CELLS xs, in a block below B. -/
def Cel (B : Nat) (w : World) (v : Value) (xs : List Value) : Prop :=
  ∃ a c, v = .slice a xs.length c ∧ xs.length ≤ c ∧ c ≤ maxLen ∧ (a = none → c = 0) ∧
    (xs ≠ [] → ∃ b off, a = some ⟨b, off, none⟩ ∧ b < B ∧ ∀ j u, xs[j]? = some u → w.cell? ⟨b, off + j, none⟩ = some u)

theorem Cel.below {B : Nat} {w w' : World} {v : Value} {xs : List Value} (h : Cel B w v xs) (hb : Below B w w') : Cel B w' v xs := by
  obtain ⟨a, c, hv, h1, h2, hn, h3⟩ := h
  refine ⟨a, c, hv, h1, h2, hn, fun hne => ?_⟩
  obtain ⟨b, off, ha, hlt, hc⟩ := h3 hne
  exact ⟨b, off, ha, hlt, fun j u hj => by rw [hb.cell (p := ⟨b, off + j, none⟩) hlt]; exact hc j u hj⟩

theorem Cel.mono {B B' : Nat} {w : World} {v : Value} {xs : List Value} (h : Cel B w v xs) (hB : B ≤ B') : Cel B' w v xs := by
  obtain ⟨a, c, hv, h1, h2, hn, h3⟩ := h
  refine ⟨a, c, hv, h1, h2, hn, fun hne => ?_⟩
  obtain ⟨b, off, ha, hlt, hc⟩ := h3 hne
  exact ⟨b, off, ha, by omega, hc⟩

/-- The cell of number k. -/
theorem Cel.at {B : Nat} {w : World} {v : Value} {xs : List Value} (h : Cel B w v xs) (k : Nat) (u : Value) (hk : xs[k]? = some u) :
    ∃ b off c, v = .slice (some ⟨b, off, none⟩) xs.length c ∧ xs.length ≤ c ∧ b < B ∧ w.cell? ⟨b, off + k, none⟩ = some u := by
  obtain ⟨a, c, hv, h1, h2, hn, h3⟩ := h
  obtain ⟨b, off, rfl, hlt, hc⟩ := h3 (by intro e; rw [e] at hk; simp at hk)
  exact ⟨b, off, c, hv, h1, hlt, hc k u hk⟩

theorem Cel.form {B : Nat} {w : World} {v : Value} {xs : List Value} (h : Cel B w v xs) : ∃ a c, v = .slice a xs.length c ∧ xs.length ≤ c ∧ c ≤ maxLen := by
  obtain ⟨a, c, hv, h1, h2, _⟩ := h
  exact ⟨a, c, hv, h1, h2⟩

/-- What is owned is shown. -/
theorem Cel.of_owns {w : World} {B : Nat} {e : TypeId} {v : Value} {n : Nat} {xs : List Value} (h : w.ownsRow B e 1 v n xs) : n = xs.length ∧ Cel w.heap.size w v xs := by
  have hl : n = xs.length := by simpa using h.1.symm
  subst hl
  refine ⟨rfl, ?_⟩
  have hc := h
  rcases h.2 with ⟨rfl, hn⟩ | ⟨g, cap, cur, rfl, hb, hg, hnc, hcm, hcs, ht⟩
  · exact ⟨none, 0, by rw [hn], by omega, by unfold maxLen; omega, fun _ => rfl, fun hne => absurd (List.eq_nil_of_length_eq_zero hn) hne⟩
  · refine ⟨_, cap, rfl, hnc, hcm, (fun e => by cases e), fun _ => ⟨g, 0, rfl, (Array.getElem?_eq_some_iff.1 hg).1, fun j u hj => ?_⟩⟩
    have hjl : j < xs.length := (List.getElem?_eq_some_iff.1 hj).1
    have := hc.cellAt j (by omega)
    rw [Nat.zero_add, this, hj]

/-- Numbers as cells. -/
def intC (l : List Int) : List Value := l.map fun x => .int .i64 x

theorem intC_len (l : List Int) : (intC l).length = l.length := by simp [intC]

theorem intC_at {l : List Int} {k : Nat} (hk : k < l.length) : (intC l)[k]? = some (.int .i64 l[k]) := by simp [intC, hk]

/-- A slice of numbers. -/
def Ints (B : Nat) (w : World) (v : Value) (l : List Int) : Prop := Cel B w v (intC l) ∧ ∀ x ∈ l, I64 x

theorem Ints.below {B : Nat} {w w' : World} {v : Value} {l : List Int} (h : Ints B w v l) (hb : Below B w w') : Ints B w' v l := ⟨h.1.below hb, h.2⟩

theorem Ints.form {B : Nat} {w : World} {v : Value} {l : List Int} (h : Ints B w v l) : ∃ a c, v = .slice a l.length c ∧ l.length ≤ c ∧ c ≤ maxLen := by
  have := h.1.form
  rwa [intC_len] at this

theorem Ints.at {B : Nat} {w : World} {a : Option Addr} {m c : Nat} {l : List Int} (h : Ints B w (.slice a m c) l) (k : Nat) (hk : k < l.length) :
    ∃ b off, a = some ⟨b, off, none⟩ ∧ m = l.length ∧ l.length ≤ c ∧ b < B ∧ w.cell? ⟨b, off + k, none⟩ = some (.int .i64 l[k]) ∧ I64 l[k] := by
  obtain ⟨b, off, c', hv, h1, hlt, hc⟩ := h.1.at k _ (intC_at hk)
  simp only [Value.slice.injEq] at hv
  obtain ⟨rfl, h2, rfl⟩ := hv
  rw [intC_len] at h1 h2
  exact ⟨b, off, rfl, h2, h1, hlt, hc, h.2 _ (List.getElem_mem hk)⟩

theorem Try.infoInt : (Try.prog.info? 3).map (fun i => (i.zero, i.size, i.bytes)) = some (some (.int .i64 0), 1, 8) := by kernel_rfl

theorem nat_shift (s k : Nat) : ((s : Int) / 2 ^ k) = ((s / 2 ^ k : Nat) : Int) := by
  rw [Int.natCast_ediv, Int.natCast_pow]
  rfl

theorem rest_zero (s k : Nat) : s / 2 ^ k = 0 ↔ s < 2 ^ k := by
  rw [Nat.div_eq_zero_iff_lt (Nat.two_pow_pos k)]

theorem and_one (s k : Nat) (hs : s < 65536) : bits .and .i64 ((s / 2 ^ k : Nat) : Int) 1 = if s.testBit k then 1 else 0 := by
  have hd : s / 2 ^ k ≤ s := Nat.div_le_self _ _
  have e1 : low ((s / 2 ^ k : Nat) : Int) = s / 2 ^ k := low_nat _ (by omega)
  have e2 : low 1 = 1 := rfl
  have e3 : s / 2 ^ k &&& 1 = s / 2 ^ k % 2 := Nat.and_one_is_mod _
  rw [bits_and _ _ (by rw [e1, e2, e3]; omega), e1, e2, e3, Nat.testBit_eq_decide_div_mod_eq]
  by_cases h : s / 2 ^ k % 2 = 1
  · simp [h]
  · have : s / 2 ^ k % 2 = 0 := by omega
    simp [this]

set_option maxHeartbeats 1000000 in
theorem has_any (s who : Int) (w : World) (hs : I64 s) (hw : I64 who) : Calls Try.prog 24 #[.int .i64 s, .int .i64 who] w fun e w' => e = .returned (.bool (hasQ s who)) ∧ w' = w := by
  unfold I64 at hs hw
  by_cases h0 : 0 ≤ s ∧ s < 65536
  · have HS := hid (decide_eq_true h0)
    by_cases h1 : 1 ≤ who ∧ who ≤ 16
    · have HW := hid (decide_eq_true h1)
      obtain ⟨n, rfl⟩ : ∃ n : Nat, s = n := ⟨s.toNat, by omega⟩
      obtain ⟨k, rfl⟩ : ∃ k : Nat, who = k + 1 := ⟨(who - 1).toNat, by omega⟩
      have hn : n < 65536 := by omega
      have hk : k < 16 := by omega
      have HQ := hid (show hasQ (n : Int) ((k : Int) + 1) = n.testBit k by
        unfold hasQ
        rw [HS.out, HW.out, show ((k : Int) + 1 - 1).toNat = k by omega]
        rfl)
      rw [HQ.out]
      have HR := hid (and_one n k hn)
      clear h0 h1 hs hw
      have hk1 : (k : Int) + 1 - 1 = (k : Int) := by omega
      go_enter Try.func24, Try.ntmps24
      go_wp2_with (first
        | (go_at_call 31; refine (isSet_any _ _).mono ?_; rintro e w1 ⟨rfl, rfl⟩; rw [HS.out])
        | (go_at_call 29; refine (isReplica_any _ _).mono ?_; rintro e w2 ⟨rfl, rfl⟩; rw [HW.out]))
      go_ret
      refine ⟨?_, rfl⟩
      show Ending.returned (.bool (bits .and .i64 ((n : Int) / 2 ^ k) 1 == 1)) = _
      rw [nat_shift, HR.out]
      cases n.testBit k <;> rfl
    · have HW := hid (decide_eq_false h1)
      have HQ := hid (show hasQ s who = false by
        unfold hasQ
        rw [HS.out, HW.out]
        rfl)
      rw [HQ.out]
      clear h0 h1
      go_enter Try.func24, Try.ntmps24
      go_wp2_with (first
        | (go_at_call 31; refine (isSet_any _ _).mono ?_; rintro e w1 ⟨rfl, rfl⟩; rw [HS.out])
        | (go_at_call 29; refine (isReplica_any _ _).mono ?_; rintro e w2 ⟨rfl, rfl⟩; rw [HW.out]))
      go_ret
      exact ⟨rfl, rfl⟩
  · have HS := hid (decide_eq_false h0)
    have HQ := hid (show hasQ s who = false by
      unfold hasQ
      rw [HS.out]
      rfl)
    rw [HQ.out]
    clear h0
    go_enter Try.func24, Try.ntmps24
    go_wp2_with (go_at_call 31; refine (isSet_any _ _).mono ?_; rintro e w1 ⟨rfl, rfl⟩; rw [HS.out])
    go_ret
    exact ⟨rfl, rfl⟩

/-- The first k bits of s as members. -/
def memC (s k : Nat) : List Value := intC ((memsN s k).map fun i : Nat => (i : Int) + 1)

theorem memC_len (s k : Nat) : (memC s k).length = (memsN s k).length := by simp [memC, intC]

theorem memC_succ (s k : Nat) : memC s (k + 1) = memC s k ++ if s.testBit k then [.int .i64 ((k : Int) + 1)] else [] := by
  unfold memC intC
  rw [memsN_succ]
  cases s.testBit k <;> simp

set_option maxHeartbeats 2000000 in
theorem upTo_any (s last : Int) (w : World) (hs : I64 s) (hl : I64 last) : Calls Try.prog 30 #[.int .i64 s, .int .i64 last] w fun e w' => ∃ v, e = .returned v ∧ w'.ownsRow w.heap.size 3 1 v (memQ s last).length (intC (memQ s last)) ∧ Below w.heap.size w w' := by
  unfold I64 at hs hl
  obtain ⟨i0, hi, hz0, hz1, hz2⟩ := info_parts Try.infoInt
  by_cases h0 : 0 ≤ s ∧ s < 65536
  · have HS := hid (decide_eq_true h0)
    obtain ⟨n, rfl⟩ : ∃ n : Nat, s = n := ⟨s.toNat, by omega⟩
    have hn : n < 65536 := by omega
    have HQ := hid (memQ_nat n hn last)
    clear h0 hs
    go_enter Try.func30, Try.ntmps30
    go_wp2_with fail
    go_step3
    go_wp2_with (go_at_call 31; refine (isSet_any _ _).mono ?_; rintro e w1 ⟨rfl, rfl⟩; rw [HS.out])
    go_step3
    go_wp2_with fail
    go_loopw [5, 6] (fun v i wr => ∃ k : Nat, i = .int .i64 ((k : Int) + 1) ∧ k ≤ 16 ∧ (k = 0 ∨ (k : Int) ≤ last) ∧ wr.ownsRow w1.heap.size 3 1 v (memsN n k).length (memC n k) ∧ Below w1.heap.size w1 wr) (fun _ i _ => (17 - intOf i).toNat)
    case atStart => exact ⟨0, rfl, by omega, .inl rfl, World.ownsRow_nil _ _ _ _, Below.refl _ _⟩
    case round =>
      obtain ⟨k, rfl, hk, hkl, hown, hbel⟩ := hrel
      have hsz := hbel.size
      by_cases hr : n / 2 ^ k = 0
      · have hlt := (rest_zero n k).1 hr
        have HE := hid (show memsN n (min last.toNat 16) = memsN n k from memsN_rest hlt _ (by omega))
        have hr' : ((n : Int) / 2 ^ k == 0) = true := by rw [nat_shift, hr]; rfl
        clear hr hlt
        go_wp2
        rw [Exit.noGoto_ret]
        go_ret
        refine ⟨_, rfl, ?_, hbel⟩
        rw [HQ.out, HE.out, List.length_map]
        exact hown
      · have hk16 : k < 16 := by
          rcases Nat.lt_or_ge k 16 with h | h
          · exact h
          · have : k = 16 := by omega
            subst this
            exact absurd ((rest_zero n 16).2 (by simpa using hn)) hr
        have hr' : ((n : Int) / 2 ^ k == 0) = false := by rw [nat_shift, beq_eq_false_iff_ne]; omega
        clear hr
        by_cases hend : last < (k : Int) + 1
        · have HE := hid (show min last.toNat 16 = k by omega)
          go_wp2
          rw [Exit.noGoto_ret]
          go_ret
          refine ⟨_, rfl, ?_, hbel⟩
          rw [HQ.out, HE.out, List.length_map]
          exact hown
        · have hand := and_one n k hn
          rw [← nat_shift] at hand
          by_cases hb : n.testBit k = true
          · rw [if_pos hb] at hand
            have HB := hid hb
            have HM := hid (memsN_le n k)
            clear hb
            go_wp2_with (first
              | (at_builtin; refine wpList_append_own _ rfl _ _ 28 rfl w1.heap.size 3 i0 (.int .i64 0) 1 8 Try.underlying28 hi hz0 hz1 hz2 rfl (by decide) _ _ _ rfl (hown.alloc _) ⟨wr.heap.size, 0, none⟩ 1 1 [.int .i64 ((k : Int) + 1)] rfl rfl ?c1 ?c2 ?c3 ?c4 ?c5 ?_)
              | go_in)
            case c2 => rfl
            case c3 => have := HM.out; unfold maxLen; omega
            case c4 => have := HM.out; omega
            case c5 => omega
            · intro v' w2 hown' hgrow _
              have hb2 : Below w1.heap.size w1 w2 := (hbel.alloc (by omega) _).grown hgrow (by simp; omega) (fun q hq => (hown.lt q hq).1)
              go_wp2
              go_roundw
              case rel =>
                refine ⟨k + 1, by go_num, by omega, .inr (by omega), ?_, hb2⟩
                have e : (memsN n (k + 1)).length = (memsN n k).length + 1 := by rw [memsN_succ, HB.out]; simp
                rw [e, memC_succ, HB.out]
                exact hown'
              case measure => simp only [intOf]; omega
          · rw [if_neg hb] at hand
            have HB := hid hb
            clear hb
            go_wp2
            go_roundw
            case rel =>
              refine ⟨k + 1, by go_num, by omega, .inr (by omega), ?_, hbel⟩
              have e : memsN n (k + 1) = memsN n k := by rw [memsN_succ, if_neg HB.out]; simp
              have e2 : memC n (k + 1) = memC n k := by rw [memC_succ, if_neg HB.out]; simp
              rw [e, e2]
              exact hown
            case measure => simp only [intOf]; omega
  · have HS := hid (decide_eq_false h0)
    have HQ := hid (memQ_none h0 last)
    rw [HQ.out]
    clear h0
    go_enter Try.func30, Try.ntmps30
    go_wp2_with fail
    go_step3
    go_wp2_with (go_at_call 31; refine (isSet_any _ _).mono ?_; rintro e w1 ⟨rfl, rfl⟩; rw [HS.out])
    rw [Exit.noGoto_ret]
    go_ret
    exact ⟨_, rfl, World.ownsRow_nil _ _ _ _, Below.refl _ _⟩

set_option maxHeartbeats 1000000 in
theorem members_any (s : Int) (w : World) (hs : I64 s) : Calls Try.prog 20 #[.int .i64 s] w fun e w' => ∃ v, e = .returned v ∧ w'.ownsRow w.heap.size 3 1 v (memQ s 16).length (intC (memQ s 16)) ∧ Below w.heap.size w w' := by
  go_enter Try.func20, Try.ntmps20
  go_wp2_with fail
  refine (upTo_any s 16 w hs (by unfold I64; omega)).mono ?_
  rintro e w1 ⟨v, rfl, h1, h2⟩
  go_wp2
  go_ret
  exact ⟨_, rfl, h1, h2⟩

theorem owns_form {w : World} {B : Nat} {e : TypeId} {v : Value} {n : Nat} {xs : List Value} (h : w.ownsRow B e 1 v n xs) : ∃ a c, v = .slice a n c := by
  obtain ⟨e1, h1⟩ := Cel.of_owns h
  obtain ⟨a, c, hv, _⟩ := h1.form
  exact ⟨a, c, by rw [hv, e1]⟩

set_option maxHeartbeats 1000000 in
theorem count_any (s : Int) (w : World) (hs : I64 s) : Calls Try.prog 22 #[.int .i64 s] w fun e w' => e = .returned (.int .i64 ((memQ s 16).length : Int)) ∧ Below w.heap.size w w' := by
  go_enter Try.func22, Try.ntmps22
  go_wp2_with fail
  refine (members_any s w hs).mono ?_
  rintro e w1 ⟨v, rfl, h1, h2⟩
  obtain ⟨a, c, rfl⟩ := owns_form h1
  go_wp2
  go_ret
  exact ⟨rfl, h2⟩

set_option maxHeartbeats 1000000 in
theorem is_any (n s : Int) (w : World) (hn : I64 n) (hs : I64 s) : Calls Try.prog 26 #[.int .i64 n, .int .i64 s] w fun e w' => e = .returned (.bool (isQ n s)) ∧ Below w.heap.size w w' := by
  have hm := mostQ_range n
  have HI := hid (show isQ n s = (decide (0 < mostQ n) && decide (mostQ n ≤ ((memQ s n).length : Int))) from rfl)
  have hlen := memQ_len s n
  by_cases h0 : 0 < mostQ n
  · have HM := hid (decide_eq_true h0)
    go_enter Try.func26, Try.ntmps26
    go_wp2_with (go_at_call 13; refine (most_any _ _ hn).mono ?_; rintro e w1 ⟨rfl, rfl⟩)
    refine (upTo_any s n w1 hs hn).mono ?_
    rintro e w2 ⟨v, rfl, h1, h2⟩
    obtain ⟨a, c, rfl⟩ := owns_form h1
    go_wp2
    go_ret
    refine ⟨?_, h2⟩
    rw [HI.out, HM.out, Bool.true_and]
    rfl
  · have HM := hid (decide_eq_false h0)
    go_enter Try.func26, Try.ntmps26
    go_wp2_with (go_at_call 13; refine (most_any _ _ hn).mono ?_; rintro e w1 ⟨rfl, rfl⟩)
    go_ret
    refine ⟨?_, Below.refl _ _⟩
    rw [HI.out, HM.out]
    rfl

theorem low_setN {l : List Int} (h : ∀ x ∈ l, 1 ≤ x ∧ x ≤ 16) (k : Nat) (hk : k < 16) : bits .or .i64 ((setN l : Nat) : Int) (2 ^ k) = ((setN l ||| 2 ^ k : Nat) : Int) := by
  have h1 := setN_lt l h
  have h2 : 2 ^ k < 65536 := by
    have := Nat.pow_lt_pow_right (a := 2) (by omega) hk
    simpa using this
  have e1 : low ((setN l : Nat) : Int) = setN l := low_nat _ (by omega)
  have e2 : low (2 ^ k) = 2 ^ k := by
    have := low_nat (2 ^ k) (by omega)
    rw [Int.natCast_pow] at this
    exact this
  have e3 : setN l ||| 2 ^ k < 2 ^ 16 := Nat.or_lt_two_pow (by simpa using h1) (by simpa using h2)
  simp only [Nat.reducePow] at e3
  rw [bits_or _ _ (by rw [e1, e2]; omega), e1, e2]

theorem wrap_pow (k : Nat) (hk : k < 17) : IntKind.i64.wrap (2 ^ k) = 2 ^ k := by
  have h2 : 2 ^ k < 131072 := by
    have := Nat.pow_lt_pow_right (a := 2) (by omega) hk
    simpa using this
  have := wrap_nat (2 ^ k) (by omega)
  rw [Int.natCast_pow] at this
  exact this

set_option maxHeartbeats 1000000 in
theorem set_any (B : Nat) (v : Value) (l : List Int) (w : World) (hL : Ints B w v l) : Calls Try.prog 17 #[v] w fun e w' => e = .returned (.tuple #[.int .i64 (setV l), .int .i64 (setE l)]) ∧ w' = w := by
  obtain ⟨a, c, rfl, hc1, hc2⟩ := hL.form
  unfold maxLen at hc2
  have HL := hid hL
  clear hL
  go_enter Try.func17, Try.ntmps17
  go_wp2
  go_loopw [4, 9] (fun x i wr => ∃ k : Nat, k ≤ l.length ∧ i = .int .i64 (k : Int) ∧ x = .int .i64 ((setN (l.take k) : Nat) : Int) ∧ Hid (∀ y ∈ l.take k, 1 ≤ y ∧ y ≤ 16) ∧ wr = w) (fun _ i _ => l.length - (intOf i).toNat)
  case atStart => exact ⟨0, by omega, rfl, rfl, hid (by simp), rfl⟩
  case round =>
    obtain ⟨k, hk, rfl, rfl, HJ, rfl⟩ := hrel
    by_cases hlt : k < l.length
    · obtain ⟨b, off, rfl, _, _, hbB, hcell, hi64⟩ := HL.out.at k hlt
      have HX := hid (show l[k] ∈ l from List.getElem_mem hlt)
      have HT := hid (List.take_append_getElem hlt)
      generalize l[k] = x at *
      have hltz : (k : Int) < (l.length : Int) := by omega
      unfold I64 at hi64
      by_cases hx : 1 ≤ x ∧ x ≤ 16
      · have HR := hid (decide_eq_true hx)
        obtain ⟨j, rfl⟩ : ∃ j : Nat, x = (j : Int) + 1 := ⟨(x - 1).toNat, by omega⟩
        have hj : j < 16 := by omega
        have hw := wrap_pow j (by omega)
        have HOR := hid (low_setN HJ.out j hj)
        have HN := hid (show setN (l.take (k + 1)) = setN (l.take k) ||| 2 ^ j by
          rw [← HT.out, setN_snoc, show ((j : Int) + 1 - 1).toNat = j by omega])
        clear hx
        generalize setN (l.take k) = q at *
        go_wp2_with (go_at_call 29; refine (isReplica_any _ _).mono ?_; rintro e w2 ⟨rfl, rfl⟩; rw [HR.out])
        go_roundw
        case rel => 
          refine ⟨k + 1, by omega, by go_num, ?_, hid ?_, by trivial⟩
          · rw [HN.out, ← HOR.out]
          · intro y hy
            rw [← HT.out] at hy
            rcases List.mem_append.1 hy with h | h
            · exact HJ.out y h
            · simp only [List.mem_singleton] at h
              omega
        case measure => simp only [intOf]; omega
      · have HR := hid (decide_eq_false hx)
        have HE := hid (set_bad HX.out hx)
        clear hx
        go_wp2_with (go_at_call 29; refine (isReplica_any _ _).mono ?_; rintro e w2 ⟨rfl, rfl⟩; rw [HR.out])
        go_ret2
        exact ⟨by rw [HE.out.1, HE.out.2]; rfl, rfl⟩
    · have hkl : k = l.length := by omega
      have HE := hid (show setV l = (setN (l.take k) : Int) ∧ setE l = 0 by
        have h := HJ.out
        rw [hkl, List.take_length] at h ⊢
        exact set_ok h)
      have hlt' : ¬ (k : Int) < (l.length : Int) := by omega
      clear hkl
      go_wp2
      go_ret2
      exact ⟨by rw [HE.out.1, HE.out.2]; rfl, rfl⟩
end Go.Proofs.Ytkjgipiaamhdlaa
