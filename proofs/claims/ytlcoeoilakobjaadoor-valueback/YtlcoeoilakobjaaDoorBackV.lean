/- Plain facts: keys are taken again, stand as their values; what is taken was written so. -/
import Derived.Test.YtlcoeoilakobjaaDoorVRow
import Derived.Test.YtlcoeoilakobjaaDoorOrdV
import Derived.Test.YtlcoeoilakobjaaDoorBackF
import Derived.Test.YtlcoeoilakobjaaDoorOpenV
namespace Go.Proofs.YtlcoeoilakobjaaDoor
open Go.RowKit
set_option linter.unusedVariables false
set_option linter.unusedSimpArgs false
set_option maxRecDepth 20000

theorem i64of_key (n : Int) (r : List UInt8) (h0 : -9223372036854775808 ≤ n) (h1 : n ≤ 9223372036854775807) :
    ¬ (be (u64of (n + 9223372036854775808)) 8 ++ r).length < 8 ∧ i64of (num ((be (u64of (n + 9223372036854775808)) 8 ++ r).take 8) + 9223372036854775808) = n := by
  have h := tnum_key n r h0 h1
  have hl : ¬ (be (u64of (n + 9223372036854775808)) 8 ++ r).length < 8 := by rw [List.length_append, be_length]; omega
  refine ⟨hl, ?_⟩
  rw [tnum_long hl] at h
  exact (Prod.mk.inj h).1

/-- What was written is taken, whatever stands behind it. -/
theorem tkV_key (x : Vl) (r : List UInt8) (hr : rightV x = 0) (h0 : -9223372036854775808 ≤ x.n) (h1 : x.n ≤ 9223372036854775807) : tkV (keyV x ++ r) = (0, x, (keyV x).length) := by
  obtain ⟨hs, hc⟩ := rightV_cases hr
  obtain ⟨k, n, s⟩ := x
  dsimp only at hs hc h0 h1
  rcases hc with ⟨rfl, rfl, rfl⟩ | ⟨rfl, rfl⟩ | ⟨rfl, rfl⟩
  · rfl
  · have e : keyV ⟨1, n, []⟩ = 1 :: be (u64of (n + 9223372036854775808)) 8 := rfl
    obtain ⟨a, b⟩ := i64of_key n r h0 h1
    rw [e, List.cons_append, tkV, if_neg (by decide), if_pos rfl, if_neg a, b, List.length_cons, be_length]
  · have e : keyV ⟨2, 0, s⟩ = 2 :: tkey s := rfl
    have t := ttext_tkey r s
    rw [e, List.cons_append, tkV, if_neg (by decide), if_neg (by decide), if_pos rfl, t, if_neg (by simp), if_neg (by simpa using hs), List.length_cons]
    simp [Nat.add_comm]

theorem keyV_ne {x : Vl} : keyV x ≠ [] := by
  unfold keyV
  split
  · simp
  · split <;> simp

/-- Keys stand as their values, whatever stands behind them. -/
theorem key_lessV (x y : Vl) (a b : List UInt8) (hx : rightV x = 0) (hy : rightV y = 0) (nx : -9223372036854775808 ≤ x.n ∧ x.n ≤ 9223372036854775807) (ny : -9223372036854775808 ≤ y.n ∧ y.n ≤ 9223372036854775807) (hne : x ≠ y) :
    Op.bytesLess (keyV x ++ a) (keyV y ++ b) = decide (cmpV x y < 0) := by
  obtain ⟨_, cx⟩ := rightV_cases hx
  obtain ⟨_, cy⟩ := rightV_cases hy
  have hq : ¬ eqv x y = true := fun e => hne (eqv_iff.1 e)
  obtain ⟨k, n, s⟩ := x
  obtain ⟨k', n', s'⟩ := y
  dsimp only at cx cy nx ny
  rcases cx with ⟨rfl, rfl, rfl⟩ | ⟨rfl, rfl⟩ | ⟨rfl, rfl⟩ <;> rcases cy with ⟨rfl, rfl, rfl⟩ | ⟨rfl, rfl⟩ | ⟨rfl, rfl⟩
  · exact absurd rfl hne
  · rw [show keyV ⟨0, 0, []⟩ = [0] from rfl, show keyV ⟨1, n', []⟩ = 1 :: be (u64of (n' + 9223372036854775808)) 8 from rfl, List.cons_append, List.cons_append, less_lt 0 1 _ _ (by decide), cmpV, if_neg hq]
    rfl
  · rw [show keyV ⟨0, 0, []⟩ = [0] from rfl, show keyV ⟨2, 0, s'⟩ = 2 :: tkey s' from rfl, List.cons_append, List.cons_append, less_lt 0 2 _ _ (by decide), cmpV, if_neg hq]
    rfl
  · rw [show keyV ⟨0, 0, []⟩ = [0] from rfl, show keyV ⟨1, n, []⟩ = 1 :: be (u64of (n + 9223372036854775808)) 8 from rfl, List.cons_append, List.cons_append, less_gt 1 0 _ _ (by decide), cmpV, if_neg hq]
    rfl
  · rw [show keyV ⟨1, n, []⟩ = 1 :: be (u64of (n + 9223372036854775808)) 8 from rfl, show keyV ⟨1, n', []⟩ = 1 :: be (u64of (n' + 9223372036854775808)) 8 from rfl, List.cons_append, List.cons_append, less_cons]
    have hnn : n ≠ n' := fun e => hne (by rw [e])
    have kn : (u64of (n + 9223372036854775808) : Int) = n + 9223372036854775808 := by unfold u64of; omega
    have km : (u64of (n' + 9223372036854775808) : Int) = n' + 9223372036854775808 := by unfold u64of; omega
    have e8 : (256 : Nat) ^ 8 = 18446744073709551616 := by decide
    have ln := u64of_lt (n + 9223372036854775808)
    have lm := u64of_lt (n' + 9223372036854775808)
    rw [less_be _ _ a b 8 (by rw [e8, Nat.mod_eq_of_lt ln, Nat.mod_eq_of_lt lm]; omega), e8, Nat.mod_eq_of_lt ln, Nat.mod_eq_of_lt lm, cmpV, if_neg hq, if_neg (by simp), if_pos (by simpa using hnn), cmpI]
    by_cases hlt : n < n'
    · rw [if_pos hlt, decide_eq_true (by omega)]; rfl
    · rw [if_neg hlt, if_pos (by show n' < n; omega), decide_eq_false (by omega)]; rfl
  · rw [show keyV ⟨1, n, []⟩ = 1 :: be (u64of (n + 9223372036854775808)) 8 from rfl, show keyV ⟨2, 0, s'⟩ = 2 :: tkey s' from rfl, List.cons_append, List.cons_append, less_lt 1 2 _ _ (by decide), cmpV, if_neg hq]
    rfl
  · rw [show keyV ⟨0, 0, []⟩ = [0] from rfl, show keyV ⟨2, 0, s⟩ = 2 :: tkey s from rfl, List.cons_append, List.cons_append, less_gt 2 0 _ _ (by decide), cmpV, if_neg hq]
    rfl
  · rw [show keyV ⟨1, n', []⟩ = 1 :: be (u64of (n' + 9223372036854775808)) 8 from rfl, show keyV ⟨2, 0, s⟩ = 2 :: tkey s from rfl, List.cons_append, List.cons_append, less_gt 2 1 _ _ (by decide), cmpV, if_neg hq]
    rfl
  · have hss : s ≠ s' := fun e => hne (by rw [e])
    rw [show keyV ⟨2, 0, s⟩ = 2 :: tkey s from rfl, show keyV ⟨2, 0, s'⟩ = 2 :: tkey s' from rfl, List.cons_append, List.cons_append, less_cons, less_tkey' s s' a b hss, cmpV, if_neg hq, if_neg (by simp), if_neg (by simp), cmpS]
    by_cases hl : Op.bytesLess s s' = true
    · rw [if_pos hl, hl]; rfl
    · rw [if_neg hl, if_neg hss]
      simp only [Bool.not_eq_true] at hl
      rw [hl]; rfl

theorem ok_zero : OkV ⟨0, 0, []⟩ := by unfold OkV; simp
theorem ok_num (n : Int) (h : -9223372036854775808 ≤ n ∧ n ≤ 9223372036854775807) : OkV ⟨1, n, []⟩ := by unfold OkV; dsimp only; exact ⟨by omega, h, by simp⟩
theorem ok_text (s : List UInt8) (h : s.length ≤ 40) : OkV ⟨2, 0, s⟩ := by unfold OkV; dsimp only; omega

/-- What is taken was written so. -/
theorem tkV_back (bs : List UInt8) (h : (tkV bs).1 = 0) : rightV (tkV bs).2.1 = 0 ∧ OkV (tkV bs).2.1 ∧ keyV (tkV bs).2.1 = bs.take (tkV bs).2.2 := by
  match bs, h with
  | [], h => simp [tkV] at h
  | c :: r, h =>
    by_cases h0 : c = 0
    · subst h0
      exact ⟨rfl, ok_zero, rfl⟩
    · by_cases h1 : c = 1
      · by_cases h8 : r.length < 8
        · rw [show tkV (c :: r) = (3, zV, 0) from by rw [tkV, if_neg h0, if_pos h1, if_pos h8]] at h
          cases h
        · rw [show tkV (c :: r) = (0, ⟨1, i64of (num (r.take 8) + 9223372036854775808), []⟩, 9) from by rw [tkV, if_neg h0, if_pos h1, if_neg h8]]
          subst h1
          have hl8 : (r.take 8).length = 8 := by simp; omega
          have hnum := be_num (r.take 8)
          have hlt := num_lt (r.take 8)
          rw [hl8] at hnum hlt
          have e8 : (256 : Nat) ^ 8 = 18446744073709551616 := by decide
          rw [e8] at hlt
          generalize num (r.take 8) = K at *
          have hb : -9223372036854775808 ≤ i64of (K + 9223372036854775808) ∧ i64of (K + 9223372036854775808) ≤ 9223372036854775807 := by
            unfold i64of
            rw [wrap64_eq]
            omega
          have hu : u64of (i64of (K + 9223372036854775808) + 9223372036854775808) = K := by
            unfold u64of i64of
            rw [wrap64_eq]
            omega
          refine ⟨right_num _, ok_num _ hb, ?_⟩
          show 1 :: be (u64of (i64of (K + 9223372036854775808) + 9223372036854775808)) 8 = (1 :: r).take 9
          rw [hu, hnum]
          rfl
      · by_cases h2 : c = 2
        · by_cases he0 : (ttext r).1 = 0
          · by_cases hs : 40 < (ttext r).2.1.length
            · rw [show tkV (c :: r) = (2, zV, 0) from by rw [tkV, if_neg h0, if_neg h1, if_pos h2, if_neg (by simpa using he0), if_pos hs]] at h
              cases h
            · rw [show tkV (c :: r) = (0, ⟨2, 0, (ttext r).2.1⟩, 1 + (ttext r).2.2) from by rw [tkV, if_neg h0, if_neg h1, if_pos h2, if_neg (by simpa using he0), if_neg hs]]
              obtain ⟨b1, b2⟩ := ttext_back r he0
              subst h2
              refine ⟨by rw [right_text, if_neg hs], ok_text _ (by omega), ?_⟩
              · show 2 :: tkey (ttext r).2.1 = (2 :: r).take (1 + (ttext r).2.2)
                rw [b2, Nat.add_comm, List.take_succ_cons]
          · rw [show tkV (c :: r) = ((ttext r).1, zV, 0) from by rw [tkV, if_neg h0, if_neg h1, if_pos h2, if_pos he0]] at h
            exact absurd h he0
        · rw [show tkV (c :: r) = (4, zV, 0) from by rw [tkV, if_neg h0, if_neg h1, if_neg h2]] at h
          cases h

/-- Rows of values are taken as they were written. -/
theorem trV_row : ∀ (n : Nat) (xs : List Vl), xs.length ≤ n → rowE xs = 0 → (∀ x ∈ xs, OkV x) → trV n (rowK xs) = (0, xs)
  | 0, xs, hl, _, _ => by
    obtain rfl : xs = [] := List.eq_nil_of_length_eq_zero (by omega)
    rfl
  | n + 1, [], _, _, _ => trV_nil _
  | n + 1, x :: xs, hl, he, hok => by
    have hr : rightV x = 0 := by
      by_cases h : rightV x = 0
      · exact h
      · rw [rowE, if_pos h] at he; exact absurd he h
    have he2 : rowE xs = 0 := by rw [rowE, if_neg (by simpa using hr)] at he; exact he
    have ih := trV_row n xs (by simp at hl; omega) he2 fun y hy => hok y (by simp [hy])
    have e : rowK (x :: xs) = keyV x ++ rowK xs := rfl
    have hox := hok x (by simp)
    have ht := tkV_key x (rowK xs) hr hox.2.1.1 hox.2.1.2
    rw [e, trV, if_neg (by intro h; exact keyV_ne (List.append_eq_nil_iff.1 h).1), ht, if_neg (by simp)]
    rw [show (keyV x ++ rowK xs).drop (0, x, (keyV x).length).2.2 = rowK xs from by simp, ih]
    simp

/-- .. and what is taken was written so. -/
theorem trV_back : ∀ (n : Nat) (bs : List UInt8), (trV n bs).1 = 0 → (trV n bs).2.length ≤ n ∧ rowE (trV n bs).2 = 0 ∧ rowK (trV n bs).2 = bs ∧ ∀ x ∈ (trV n bs).2, OkV x
  | 0, bs, h => by
    unfold trV at h ⊢
    by_cases hb : bs = []
    · rw [if_pos hb, hb]; exact ⟨Nat.le_refl _, rfl, rfl, by simp⟩
    · rw [if_neg hb] at h; cases h
  | n + 1, bs, h => by
    rw [trV] at h ⊢
    by_cases hb : bs = []
    · rw [if_pos hb, hb]; exact ⟨Nat.zero_le _, rfl, rfl, by simp⟩
    · rw [if_neg hb] at h ⊢
      by_cases ht : (tkV bs).1 = 0
      · rw [if_neg (by simpa using ht)] at h ⊢
        by_cases hr : (trV n (bs.drop (tkV bs).2.2)).1 = 0
        · rw [if_neg (by simpa using hr)]
          obtain ⟨i1, i2, i3, i4⟩ := trV_back n _ hr
          obtain ⟨b1, b2, b3⟩ := tkV_back bs ht
          refine ⟨by simp; omega, ?_, ?_, ?_⟩
          · show rowE ((tkV bs).2.1 :: _) = 0
            rw [rowE, if_neg (by simpa using b1)]
            exact i2
          · show keyV (tkV bs).2.1 ++ rowK (trV n (bs.drop (tkV bs).2.2)).2 = bs
            rw [i3, b3, List.take_append_drop]
          · intro x hx
            rcases List.mem_cons.1 hx with rfl | hx
            · exact b2
            · exact i4 x hx
        · rw [if_pos hr] at h; exact absurd h hr
      · rw [if_pos ht] at h; exact absurd h ht
end Go.Proofs.YtlcoeoilakobjaaDoor
