/- Plain facts: what was written is taken, what is taken was written so. Nothing of the program is named here. -/
import Derived.Test.YthjgbcbgkafgjaaDoorCodec
import Derived.Test.YthjgbcbgkafgjaaDoorTText
namespace Go.Proofs.YthjgbcbgkafgjaaDoor
open Go.RowKit
set_option linter.unusedVariables false
set_option maxRecDepth 20000

theorem ofNat_eq (a b : Nat) (h : a % 256 = b % 256) : UInt8.ofNat a = UInt8.ofNat b := by
  apply UInt8.toNat_inj.1
  rw [UInt8.toNat_ofNat', UInt8.toNat_ofNat']
  exact h

theorem be_add (a m k : Nat) : ∀ j, j ≤ k → be (a * 256 ^ k + m) j = be m j
  | 0, _ => rfl
  | j + 1, h => by
    rw [be, be, be_add a m k j (by omega)]
    congr 1
    apply ofNat_eq
    have e : (256 : Nat) ^ k = 256 ^ j * (256 * 256 ^ (k - j - 1)) := by
      rw [← Nat.pow_succ', ← Nat.pow_add]
      congr 1
      omega
    have hp : 0 < 256 ^ j := Nat.pow_pos (by omega)
    rw [e, show a * (256 ^ j * (256 * 256 ^ (k - j - 1))) + m = m + 256 ^ j * (256 * (a * 256 ^ (k - j - 1))) by rw [Nat.add_comm, Nat.mul_left_comm, ← Nat.mul_assoc a, Nat.mul_comm a 256, Nat.mul_assoc], Nat.add_mul_div_left _ _ hp]
    omega

/-- Bytes are the number that they are. -/
theorem be_num : ∀ l : List UInt8, be (num l) l.length = l
  | [] => rfl
  | c :: t => by
    have hl := num_lt t
    rw [num_cons, List.length_cons, be, be_add _ _ _ _ (Nat.le_refl _), be_num t]
    congr 1
    have hp : 0 < 256 ^ t.length := Nat.pow_pos (by omega)
    have e : (c.toNat * 256 ^ t.length + num t) / 256 ^ t.length = c.toNat := by
      rw [Nat.add_comm, Nat.add_mul_div_right _ _ hp, Nat.div_eq_of_lt hl, Nat.zero_add]
    rw [e]
    exact UInt8.ofNat_toNat

theorem num_be8 (n : Int) : num (be (u64of n) 8) = u64of n := by
  rw [num_be]
  have := u64of_lt n
  simp only [Nat.reducePow]
  exact Nat.mod_eq_of_lt this

theorem tnum_num (n : Int) (r : List UInt8) (h0 : -9223372036854775808 ≤ n) (h1 : n ≤ 9223372036854775807) : tnum (be (u64of n) 8 ++ r) 0 = (n, 8, 0) := by
  rw [tnum, if_neg (by simp [be_length]), List.take_append_of_le_length (by rw [be_length]; omega), List.take_of_length_le (by rw [be_length]; omega), num_be8]
  have e : (u64of n : Int) = n % 18446744073709551616 := Int.toNat_of_nonneg (Int.emod_nonneg n (by decide))
  have : i64of (u64of n + 0) = n := by
    rw [i64of, wrap64_eq]
    generalize u64of n = K at *
    omega
  rw [this]

theorem tnum_key (n : Int) (r : List UInt8) (h0 : -9223372036854775808 ≤ n) (h1 : n ≤ 9223372036854775807) : tnum (be (u64of (n + 9223372036854775808)) 8 ++ r) 9223372036854775808 = (n, 8, 0) := by
  rw [tnum, if_neg (by simp [be_length]), List.take_append_of_le_length (by rw [be_length]; omega), List.take_of_length_le (by rw [be_length]; omega), num_be8]
  have e : (u64of (n + 9223372036854775808) : Int) = (n + 9223372036854775808) % 18446744073709551616 := Int.toNat_of_nonneg (Int.emod_nonneg _ (by decide))
  have : i64of (u64of (n + 9223372036854775808) + 9223372036854775808) = n := by
    rw [i64of, wrap64_eq]
    generalize u64of (n + 9223372036854775808) = K at *
    omega
  rw [this]

theorem ttext_tkey (r : List UInt8) : ∀ s : List UInt8, ttext (tkey s ++ r) = (0, s, (tkey s).length)
  | [] => by
    show ttext (0 :: 0 :: r) = _
    rw [ttext_zero]
    rfl
  | c :: s => by
    have ih := ttext_tkey r s
    by_cases hc : c = 0
    · subst hc
      have e : tkey (0 :: s) ++ r = 0 :: 255 :: (tkey s ++ r) := by simp [tkey, escs, esc]
      rw [e, ttext_esc, ih]
      simp [addText, tkey, escs, esc]
    · have e : tkey (c :: s) ++ r = c :: (tkey s ++ r) := by simp [tkey, escs, esc, hc]
      rw [e, ttext_byte c _ hc, ih]
      simp [addText, tkey, escs, esc, hc]

theorem addText_ok {c : UInt8} {n : Nat} {r : Nat × List UInt8 × Nat} (h : (addText c n r).1 = 0) : r.1 = 0 ∧ addText c n r = (0, c :: r.2.1, r.2.2 + n) := by
  unfold addText at h ⊢
  by_cases h0 : r.1 = 0
  · rw [if_pos h0]; exact ⟨h0, rfl⟩
  · rw [if_neg h0] at h; exact absurd h h0

/-- What is taken was written so: texts. -/
theorem ttext_back : ∀ bs : List UInt8, (ttext bs).1 = 0 → (ttext bs).2.2 ≤ bs.length ∧ tkey (ttext bs).2.1 = bs.take (ttext bs).2.2
  | [], h => by simp [ttext] at h
  | [c], h => by
    by_cases hc : c = 0
    · subst hc; rw [ttext_end] at h; simp at h
    · rw [ttext_byte c [] hc] at h
      have := (addText_ok h).1
      simp [ttext] at this
  | c :: d :: r, h => by
    by_cases hc : c = 0
    · subst hc
      by_cases hd : d = 0
      · subst hd
        rw [ttext_zero]
        exact ⟨by simp, by simp [tkey, escs]⟩
      · by_cases h2 : d = 255
        · subst h2
          rw [ttext_esc] at h ⊢
          obtain ⟨h3, e⟩ := addText_ok h
          obtain ⟨i1, i2⟩ := ttext_back r h3
          rw [e]
          refine ⟨by simp; omega, ?_⟩
          show tkey (0 :: (ttext r).2.1) = (0 :: 255 :: r).take ((ttext r).2.2 + 2)
          rw [List.take_succ_cons, List.take_succ_cons, ← i2]
          simp [tkey, escs, esc]
        · rw [ttext_form d r hd h2] at h
          simp at h
    · rw [ttext_byte c _ hc] at h ⊢
      obtain ⟨h3, e⟩ := addText_ok h
      obtain ⟨i1, i2⟩ := ttext_back (d :: r) h3
      rw [e]
      refine ⟨by simp at i1 ⊢; omega, ?_⟩
      show tkey (c :: (ttext (d :: r)).2.1) = (c :: d :: r).take ((ttext (d :: r)).2.2 + 1)
      rw [List.take_succ_cons, ← i2]
      simp [tkey, escs, esc, hc]

theorem tblob_back (bs : List UInt8) (h : (tblob bs).1 = 0) : (tblob bs).2.1.length ≤ 65536 ∧ (tblob bs).2.2 ≤ bs.length ∧ blob (tblob bs).2.1 = bs.take (tblob bs).2.2 := by
  have hu := tblob_used bs h
  refine ⟨hu.2.2.1, hu.2.1, ?_⟩
  unfold tblob at h ⊢
  split at h
  · rename_i hz
    exact absurd h hz
  · rename_i hz
    split at h
    · simp at h
    · rename_i hl
      rw [if_neg hz, if_neg hl]
      obtain ⟨h4, hn, hm⟩ := tcount_ok bs 65536 (by simpa using hz)
      rw [hn] at hl ⊢
      have hlen : ((bs.drop 4).take (num (bs.take 4))).length = num (bs.take 4) := by simp; omega
      have h4l : (bs.take 4).length = 4 := by simp; omega
      have hb := be_num (bs.take 4)
      rw [h4l] at hb
      show blob ((bs.drop 4).take (num (bs.take 4))) = bs.take (4 + num (bs.take 4))
      rw [blob, hlen, hb, List.take_add]

/-- What is taken was written so: rows of blobs. -/
theorem trows_back (bs : List UInt8) : ∀ n i, i ≤ bs.length → (trows bs n i).1 = 0 →
    (trows bs n i).2.1.length = n ∧ fits (trows bs n i).2.1 ∧ i ≤ (trows bs n i).2.2 ∧ (trows bs n i).2.2 ≤ bs.length ∧ bs.take (trows bs n i).2.2 = bs.take i ++ blobs (trows bs n i).2.1
  | 0, i, hi, _ => by
    refine ⟨rfl, fun r hr => by simp [trows] at hr, Nat.le_refl _, hi, ?_⟩
    simp [trows, blobs]
  | n + 1, i, hi, h => by
    rw [trows] at h ⊢
    by_cases h1 : (tblob (bs.drop i)).1 = 0
    · rw [if_neg (by simpa using h1)] at h ⊢
      by_cases h2 : (trows bs n (i + (tblob (bs.drop i)).2.2)).1 = 0
      · rw [if_neg (by simpa using h2)]
        obtain ⟨b1, b2, b3⟩ := tblob_back (bs.drop i) h1
        have hd : (bs.drop i).length = bs.length - i := by simp
        rw [hd] at b2
        obtain ⟨t1, t2, t3, t4, t5⟩ := trows_back bs n (i + (tblob (bs.drop i)).2.2) (by omega) h2
        refine ⟨by simp [t1], fun r hr => ?_, by simp only; omega, t4, ?_⟩
        · rcases List.mem_cons.1 hr with rfl | hr
          · exact b1
          · exact t2 r hr
        · simp only
          rw [t5, List.take_add, ← b3, blobs_cons, List.append_assoc]
      · rw [if_pos (by simpa using h2)] at h
        exact absurd h h2
    · rw [if_pos (by simpa using h1)] at h
      exact absurd h h1

/-- What is taken was written so: rows. -/
theorem trow_back (bs : List UInt8) (h : (trow bs).1 = 0) : rowOf (trow bs).2.1 = (0, rowBytes (trow bs).2.1) ∧ (trow bs).2.2 ≤ bs.length ∧ rowBytes (trow bs).2.1 = bs.take (trow bs).2.2 := by
  by_cases hz : (tcount bs 4096).2 = 0
  · obtain ⟨h4, hn, hm⟩ := tcount_ok bs 4096 hz
    rw [trow_ok bs hz] at h ⊢
    obtain ⟨t1, t2, t3, t4, t5⟩ := trows_back bs _ 4 h4 h
    have h4l : (bs.take 4).length = 4 := by simp; omega
    have hb := be_num (bs.take 4)
    rw [h4l, ← hn] at hb
    refine ⟨?_, t4, ?_⟩
    · rw [rowOf, if_neg]
      rintro (h1 | ⟨m, h1, h2⟩)
      · omega
      · have := t2 _ (List.getElem_mem h1)
        rw [List.getElem?_eq_getElem h1, Option.getD_some] at h2
        omega
    · rw [t5, rowBytes, t1, hb]
  · rw [trow_no bs hz] at h
    exact absurd h hz

theorem rowOf_err (rows : List (List UInt8)) : (rowOf rows).1 = 0 ∨ (rowOf rows).1 = 2 := by
  unfold rowOf
  split <;> simp
end Go.Proofs.YthjgbcbgkafgjaaDoor
