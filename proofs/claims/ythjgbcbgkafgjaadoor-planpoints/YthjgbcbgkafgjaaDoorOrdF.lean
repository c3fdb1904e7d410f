/- Plain facts: the keys stand as what they say. Nothing of the program is named here. -/
import Derived.Test.YthjgbcbgkafgjaaDoorText
namespace Go.Proofs.YthjgbcbgkafgjaaDoor
open Go.RowKit
set_option linter.unusedVariables false
set_option maxRecDepth 20000

theorem less_cons (c : UInt8) (x y : List UInt8) : Op.bytesLess (c :: x) (c :: y) = Op.bytesLess x y := by
  have h : ¬ c < c := by simp
  simp [Op.bytesLess, h]

theorem less_append (p x y : List UInt8) : Op.bytesLess (p ++ x) (p ++ y) = Op.bytesLess x y := by
  induction p with
  | nil => rfl
  | cons c p ih => rw [List.cons_append, List.cons_append, less_cons, ih]

theorem less_lt (c d : UInt8) (x y : List UInt8) (h : c < d) : Op.bytesLess (c :: x) (d :: y) = true := by simp [Op.bytesLess, h]

theorem less_gt (c d : UInt8) (x y : List UInt8) (h : d < c) : Op.bytesLess (c :: x) (d :: y) = false := by
  have h1 : ¬ c < d := by
    rw [UInt8.lt_iff_toNat_lt] at h ⊢
    omega
  have h2 : (c == d) = false := by
    rw [beq_eq_false_iff_ne]
    intro e
    rw [e, UInt8.lt_iff_toNat_lt] at h
    omega
  simp [Op.bytesLess, h1, h2]

theorem less_self : ∀ x : List UInt8, Op.bytesLess x x = false
  | [] => rfl
  | c :: x => by rw [less_cons]; exact less_self x

/-- Two that are neither less are one. -/
theorem less_neither : ∀ x y : List UInt8, Op.bytesLess x y = false → Op.bytesLess y x = false → x = y
  | [], [], _, _ => rfl
  | [], c :: y, h, _ => by simp [Op.bytesLess] at h
  | c :: x, [], _, h => by simp [Op.bytesLess] at h
  | c :: x, d :: y, h1, h2 => by
    by_cases hcd : c < d
    · rw [less_lt c d x y hcd] at h1; cases h1
    · by_cases hdc : d < c
      · rw [less_lt d c y x hdc] at h2; cases h2
      · have e : c = d := UInt8.toNat_inj.1 (by rw [UInt8.lt_iff_toNat_lt] at hcd hdc; omega)
        subst e
        rw [less_cons] at h1 h2
        rw [less_neither x y h1 h2]

theorem less_be (K L : Nat) (a b : List UInt8) : ∀ s, K % 256 ^ s ≠ L % 256 ^ s → Op.bytesLess (be K s ++ a) (be L s ++ b) = decide (K % 256 ^ s < L % 256 ^ s)
  | 0, h => by simp [Nat.mod_one] at h
  | s + 1, h => by
    have e : (256 : Nat) ^ (s + 1) = 256 ^ s * 256 := Nat.pow_succ ..
    have mK := Nat.mod_mul (x := K) (a := 256 ^ s) (b := 256)
    have mL := Nat.mod_mul (x := L) (a := 256 ^ s) (b := 256)
    rw [e, mK, mL] at h ⊢
    have hp : 0 < 256 ^ s := Nat.pow_pos (by omega)
    have lK := Nat.mod_lt K hp
    have lL := Nat.mod_lt L hp
    have ih := less_be K L a b s
    rw [be, be, List.cons_append, List.cons_append]
    have nK : (UInt8.ofNat (K / 256 ^ s)).toNat = K / 256 ^ s % 256 := UInt8.toNat_ofNat'
    have nL : (UInt8.ofNat (L / 256 ^ s)).toNat = L / 256 ^ s % 256 := UInt8.toNat_ofNat'
    generalize UInt8.ofNat (K / 256 ^ s) = c at *
    generalize UInt8.ofNat (L / 256 ^ s) = d at *
    rw [← nK, ← nL] at h ⊢
    clear mK mL nK nL e
    generalize 256 ^ s = q at *
    rcases Nat.lt_trichotomy c.toNat d.toNat with hlt | heq | hgt
    · rw [less_lt c d _ _ (UInt8.lt_iff_toNat_lt.2 hlt)]
      have : q * (c.toNat + 1) ≤ q * d.toNat := Nat.mul_le_mul_left q hlt
      rw [Nat.mul_add] at this
      symm
      rw [decide_eq_true_iff]
      omega
    · have e : c = d := UInt8.toNat_inj.1 heq
      subst e
      rw [less_cons, ih (by omega)]
      congr 1
      rw [eq_iff_iff]
      omega
    · rw [less_gt c d _ _ (UInt8.lt_iff_toNat_lt.2 hgt)]
      have : q * (d.toNat + 1) ≤ q * c.toNat := Nat.mul_le_mul_left q hgt
      rw [Nat.mul_add] at this
      symm
      rw [decide_eq_false_iff_not]
      omega

theorem zero_lt (c : UInt8) (h : c ≠ 0) : (0 : UInt8) < c := by
  rw [UInt8.lt_iff_toNat_lt]
  have : c.toNat ≠ 0 := fun e => h (UInt8.toNat_inj.1 (by simpa using e))
  simp
  omega

theorem less_tkey (a b : List UInt8) : ∀ s t : List UInt8, s ≠ t → Op.bytesLess (escs s ++ 0 :: 0 :: a) (escs t ++ 0 :: 0 :: b) = Op.bytesLess s t
  | [], [], h => absurd rfl h
  | [], c :: t, _ => by
    show Op.bytesLess (0 :: 0 :: a) (escs (c :: t) ++ 0 :: 0 :: b) = true
    by_cases hc : c = 0
    · subst hc
      show Op.bytesLess (0 :: 0 :: a) (0 :: 255 :: (escs t ++ 0 :: 0 :: b)) = true
      rw [less_cons]
      exact less_lt 0 255 _ _ (by decide)
    · have e : escs (c :: t) = c :: escs t := by simp [escs, esc, hc]
      rw [e, List.cons_append]
      exact less_lt 0 c _ _ (zero_lt c hc)
  | c :: s, [], _ => by
    show Op.bytesLess (escs (c :: s) ++ 0 :: 0 :: a) (0 :: 0 :: b) = false
    by_cases hc : c = 0
    · subst hc
      show Op.bytesLess (0 :: 255 :: (escs s ++ 0 :: 0 :: a)) (0 :: 0 :: b) = false
      rw [less_cons]
      exact less_gt 255 0 _ _ (by decide)
    · have e : escs (c :: s) = c :: escs s := by simp [escs, esc, hc]
      rw [e, List.cons_append]
      exact less_gt c 0 _ _ (zero_lt c hc)
  | c :: s, d :: t, h => by
    by_cases hcd : c = d
    · subst hcd
      have hst : s ≠ t := fun e => h (by rw [e])
      have es : escs (c :: s) = esc c ++ escs s := by simp [escs]
      have et : escs (c :: t) = esc c ++ escs t := by simp [escs]
      rw [es, et, List.append_assoc, List.append_assoc, less_append, less_cons]
      exact less_tkey a b s t hst
    · have e1 : ∃ x, escs (c :: s) ++ 0 :: 0 :: a = c :: x := by
        by_cases hc : c = 0
        · subst hc; exact ⟨_, rfl⟩
        · have e : escs (c :: s) = c :: escs s := by simp [escs, esc, hc]
          rw [e]; exact ⟨_, rfl⟩
      have e2 : ∃ x, escs (d :: t) ++ 0 :: 0 :: b = d :: x := by
        by_cases hd : d = 0
        · subst hd; exact ⟨_, rfl⟩
        · have e : escs (d :: t) = d :: escs t := by simp [escs, esc, hd]
          rw [e]; exact ⟨_, rfl⟩
      obtain ⟨x, e1⟩ := e1
      obtain ⟨y, e2⟩ := e2
      rw [e1, e2]
      by_cases hl : c < d
      · rw [less_lt c d _ _ hl, less_lt c d _ _ hl]
      · have hg : d < c := by
          rw [UInt8.lt_iff_toNat_lt] at hl ⊢
          have : c.toNat ≠ d.toNat := fun e => hcd (UInt8.toNat_inj.1 e)
          omega
        rw [less_gt c d _ _ hg, less_gt c d _ _ hg]

theorem less_tkey' (s t a b : List UInt8) (h : s ≠ t) : Op.bytesLess (tkey s ++ a) (tkey t ++ b) = Op.bytesLess s t := by
  have := less_tkey a b s t h
  simpa [tkey] using this

/-- No text's key begins another one's. -/
theorem tkey_begins (s t r : List UInt8) (h : tkey t = tkey s ++ r) : s = t := by
  by_cases he : s = t
  · exact he
  · have h1 := less_tkey' s t r [] he
    have h2 := less_tkey' t s [] r (fun e => he e.symm)
    rw [← h, List.append_nil, less_self] at h1
    rw [← h, List.append_nil, less_self] at h2
    exact less_neither s t h1.symm h2.symm
end Go.Proofs.YthjgbcbgkafgjaaDoor
