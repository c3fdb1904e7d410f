/- Plain facts: Compare is an order. -/
import Derived.Test.YthjgbcbgkafgjaaDoorVRight
import Derived.Test.YthjgbcbgkafgjaaDoorOrdF
namespace Go.Proofs.YthjgbcbgkafgjaaDoor
open Go.RowKit
set_option linter.unusedVariables false

theorem less_trans : ∀ x y z : List UInt8, Op.bytesLess x y = true → Op.bytesLess y z = true → Op.bytesLess x z = true
  | [], [], _, h, _ => by simp [Op.bytesLess] at h
  | [], c :: y, [], _, h => by simp [Op.bytesLess] at h
  | [], c :: y, d :: z, _, _ => by simp [Op.bytesLess]
  | c :: x, [], _, h, _ => by simp [Op.bytesLess] at h
  | c :: x, d :: y, [], _, h => by simp [Op.bytesLess] at h
  | c :: x, d :: y, e :: z, h1, h2 => by
    by_cases hcd : c < d
    · by_cases hde : d < e
      · exact less_lt c e x z (by rw [UInt8.lt_iff_toNat_lt] at *; omega)
      · by_cases hed : e < d
        · rw [less_gt d e y z hed] at h2; cases h2
        · have e1 : d = e := UInt8.toNat_inj.1 (by rw [UInt8.lt_iff_toNat_lt] at hde hed; omega)
          subst e1
          exact less_lt c d x z hcd
    · by_cases hdc : d < c
      · rw [less_gt c d x y hdc] at h1; cases h1
      · have e1 : c = d := UInt8.toNat_inj.1 (by rw [UInt8.lt_iff_toNat_lt] at hcd hdc; omega)
        subst e1
        rw [less_cons] at h1
        by_cases hde : c < e
        · exact less_lt c e x z hde
        · by_cases hed : e < c
          · rw [less_gt c e y z hed] at h2; cases h2
          · have e2 : c = e := UInt8.toNat_inj.1 (by rw [UInt8.lt_iff_toNat_lt] at hde hed; omega)
            subst e2
            rw [less_cons] at h2 ⊢
            exact less_trans x y z h1 h2

/-- A value stands ahead of another one. -/
def lv (x y : Vl) : Prop := x.k < y.k ∨ x.k = y.k ∧ (x.n < y.n ∨ x.n = y.n ∧ Op.bytesLess x.s y.s = true)

theorem lv_irrefl (x : Vl) : ¬ lv x x := by
  unfold lv
  rw [less_self]
  simp

theorem lv_trans {x y z : Vl} (h1 : lv x y) (h2 : lv y z) : lv x z := by
  unfold lv at *
  rcases h1 with h1 | ⟨e1, h1 | ⟨f1, h1⟩⟩ <;> rcases h2 with h2 | ⟨e2, h2 | ⟨f2, h2⟩⟩
  · exact .inl (by omega)
  · exact .inl (by omega)
  · exact .inl (by omega)
  · exact .inl (by omega)
  · exact .inr ⟨by omega, .inl (by omega)⟩
  · exact .inr ⟨by omega, .inl (by omega)⟩
  · exact .inl (by omega)
  · exact .inr ⟨by omega, .inl (by omega)⟩
  · exact .inr ⟨by omega, .inr ⟨by omega, less_trans _ _ _ h1 h2⟩⟩

theorem cmpV_spec (x y : Vl) : (cmpV x y = -1 ∧ lv x y) ∨ (cmpV x y = 0 ∧ x = y) ∨ (cmpV x y = 1 ∧ lv y x) := by
  by_cases he : eqv x y = true
  · exact .inr (.inl ⟨by rw [cmpV, if_pos he], eqv_iff.1 he⟩)
  · have hne : x ≠ y := fun e => he (eqv_iff.2 e)
    rw [cmpV, if_neg he]
    by_cases hk : x.k = y.k
    · rw [if_neg (by simpa using hk)]
      by_cases hn : x.n = y.n
      · rw [if_neg (by simpa using hn)]
        have hs : x.s ≠ y.s := fun e => hne (by obtain ⟨k, n, s⟩ := x; obtain ⟨k', n', s'⟩ := y; simp at hk hn e; rw [hk, hn, e])
        unfold cmpS
        by_cases hl : Op.bytesLess x.s y.s = true
        · exact .inl ⟨by rw [if_pos hl], .inr ⟨hk, .inr ⟨hn, hl⟩⟩⟩
        · rw [if_neg hl, if_neg hs]
          have hl' : Op.bytesLess y.s x.s = true := by
            by_cases h : Op.bytesLess y.s x.s = true
            · exact h
            · exact absurd (less_neither _ _ (by simpa using hl) (by simpa using h)) hs
          exact .inr (.inr ⟨rfl, .inr ⟨hk.symm, .inr ⟨hn.symm, hl'⟩⟩⟩)
      · rw [if_pos hn]
        unfold cmpI
        by_cases hl : x.n < y.n
        · exact .inl ⟨by rw [if_pos hl], .inr ⟨hk, .inl hl⟩⟩
        · rw [if_neg hl, if_pos (by omega)]
          exact .inr (.inr ⟨rfl, .inr ⟨hk.symm, .inl (by omega)⟩⟩)
    · rw [if_pos hk]
      unfold cmpI
      by_cases hl : x.k < y.k
      · exact .inl ⟨by rw [if_pos hl], .inl hl⟩
      · rw [if_neg hl, if_pos (by omega)]
        exact .inr (.inr ⟨rfl, .inl (by omega)⟩)

theorem cmpV_back (x y : Vl) : cmpV y x = -cmpV x y := by
  rcases cmpV_spec x y with ⟨e, h⟩ | ⟨e, h⟩ | ⟨e, h⟩ <;> rcases cmpV_spec y x with ⟨e', h'⟩ | ⟨e', h'⟩ | ⟨e', h'⟩ <;> rw [e, e'] <;> first | rfl | exact absurd (lv_trans h h') (lv_irrefl _) | exact absurd h (by rw [h']; exact lv_irrefl _) | exact absurd h' (by rw [h]; exact lv_irrefl _)

theorem cmpV_zero (x y : Vl) : (cmpV x y == 0) = eqv x y := by
  rcases cmpV_spec x y with ⟨e, h⟩ | ⟨e, h⟩ | ⟨e, h⟩ <;> rw [e]
  · have : ¬ eqv x y = true := fun he => by rw [eqv_iff.1 he] at h; exact lv_irrefl _ h
    simp only [Bool.not_eq_true] at this
    rw [this]; rfl
  · rw [eqv_iff.2 h]; rfl
  · have : ¬ eqv x y = true := fun he => by rw [eqv_iff.1 he] at h; exact lv_irrefl _ h
    simp only [Bool.not_eq_true] at this
    rw [this]; rfl

theorem cmpV_range (x y : Vl) : -1 ≤ cmpV x y ∧ cmpV x y ≤ 1 := by
  rcases cmpV_spec x y with ⟨e, h⟩ | ⟨e, h⟩ | ⟨e, h⟩ <;> rw [e] <;> omega

theorem cmpV_sorts (x y z : Vl) : 0 < cmpV x y ∨ 0 < cmpV y z ∨ (cmpV x z ≤ 0 ∧ ((cmpV x y = 0 ∧ cmpV y z = 0) ∨ cmpV x z < 0)) := by
  rcases cmpV_spec x y with ⟨e, h⟩ | ⟨e, h⟩ | ⟨e, h⟩
  · rcases cmpV_spec y z with ⟨e', h'⟩ | ⟨e', h'⟩ | ⟨e', h'⟩
    · rcases cmpV_spec x z with ⟨e2, h2⟩ | ⟨e2, h2⟩ | ⟨e2, h2⟩
      · rw [e, e', e2]; omega
      · rw [h2] at h; exact absurd (lv_trans h h') (lv_irrefl _)
      · exact absurd (lv_trans (lv_trans h h') h2) (lv_irrefl _)
    · rw [h'] at e; rw [e]; omega
    · rw [e']; omega
  · rcases cmpV_spec y z with ⟨e', h'⟩ | ⟨e', h'⟩ | ⟨e', h'⟩
    · rw [h, e']; omega
    · rw [e, e', h, e']; omega
    · rw [e']; omega
  · rw [e]; omega
end Go.Proofs.YthjgbcbgkafgjaaDoor
