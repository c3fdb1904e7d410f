/- Contract of plain.TakeTextKey. -/
import Derived.Test.YthjgbcbgkafgjaaDoorText
namespace Go.Proofs.YthjgbcbgkafgjaaDoor
open Go.RowKit
set_option linter.unusedVariables false
set_option maxRecDepth 20000

def addText (c : UInt8) (n : Nat) (r : Nat × List UInt8 × Nat) : Nat × List UInt8 × Nat := if r.1 = 0 then (0, c :: r.2.1, r.2.2 + n) else (r.1, [], 0)

/-- TakeTextKey's answer: the error, the text, how many bytes it takes. -/
def ttext : List UInt8 → Nat × List UInt8 × Nat
  | [] => (3, [], 0)
  | [c] => if c ≠ 0 then addText c 1 (3, [], 0) else (3, [], 0)
  | c :: d :: r => if c ≠ 0 then addText c 1 (ttext (d :: r)) else if d = 0 then (0, [], 2) else if d ≠ 255 then (4, [], 0) else addText 0 2 (ttext r)

theorem ttext_byte (c : UInt8) (r : List UInt8) (h : c ≠ 0) : ttext (c :: r) = addText c 1 (ttext r) := by
  cases r with
  | nil => simp [ttext, h]
  | cons d r => simp [ttext, h]
theorem ttext_end : ttext [0] = (3, [], 0) := by simp [ttext]
theorem ttext_zero (r : List UInt8) : ttext (0 :: 0 :: r) = (0, [], 2) := by simp [ttext]
theorem ttext_form (d : UInt8) (r : List UInt8) (h : d ≠ 0) (h2 : d ≠ 255) : ttext (0 :: d :: r) = (4, [], 0) := by simp [ttext, h, h2]
theorem ttext_esc (r : List UInt8) : ttext (0 :: 255 :: r) = addText 0 2 (ttext r) := by simp [ttext]

/-- What has been gathered, and then the rest. -/
def thenText (acc : List UInt8) (p : Nat) (r : Nat × List UInt8 × Nat) : Nat × List UInt8 × Nat := if r.1 = 0 then (0, acc ++ r.2.1, p + r.2.2) else (r.1, [], 0)

theorem thenText_add (acc : List UInt8) (p n : Nat) (c : UInt8) (r : Nat × List UInt8 × Nat) : thenText acc p (addText c n r) = thenText (acc ++ [c]) (p + n) r := by
  unfold thenText addText
  by_cases h : r.1 = 0 <;> simp [h]
  omega

theorem ttext_nil (r : Nat × List UInt8 × Nat) (h : r.1 ≠ 0 → r.2 = ([], 0)) : thenText [] 0 r = r := by
  unfold thenText
  by_cases h0 : r.1 = 0
  · obtain ⟨a, b, c⟩ := r
    simp at h0
    subst h0
    simp
  · have := h h0
    rw [if_neg h0]
    obtain ⟨a, b⟩ := r
    simp at this
    rw [this]

theorem ttext_errs : ∀ bs : List UInt8, (ttext bs).1 ≠ 0 → (ttext bs).2 = ([], 0)
  | [] => fun _ => rfl
  | [c] => fun _ => by
    by_cases h : c = 0
    · subst h; rfl
    · rw [ttext_byte c [] h]; rfl
  | c :: d :: r => by
    intro h
    by_cases hc : c = 0
    · subst hc
      by_cases hd : d = 0
      · subst hd; rw [ttext_zero] at h; simp at h
      · by_cases h2 : d = 255
        · subst h2
          rw [ttext_esc] at h ⊢
          unfold addText at h ⊢
          by_cases h3 : (ttext r).1 = 0
          · rw [if_pos h3] at h; simp at h
          · rw [if_neg h3]
        · rw [ttext_form d r hd h2]
    · rw [ttext_byte c _ hc] at h ⊢
      unfold addText at h ⊢
      by_cases h3 : (ttext (d :: r)).1 = 0
      · rw [if_pos h3] at h; simp at h
      · rw [if_neg h3]

theorem drop_at (bs : List UInt8) (p : Nat) (h : p < bs.length) : bs.drop p = (bs[p]?.getD 0) :: bs.drop (p + 1) := by
  rw [List.getElem?_eq_getElem h, Option.getD_some]
  exact List.drop_eq_getElem_cons h

theorem toNat_ne (c d : UInt8) (h : c ≠ d) : ((c.toNat : Int) == (d.toNat : Int)) = false := by
  rw [beq_eq_false_iff_ne]
  intro e
  exact h (UInt8.toNat_inj.1 (by omega))

theorem ret_t3 {a a' : Value} {x x' y y' : Int} (h1 : a = a') (h2 : x = x') (h3 : y = y') : Ending.returned (.tuple #[a, .int .i64 x, .int .i64 y]) = .returned (.tuple #[a', .int .i64 x', .int .i64 y']) := by
  rw [h1, h2, h3]

end Go.Proofs.YthjgbcbgkafgjaaDoor
