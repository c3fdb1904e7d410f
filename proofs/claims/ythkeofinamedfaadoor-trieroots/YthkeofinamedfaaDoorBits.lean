/- Plain facts on the bits of keys and on their order: nothing of the program is named here. -/
import GoSem.Op.String
namespace Go.Proofs.YthkeofinamedfaaDoor
set_option linter.unusedVariables false

/-- Bit i of a key: for each byte a 1 and its bits, the highest first; then noughts. -/
def bit (k : List UInt8) (i : Nat) : Bool :=
  match k[i / 9]? with
  | none => false
  | some c => i % 9 == 0 || c.toNat / 2 ^ (8 - i % 9) % 2 == 1

theorem bit_nil (i : Nat) : bit [] i = false := by simp [bit]

theorem bit_zero (c : UInt8) (k : List UInt8) : bit (c :: k) 0 = true := by simp [bit]

theorem bit_in (c : UInt8) (k : List UInt8) (j : Nat) (h : j < 8) : bit (c :: k) (j + 1) = (c.toNat / 2 ^ (7 - j) % 2 == 1) := by
  have h1 : (j + 1) / 9 = 0 := by omega
  have h2 : (j + 1) % 9 = j + 1 := by omega
  have h3 : 8 - (j + 1) = 7 - j := by omega
  simp only [bit, h1, h2, h3, List.getElem?_cons_zero]
  simp

theorem bit_next (c : UInt8) (k : List UInt8) (i : Nat) : bit (c :: k) (i + 9) = bit k i := by
  have h1 : (i + 9) / 9 = i / 9 + 1 := by omega
  have h2 : (i + 9) % 9 = i % 9 := by omega
  simp only [bit, h1, h2, List.getElem?_cons_succ]

theorem bit_far (k : List UInt8) (i : Nat) (h : 9 * k.length ≤ i) : bit k i = false := by
  have : k[i / 9]? = none := List.getElem?_eq_none (by omega)
  simp [bit, this]

theorem bit_lt (k : List UInt8) (i : Nat) (h : bit k i = true) : i < 9 * k.length := by
  rcases Nat.lt_or_ge i (9 * k.length) with h1 | h1
  · exact h1
  · rw [bit_far k i h1] at h; cases h

/-- How many bits a number below 256 has. -/
def len8 (x : Nat) : Nat := if x < 1 then 0 else if x < 2 then 1 else if x < 4 then 2 else if x < 8 then 3 else if x < 16 then 4 else if x < 32 then 5 else if x < 64 then 6 else if x < 128 then 7 else 8

theorem len8_le (x : Nat) : len8 x ≤ 8 := by unfold len8; repeat' split
                                             all_goals omega

theorem len8_lt (x : Nat) (hx : x < 256) (n : Nat) (hn : n ≤ 8) : x < 2 ^ n ↔ len8 x ≤ n := by
  rcases (by omega : n = 0 ∨ n = 1 ∨ n = 2 ∨ n = 3 ∨ n = 4 ∨ n = 5 ∨ n = 6 ∨ n = 7 ∨ n = 8) with rfl | rfl | rfl | rfl | rfl | rfl | rfl | rfl | rfl <;>
    (unfold len8; simp only [Nat.reducePow]; repeat' split) <;> omega

theorem xor_div (a b n : Nat) : (a ^^^ b) / 2 ^ n = 0 ↔ a / 2 ^ n = b / 2 ^ n := by
  have h : (a ^^^ b) / 2 ^ n = a / 2 ^ n ^^^ b / 2 ^ n := by
    simp only [← Nat.shiftRight_eq_div_pow]
    exact Nat.shiftRight_xor_distrib
  rw [h]
  generalize a / 2 ^ n = x
  generalize b / 2 ^ n = y
  refine ⟨fun e => ?_, fun e => by rw [e, Nat.xor_self]⟩
  have : (x ^^^ y) ^^^ y = 0 ^^^ y := by rw [e]
  rwa [Nat.xor_assoc, Nat.xor_self, Nat.xor_zero, Nat.zero_xor] at this

/-- The first of the eight bits at which two bytes are unlike. -/
def fb (c d : UInt8) : Nat := 8 - len8 (c.toNat ^^^ d.toNat)

theorem xor_lt256 (c d : UInt8) : c.toNat ^^^ d.toNat < 256 := Nat.xor_lt_two_pow (n := 8) c.toNat_lt d.toNat_lt

theorem fb_pre (c d : UInt8) (n : Nat) (hn : n ≤ 8) : c.toNat / 2 ^ n = d.toNat / 2 ^ n ↔ 8 - fb c d ≤ n := by
  have h1 := len8_lt _ (xor_lt256 c d) n hn
  have h2 := len8_le (c.toNat ^^^ d.toNat)
  rw [← xor_div, Nat.div_eq_zero_iff, h1, fb]
  have : 2 ^ n ≠ 0 := Nat.ne_of_gt (Nat.two_pow_pos n)
  omega

theorem fb_lt (c d : UInt8) (h : c ≠ d) : fb c d < 8 := by
  have h1 := fb_pre c d 0 (by omega)
  have h2 : c.toNat ≠ d.toNat := fun e => h (UInt8.toNat_inj.1 e)
  simp only [Nat.pow_zero, Nat.div_one] at h1
  have : ¬ (8 - fb c d ≤ 0) := fun e => h2 (h1.2 e)
  omega

/-- Up to it they are alike, there they are not, and by it they stand. -/
theorem fb_bits (c d : UInt8) (h : c ≠ d) :
    (∀ j, j < fb c d → c.toNat / 2 ^ (7 - j) % 2 = d.toNat / 2 ^ (7 - j) % 2) ∧ c.toNat / 2 ^ (7 - fb c d) % 2 ≠ d.toNat / 2 ^ (7 - fb c d) % 2 ∧ (c.toNat < d.toNat ↔ c.toNat / 2 ^ (7 - fb c d) % 2 = 0) := by
  have hlt := fb_lt c d h
  have hp := fun n hn => fb_pre c d n hn
  generalize fb c d = f at *
  have hc := c.toNat_lt
  have hd := d.toNat_lt
  generalize c.toNat = a at *
  generalize d.toNat = b at *
  refine ⟨fun j hj => ?_, ?_⟩
  · have := (hp (7 - j) (by omega)).2 (by omega)
    rw [this]
  · have h1 := hp (8 - f) (by omega)
    have h2 := hp (7 - f) (by omega)
    have h3 := h1.2 (by omega)
    have h4 : ¬ a / 2 ^ (7 - f) = b / 2 ^ (7 - f) := fun e => by have := h2.1 e; omega
    clear h1 h2 hp
    rcases (by omega : f = 0 ∨ f = 1 ∨ f = 2 ∨ f = 3 ∨ f = 4 ∨ f = 5 ∨ f = 6 ∨ f = 7) with rfl | rfl | rfl | rfl | rfl | rfl | rfl | rfl <;>
      simp only [Nat.reduceSub, Nat.reducePow] at h3 h4 ⊢ <;> omega

/-- The first place at which the bits of two keys are unlike. -/
def fu : List UInt8 → List UInt8 → Nat
  | c :: a, d :: b => if c = d then fu a b + 9 else fb c d + 1
  | _, _ => 0

theorem fu_comm : ∀ a b : List UInt8, fu a b = fu b a
  | [], [] => rfl
  | [], _ :: _ => rfl
  | _ :: _, [] => rfl
  | c :: a, d :: b => by
    simp only [fu, fu_comm a b, fb, Nat.xor_comm c.toNat d.toNat]
    by_cases h : c = d
    · rw [if_pos h, if_pos h.symm]
    · rw [if_neg h, if_neg (Ne.symm h)]

/-- Ahead of it they are alike. -/
theorem fu_pre : ∀ (a b : List UInt8) (i : Nat), i < fu a b → bit a i = bit b i
  | [], [], i, h => by simp [fu] at h
  | [], _ :: _, i, h => by simp [fu] at h
  | _ :: _, [], i, h => by simp [fu] at h
  | c :: a, d :: b, i, h => by
    by_cases e : c = d
    · subst e
      simp only [fu, if_pos] at h
      rcases Nat.lt_or_ge i 9 with h9 | h9
      · match i, h9 with
        | 0, _ => simp [bit_zero]
        | j + 1, hj => rw [bit_in _ _ _ (by omega), bit_in _ _ _ (by omega)]
      · obtain ⟨j, rfl⟩ : ∃ j, i = j + 9 := ⟨i - 9, by omega⟩
        rw [bit_next, bit_next]
        exact fu_pre a b j (by omega)
    · simp only [fu, if_neg e] at h
      have h8 := fb_lt c d e
      match i with
      | 0 => simp [bit_zero]
      | j + 1 =>
        rw [bit_in _ _ _ (by omega), bit_in _ _ _ (by omega), (fb_bits c d e).1 j (by omega)]

/-- There they are unlike, and by it they stand. -/
theorem fu_at : ∀ (a b : List UInt8), a ≠ b → bit a (fu a b) ≠ bit b (fu a b) ∧ (Op.bytesLess a b = true ↔ bit a (fu a b) = false)
  | [], [], h => absurd rfl h
  | [], d :: b, _ => by simp [fu, bit_zero, bit_nil, Op.bytesLess]
  | c :: a, [], _ => by simp [fu, bit_zero, bit_nil, Op.bytesLess]
  | c :: a, d :: b, h => by
    by_cases e : c = d
    · subst e
      have hne : a ≠ b := fun e => h (by rw [e])
      obtain ⟨h1, h2⟩ := fu_at a b hne
      simp only [fu, if_pos, bit_next, Op.bytesLess]
      refine ⟨h1, ?_⟩
      rw [← h2]
      simp
    · have h8 := fb_lt c d e
      obtain ⟨h1, h2, h3⟩ := fb_bits c d e
      simp only [fu, if_neg e, bit_in _ _ _ h8, Op.bytesLess]
      have hcd : (c == d) = false := by simpa using e
      refine ⟨fun e' => h2 ?_, ?_⟩
      · have := Nat.mod_two_eq_zero_or_one (c.toNat / 2 ^ (7 - fb c d))
        have := Nat.mod_two_eq_zero_or_one (d.toNat / 2 ^ (7 - fb c d))
        rw [Bool.eq_iff_iff] at e'
        simp only [beq_iff_eq] at e'
        omega
      · simp only [hcd, Bool.false_and, Bool.or_false, decide_eq_true_eq, UInt8.lt_iff_toNat_lt, h3, beq_eq_false_iff_ne]
        have := Nat.mod_two_eq_zero_or_one (c.toNat / 2 ^ (7 - fb c d))
        omega

theorem fu_lt (a b : List UInt8) (h : a ≠ b) : fu a b < 9 * a.length ∨ fu a b < 9 * b.length := by
  have := (fu_at a b h).1
  cases h1 : bit a (fu a b) with
  | true => exact .inl (bit_lt _ _ h1)
  | false =>
    cases h2 : bit b (fu a b) with
    | true => exact .inr (bit_lt _ _ h2)
    | false => rw [h1, h2] at this; exact absurd rfl this

/-- A place with that property is the one. -/
theorem fu_unique (a b : List UInt8) (p : Nat) (h1 : ∀ i, i < p → bit a i = bit b i) (h2 : bit a p ≠ bit b p) : fu a b = p := by
  have hne : a ≠ b := fun e => h2 (by rw [e])
  rcases Nat.lt_trichotomy (fu a b) p with h | h | h
  · exact absurd (h1 _ h) (fu_at a b hne).1
  · exact h
  · exact absurd (fu_pre a b p h) h2

theorem less_irrefl : ∀ a : List UInt8, Op.bytesLess a a = false
  | [] => rfl
  | c :: a => by simp [Op.bytesLess, less_irrefl a]

theorem less_of_bit (a b : List UInt8) (p : Nat) (h1 : ∀ i, i < p → bit a i = bit b i) (h2 : bit a p = false) (h3 : bit b p = true) : Op.bytesLess a b = true := by
  have hne : bit a p ≠ bit b p := by rw [h2, h3]; simp
  have := fu_unique a b p h1 hne
  exact (fu_at a b fun e => hne (by rw [e])).2.2 (by rw [this]; exact h2)

theorem less_total (a b : List UInt8) (h : a ≠ b) : Op.bytesLess a b = !Op.bytesLess b a := by
  obtain ⟨h1, h2⟩ := fu_at a b h
  obtain ⟨h3, h4⟩ := fu_at b a (Ne.symm h)
  rw [fu_comm b a] at h3 h4
  cases e1 : Op.bytesLess a b <;> cases e2 : Op.bytesLess b a <;> simp_all

theorem less_asymm (a b : List UInt8) (h : Op.bytesLess a b = true) : Op.bytesLess b a = false := by
  by_cases e : a = b
  · subst e; rw [less_irrefl] at h; cases h
  · have := less_total a b e
    rw [h] at this
    simpa using this

theorem less_trans : ∀ (a b c : List UInt8), Op.bytesLess a b = true → Op.bytesLess b c = true → Op.bytesLess a c = true
  | _, _, [], _, h => by simp [Op.bytesLess] at h
  | [], _, _ :: _, _, _ => rfl
  | _ :: _, [], _ :: _, h, _ => by simp [Op.bytesLess] at h
  | x :: a, y :: b, z :: c, h1, h2 => by
    simp only [Op.bytesLess, Bool.or_eq_true, decide_eq_true_eq, Bool.and_eq_true, beq_iff_eq] at *
    rcases h1 with h1 | ⟨rfl, h1⟩
    · rcases h2 with h2 | ⟨rfl, h2⟩
      · exact .inl (UInt8.lt_trans h1 h2)
      · exact .inl h1
    · rcases h2 with h2 | ⟨rfl, h2⟩
      · exact .inl h2
      · exact .inr ⟨rfl, less_trans a b c h1 h2⟩
end Go.Proofs.YthkeofinamedfaaDoor
