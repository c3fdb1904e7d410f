/- Plain facts on the bits of keys and on their order: nothing of the program is named here. -/
import GoSem.Op.String
namespace Go.Proofs.Ytjfipejfejmlaaa
set_option linter.unusedVariables false

/-- Bit i of a key: for each byte a 1 and its bits, the highest first; then noughts. -/
def bit (k : List UInt8) (i : Nat) : Bool :=
  match k[i / 9]? with
  | none => false
  | some c => i % 9 == 0 || c.toNat / 2 ^ (8 - i % 9) % 2 == 1

theorem bit_nil (i : Nat) : bit [] i = false := by simp [bit]

theorem bit_zero (c : UInt8) (k : List UInt8) : bit (c :: k) 0 = true := by simp [bit]

theorem bit_in (c : UInt8) (k : List UInt8) (j : Nat) (h : j < 8) : bit (c :: k) (j + 1) = (c.toNat / 2 ^ (7 - j) % 2 == 1) := by
  have h1 : (j + 1) / 9 = 0 := by omega
  have h2 : (j + 1) % 9 = j + 1 := by omega
  have h3 : 8 - (j + 1) = 7 - j := by omega
  simp only [bit, h1, h2, h3, List.getElem?_cons_zero]
  simp

theorem bit_next (c : UInt8) (k : List UInt8) (i : Nat) : bit (c :: k) (i + 9) = bit k i := by
  have h1 : (i + 9) / 9 = i / 9 + 1 := by omega
  have h2 : (i + 9) % 9 = i % 9 := by omega
  simp only [bit, h1, h2, List.getElem?_cons_succ]

theorem bit_far (k : List UInt8) (i : Nat) (h : 9 * k.length ≤ i) : bit k i = false := by
  have : k[i / 9]? = none := List.getElem?_eq_none (by omega)
  simp [bit, this]

theorem bit_lt (k : List UInt8) (i : Nat) (h : bit k i = true) : i < 9 * k.length := by
  rcases Nat.lt_or_ge i (9 * k.length) with h1 | h1
  · exact h1
  · rw [bit_far k i h1] at h; cases h

/-- How many bits a number below 256 has. -/
def len8 (x : Nat) : Nat := if x < 1 then 0 else if x < 2 then 1 else if x < 4 then 2 else if x < 8 then 3 else if x < 16 then 4 else if x < 32 then 5 else if x < 64 then 6 else if x < 128 then 7 else 8

theorem len8_le (x : Nat) : len8 x ≤ 8 := by unfold len8; repeat' split
                                             all_goals omega

theorem len8_lt (x : Nat) (hx : x < 256) (n : Nat) (hn : n ≤ 8) : x < 2 ^ n ↔ len8 x ≤ n := by
  rcases (by omega : n = 0 ∨ n = 1 ∨ n = 2 ∨ n = 3 ∨ n = 4 ∨ n = 5 ∨ n = 6 ∨ n = 7 ∨ n = 8) with rfl | rfl | rfl | rfl | rfl | rfl | rfl | rfl | rfl <;>
    (unfold len8; simp only [Nat.reducePow]; repeat' split) <;> omega

theorem xor_div (a b n : Nat) : (a ^^^ b) / 2 ^ n = 0 ↔ a / 2 ^ n = b / 2 ^ n := by
  have h : (a ^^^ b) / 2 ^ n = a / 2 ^ n ^^^ b / 2 ^ n := by
    simp only [← Nat.shiftRight_eq_div_pow]
    exact Nat.shiftRight_xor_distrib
  rw [h]
  generalize a / 2 ^ n = x
  generalize b / 2 ^ n = y
  refine ⟨fun e => ?_, fun e => by rw [e, Nat.xor_self]⟩
  have : (x ^^^ y) ^^^ y = 0 ^^^ y := by rw [e]
  rwa [Nat.xor_assoc, Nat.xor_self, Nat.xor_zero, Nat.zero_xor] at this

/-- The first of the eight bits at which two bytes are unlike. -/
def fb (c d : UInt8) : Nat := 8 - len8 (c.toNat ^^^ d.toNat)

theorem xor_lt256 (c d : UInt8) : c.toNat ^^^ d.toNat < 256 := Nat.xor_lt_two_pow (n := 8) c.toNat_lt d.toNat_lt

theorem fb_pre (c d : UInt8) (n : Nat) (hn : n ≤ 8) : c.toNat / 2 ^ n = d.toNat / 2 ^ n ↔ 8 - fb c d ≤ n := by
  have h1 := len8_lt _ (xor_lt256 c d) n hn
  have h2 := len8_le (c.toNat ^^^ d.toNat)
  rw [← xor_div, Nat.div_eq_zero_iff, h1, fb]
  have : 2 ^ n ≠ 0 := Nat.ne_of_gt (Nat.two_pow_pos n)
  omega

theorem fb_lt (c d : UInt8) (h : c ≠ d) : fb c d < 8 := by
  have h1 := fb_pre c d 0 (by omega)
  have h2 : c.toNat ≠ d.toNat := fun e => h (UInt8.toNat_inj.1 e)
  simp only [Nat.pow_zero, Nat.div_one] at h1
  have : ¬ (8 - fb c d ≤ 0) := fun e => h2 (h1.2 e)
  omega

/-- Up to it they are alike, there they are not, and by it they stand. -/
theorem fb_bits (c d : UInt8) (h : c ≠ d) :
    (∀ j, j < fb c d → c.toNat / 2 ^ (7 - j) % 2 = d.toNat / 2 ^ (7 - j) % 2) ∧ c.toNat / 2 ^ (7 - fb c d) % 2 ≠ d.toNat / 2 ^ (7 - fb c d) % 2 ∧ (c.toNat < d.toNat ↔ c.toNat / 2 ^ (7 - fb c d) % 2 = 0) := by
  have hlt := fb_lt c d h
  have hp := fun n hn => fb_pre c d n hn
  generalize fb c d = f at *
  have hc := c.toNat_lt
  have hd := d.toNat_lt
  generalize c.toNat = a at *
  generalize d.toNat = b at *
  refine ⟨fun j hj => ?_, ?_⟩
  · have := (hp (7 - j) (by omega)).2 (by omega)
    rw [this]
  · have h1 := hp (8 - f) (by omega)
    have h2 := hp (7 - f) (by omega)
    have h3 := h1.2 (by omega)
    have h4 : ¬ a / 2 ^ (7 - f) = b / 2 ^ (7 - f) := fun e => by have := h2.1 e; omega
    clear h1 h2 hp
    rcases (by omega : f = 0 ∨ f = 1 ∨ f = 2 ∨ f = 3 ∨ f = 4 ∨ f = 5 ∨ f = 6 ∨ f = 7) with rfl | rfl | rfl | rfl | rfl | rfl | rfl | rfl <;>
      simp only [Nat.reduceSub, Nat.reducePow] at h3 h4 ⊢ <;> omega

/-- The first place at which the bits of two keys are unlike. -/
def fu : List UInt8 → List UInt8 → Nat
  | c :: a, d :: b => if c = d then fu a b + 9 else fb c d + 1
  | _, _ => 0

theorem fu_comm : ∀ a b : List UInt8, fu a b = fu b a
  | [], [] => rfl
  | [], _ :: _ => rfl
  | _ :: _, [] => rfl
  | c :: a, d :: b => by
    simp only [fu, fu_comm a b, fb, Nat.xor_comm c.toNat d.toNat]
    by_cases h : c = d
    · rw [if_pos h, if_pos h.symm]
    · rw [if_neg h, if_neg (Ne.symm h)]

/-- Ahead of it they are alike. -/
theorem fu_pre : ∀ (a b : List UInt8) (i : Nat), i < fu a b → bit a i = bit b i
  | [], [], i, h => by simp [fu] at h
  | [], _ :: _, i, h => by simp [fu] at h
  | _ :: _, [], i, h => by simp [fu] at h
  | c :: a, d :: b, i, h => by
    by_cases e : c = d
    · subst e
      simp only [fu, if_pos] at h
      rcases Nat.lt_or_ge i 9 with h9 | h9
      · match i, h9 with
        | 0, _ => simp [bit_zero]
        | j + 1, hj => rw [bit_in _ _ _ (by omega), bit_in _ _ _ (by omega)]
      · obtain ⟨j, rfl⟩ : ∃ j, i = j + 9 := ⟨i - 9, by omega⟩
        rw [bit_next, bit_next]
        exact fu_pre a b j (by omega)
    · simp only [fu, if_neg e] at h
      have h8 := fb_lt c d e
      match i with
      | 0 => simp [bit_zero]
      | j + 1 =>
        rw [bit_in _ _ _ (by omega), bit_in _ _ _ (by omega), (fb_bits c d e).1 j (by omega)]

/-- There they are unlike, and by it they stand. -/
theorem fu_at : ∀ (a b : List UInt8), a ≠ b → bit a (fu a b) ≠ bit b (fu a b) ∧ (Op.bytesLess a b = true ↔ bit a (fu a b) = false)
  | [], [], h => absurd rfl h
  | [], d :: b, _ => by simp [fu, bit_zero, bit_nil, Op.bytesLess]
  | c :: a, [], _ => by simp [fu, bit_zero, bit_nil, Op.bytesLess]
  | c :: a, d :: b, h => by
    by_cases e : c = d
    · subst e
      have hne : a ≠ b := fun e => h (by rw [e])
      obtain ⟨h1, h2⟩ := fu_at a b hne
      simp only [fu, if_pos, bit_next, Op.bytesLess]
      refine ⟨h1, ?_⟩
      rw [← h2]
      simp
    · have h8 := fb_lt c d e
      obtain ⟨h1, h2, h3⟩ := fb_bits c d e
      simp only [fu, if_neg e, bit_in _ _ _ h8, Op.bytesLess]
      have hcd : (c == d) = false := by simpa using e
      refine ⟨fun e' => h2 ?_, ?_⟩
      · have := Nat.mod_two_eq_zero_or_one (c.toNat / 2 ^ (7 - fb c d))
        have := Nat.mod_two_eq_zero_or_one (d.toNat / 2 ^ (7 - fb c d))
        rw [Bool.eq_iff_iff] at e'
        simp only [beq_iff_eq] at e'
        omega
      · simp only [hcd, Bool.false_and, Bool.or_false, decide_eq_true_eq, UInt8.lt_iff_toNat_lt, h3, beq_eq_false_iff_ne]
        have := Nat.mod_two_eq_zero_or_one (c.toNat / 2 ^ (7 - fb c d))
        omega

theorem fu_lt (a b : List UInt8) (h : a ≠ b) : fu a b < 9 * a.length ∨ fu a b < 9 * b.length := by
  have := (fu_at a b h).1
  cases h1 : bit a (fu a b) with
  | true => exact .inl (bit_lt _ _ h1)
  | false =>
    cases h2 : bit b (fu a b) with
    | true => exact .inr (bit_lt _ _ h2)
    | false => rw [h1, h2] at this; exact absurd rfl this

/-- A place with that property is the one. -/
theorem fu_unique (a b : List UInt8) (p : Nat) (h1 : ∀ i, i < p → bit a i = bit b i) (h2 : bit a p ≠ bit b p) : fu a b = p := by
  have hne : a ≠ b := fun e => h2 (by rw [e])
  rcases Nat.lt_trichotomy (fu a b) p with h | h | h
  · exact absurd (h1 _ h) (fu_at a b hne).1
  · exact h
  · exact absurd (fu_pre a b p h) h2

theorem less_irrefl : ∀ a : List UInt8, Op.bytesLess a a = false
  | [] => rfl
  | c :: a => by simp [Op.bytesLess, less_irrefl a]

theorem less_of_bit (a b : List UInt8) (p : Nat) (h1 : ∀ i, i < p → bit a i = bit b i) (h2 : bit a p = false) (h3 : bit b p = true) : Op.bytesLess a b = true := by
  have hne : bit a p ≠ bit b p := by rw [h2, h3]; simp
  have := fu_unique a b p h1 hne
  exact (fu_at a b fun e => hne (by rw [e])).2.2 (by rw [this]; exact h2)

theorem less_total (a b : List UInt8) (h : a ≠ b) : Op.bytesLess a b = !Op.bytesLess b a := by
  obtain ⟨h1, h2⟩ := fu_at a b h
  obtain ⟨h3, h4⟩ := fu_at b a (Ne.symm h)
  rw [fu_comm b a] at h3 h4
  cases e1 : Op.bytesLess a b <;> cases e2 : Op.bytesLess b a <;> simp_all

theorem less_asymm (a b : List UInt8) (h : Op.bytesLess a b = true) : Op.bytesLess b a = false := by
  by_cases e : a = b
  · subst e; rw [less_irrefl] at h; cases h
  · have := less_total a b e
    rw [h] at this
    simpa using this

theorem less_trans : ∀ (a b c : List UInt8), Op.bytesLess a b = true → Op.bytesLess b c = true → Op.bytesLess a c = true
  | _, _, [], _, h => by simp [Op.bytesLess] at h
  | [], _, _ :: _, _, _ => rfl
  | _ :: _, [], _ :: _, h, _ => by simp [Op.bytesLess] at h
  | x :: a, y :: b, z :: c, h1, h2 => by
    simp only [Op.bytesLess, Bool.or_eq_true, decide_eq_true_eq, Bool.and_eq_true, beq_iff_eq] at *
    rcases h1 with h1 | ⟨rfl, h1⟩
    · rcases h2 with h2 | ⟨rfl, h2⟩
      · exact .inl (UInt8.lt_trans h1 h2)
      · exact .inl h1
    · rcases h2 with h2 | ⟨rfl, h2⟩
      · exact .inl h2
      · exact .inr ⟨rfl, less_trans a b c h1 h2⟩
end Go.Proofs.Ytjfipejfejmlaaa

/- Trees of entries, in plain mathematics: nothing of the program is named here. -/

namespace Go.Proofs.Ytjfipejfejmlaaa
set_option linter.unusedVariables false

/-- An entry: its key, its value. -/
abbrev Ent := List UInt8 × List UInt8

inductive Tri where
  | leaf (k v : List UInt8)
  | fork (p : Nat) (l r : Tri)

namespace Tri
/-- The entries, from left to right. -/
def ents : Tri → List Ent
  | leaf k v => [(k, v)]
  | fork _ l r => l.ents ++ r.ents

/-- May an entry be? -/
def short (e : Ent) : Prop := e.1.length ≤ 120 ∧ e.2.length ≤ 1200

/-- Each fork stands at the first place at which its keys are unlike. -/
def WF : Tri → Prop
  | leaf k v => short (k, v)
  | fork p l r => l.WF ∧ r.WF ∧ (∀ e ∈ l.ents, bit e.1 p = false) ∧ (∀ e ∈ r.ents, bit e.1 p = true) ∧ ∀ e ∈ l.ents ++ r.ents, ∀ f ∈ l.ents ++ r.ents, ∀ i, i < p → bit e.1 i = bit f.1 i

/-- The entry to which a key leads. -/
def near : Tri → List UInt8 → Ent
  | leaf k v, _ => (k, v)
  | fork p l r, key => if bit key p then r.near key else l.near key

theorem ents_ne : ∀ t : Tri, t.ents ≠ []
  | leaf k v => by simp [ents]
  | fork p l r => by simp [ents, ents_ne l]

theorem ents_pos (t : Tri) : 0 < t.ents.length := List.length_pos_iff.2 t.ents_ne

theorem near_mem : ∀ (t : Tri) (key : List UInt8), t.near key ∈ t.ents
  | leaf k v, key => by simp [near, ents]
  | fork p l r, key => by
    simp only [near, ents, List.mem_append]
    split
    · exact .inr (near_mem r key)
    · exact .inl (near_mem l key)

/-- A key that is there leads to its entry. -/
theorem near_of_mem : ∀ (t : Tri), t.WF → ∀ e ∈ t.ents, t.near e.1 = e
  | leaf k v, _, e, he => by simp [ents] at he; subst he; rfl
  | fork p l r, h, e, he => by
    obtain ⟨hl, hr, h0, h1, _⟩ := h
    rcases List.mem_append.1 he with he | he
    · simp only [near, h0 e he]
      exact near_of_mem l hl e he
    · simp only [near, h1 e he, if_true]
      exact near_of_mem r hr e he

theorem short_of : ∀ (t : Tri), t.WF → ∀ e ∈ t.ents, short e
  | leaf k v, h, e, he => by simp [ents] at he; subst he; exact h
  | fork p l r, h, e, he => by
    obtain ⟨hl, hr, _⟩ := h
    rcases List.mem_append.1 he with he | he
    · exact short_of l hl e he
    · exact short_of r hr e he

/-- Rising keys. -/
def Rises (l : List Ent) : Prop := l.Pairwise fun e f => Op.bytesLess e.1 f.1 = true

theorem rises : ∀ (t : Tri), t.WF → Rises t.ents
  | leaf k v, _ => by simp [Rises, ents]
  | fork p l r, h => by
    obtain ⟨hl, hr, h0, h1, h2⟩ := h
    simp only [Rises, ents, List.pairwise_append]
    exact ⟨rises l hl, rises r hr, fun e he f hf => less_of_bit _ _ p (h2 e (List.mem_append.2 (.inl he)) f (List.mem_append.2 (.inr hf))) (h0 e he) (h1 f hf)⟩

theorem Rises.ext : ∀ {a b : List Ent}, Rises a → Rises b → (∀ e, e ∈ a ↔ e ∈ b) → a = b
  | [], [], _, _, _ => rfl
  | [], e :: b, _, _, h => by have := (h e).2 (by simp); simp at this
  | e :: a, [], _, _, h => by have := (h e).1 (by simp); simp at this
  | e :: a, f :: b, ha, hb, h => by
    obtain ⟨ha1, ha2⟩ := List.pairwise_cons.1 ha
    obtain ⟨hb1, hb2⟩ := List.pairwise_cons.1 hb
    have hef : e = f := by
      rcases List.mem_cons.1 ((h e).1 (by simp)) with h1 | h1
      · exact h1
      · rcases List.mem_cons.1 ((h f).2 (by simp)) with h2 | h2
        · exact h2.symm
        · have := less_asymm _ _ (hb1 e h1)
          rw [ha1 f h2] at this
          cases this
    subst hef
    rw [Rises.ext ha2 hb2 fun x => ?_]
    have hx := h x
    simp only [List.mem_cons] at hx
    constructor
    · intro hm
      rcases hx.1 (.inr hm) with h1 | h1
      · subst h1; have := ha1 x hm; rw [less_irrefl] at this; cases this
      · exact h1
    · intro hm
      rcases hx.2 (.inr hm) with h1 | h1
      · subst h1; have := hb1 x hm; rw [less_irrefl] at this; cases this
      · exact h1

/-- Entries of one key are one. -/
theorem same_key (t : Tri) (h : t.WF) (e f : Ent) (he : e ∈ t.ents) (hf : f ∈ t.ents) (hk : e.1 = f.1) : e = f := by
  rw [← near_of_mem t h e he, ← near_of_mem t h f hf, hk]

/-- A place that is higher than a tree's keys are alike stands under it. -/
theorem place_lt (p : Nat) (l r : Tri) (h : (fork p l r).WF) (q : Nat) (hq : ∀ e ∈ l.ents ++ r.ents, ∀ f ∈ l.ents ++ r.ents, ∀ i, i < q → bit e.1 i = bit f.1 i) : q ≤ p := by
  obtain ⟨hl, hr, h0, h1, _⟩ := h
  rcases Nat.lt_or_ge p q with hlt | hge
  · have := hq (l.near []) (List.mem_append.2 (.inl (near_mem l _))) (r.near []) (List.mem_append.2 (.inr (near_mem r _))) p hlt
    rw [h0 _ (near_mem l _), h1 _ (near_mem r _)] at this
    cases this
  · exact hge

theorem place_bound (p : Nat) (l r : Tri) (h : (fork p l r).WF) : p < 1080 := by
  obtain ⟨hl, hr, h0, h1, _⟩ := h
  have h2 := bit_lt _ _ (h1 _ (near_mem r []))
  have h3 := (short_of r hr _ (near_mem r [])).1
  omega

/-- A new fork over a tree, for a new entry. -/
def over (t : Tri) (e : Ent) (place : Nat) : Tri := if bit e.1 place then fork place t (leaf e.1 e.2) else fork place (leaf e.1 e.2) t

/-- A tree with one entry more, whose key parts at a place from that to which it leads. -/
def grow : Tri → Ent → Nat → Tri
  | leaf k v, e, place => over (leaf k v) e place
  | fork p l r, e, place => if place < p then over (fork p l r) e place else if bit e.1 p then fork p l (r.grow e place) else fork p (l.grow e place) r

/-- With another value. -/
def set : Tri → Ent → Tri
  | leaf k v, e => leaf k e.2
  | fork p l r, e => if bit e.1 p then fork p l (r.set e) else fork p (l.set e) r

/-- Without the entry to which a key leads. -/
def cut : Tri → List UInt8 → Option Tri
  | leaf _ _, _ => none
  | fork p l r, key => if bit key p then (match r.cut key with | none => some l | some r' => some (fork p l r')) else (match l.cut key with | none => some r | some l' => some (fork p l' r))

theorem over_mem (t : Tri) (e : Ent) (place : Nat) (f : Ent) : f ∈ (over t e place).ents ↔ f = e ∨ f ∈ t.ents := by
  unfold over
  split <;> simp [ents, or_comm]

theorem grow_mem : ∀ (t : Tri) (e : Ent) (place : Nat) (f : Ent), f ∈ (t.grow e place).ents ↔ f = e ∨ f ∈ t.ents
  | leaf k v, e, place, f => over_mem _ _ _ _
  | fork p l r, e, place, f => by
    simp only [grow]
    split
    · exact over_mem _ _ _ _
    · split
      · simp only [ents, List.mem_append, grow_mem r e place f]
        exact ⟨fun h => h.elim (fun h => .inr (.inl h)) (fun h => h.elim .inl (fun h => .inr (.inr h))), fun h => h.elim (fun h => .inr (.inl h)) (fun h => h.elim .inl (fun h => .inr (.inr h)))⟩
      · simp only [ents, List.mem_append, grow_mem l e place f, or_assoc]

theorem over_length (t : Tri) (e : Ent) (place : Nat) : (over t e place).ents.length = t.ents.length + 1 := by
  unfold over
  split <;> simp [ents] <;> omega

theorem grow_length : ∀ (t : Tri) (e : Ent) (place : Nat), (t.grow e place).ents.length = t.ents.length + 1
  | leaf k v, e, place => over_length _ _ _
  | fork p l r, e, place => by
    simp only [grow]
    split
    · exact over_length _ _ _
    · split
      · simp only [ents, List.length_append, grow_length r e place]; omega
      · simp only [ents, List.length_append, grow_length l e place]; omega

theorem over_wf (t : Tri) (ht : t.WF) (e : Ent) (he : short e) (place : Nat) (hb : ∀ f ∈ t.ents, bit f.1 place ≠ bit e.1 place) (hp : ∀ f ∈ t.ents, ∀ i, i < place → bit f.1 i = bit e.1 i) : (over t e place).WF := by
  have hall : ∀ x y : Ent, (x = e ∨ x ∈ t.ents) → (y = e ∨ y ∈ t.ents) → ∀ i, i < place → bit x.1 i = bit y.1 i := by
    intro x y hx hy i hi
    have h1 : bit x.1 i = bit e.1 i := by rcases hx with rfl | hx; rfl; exact hp x hx i hi
    have h2 : bit y.1 i = bit e.1 i := by rcases hy with rfl | hy; rfl; exact hp y hy i hi
    rw [h1, h2]
  unfold over
  split
  · rename_i hbit
    refine ⟨ht, he, fun f hf => ?_, fun f hf => ?_, fun x hx y hy => hall x y ?_ ?_⟩
    · have := hb f hf; rw [hbit] at this; simpa using this
    · simp [ents] at hf; subst hf; exact hbit
    · simp [ents] at hx; exact hx.symm
    · simp [ents] at hy; exact hy.symm
  · rename_i hbit
    have hbit : bit e.1 place = false := by simpa using hbit
    refine ⟨he, ht, fun f hf => ?_, fun f hf => ?_, fun x hx y hy => hall x y ?_ ?_⟩
    · simp [ents] at hf; subst hf; exact hbit
    · have := hb f hf; rw [hbit] at this; simpa using this
    · simpa [ents] using hx
    · simpa [ents] using hy

/-- All of a tree's keys are alike as far as its fork. -/
theorem alike (p : Nat) (l r : Tri) (h : (fork p l r).WF) (e f : Ent) (he : e ∈ (fork p l r).ents) (hf : f ∈ (fork p l r).ents) (i : Nat) (hi : i < p) : bit e.1 i = bit f.1 i :=
  h.2.2.2.2 e he f hf i hi

theorem grow_wf : ∀ (t : Tri), t.WF → ∀ (e : Ent), short e → ∀ (place : Nat), (∀ i, i < place → bit (t.near e.1).1 i = bit e.1 i) → bit (t.near e.1).1 place ≠ bit e.1 place → (t.grow e place).WF
  | leaf k v, h, e, he, place, h1, h2 => over_wf _ h e he place (fun f hf => by simp [ents] at hf; subst hf; exact h2) (fun f hf => by simp [ents] at hf; subst hf; exact h1)
  | fork p l r, h, e, he, place, h1, h2 => by
    have h' := h
    obtain ⟨hl, hr, h0, hh1, hall⟩ := h
    simp only [grow]
    split
    · rename_i hlt
      have hn := near_mem (fork p l r) e.1
      refine over_wf _ h' e he place (fun f hf => ?_) (fun f hf i hi => ?_)
      · rw [alike p l r h' f _ hf hn place hlt]; exact h2
      · rw [alike p l r h' f _ hf hn i (by omega)]; exact h1 i hi
    · rename_i hge
      have hpp : p ≠ place := by
        intro e'
        subst e'
        simp only [near] at h2
        cases hb : bit e.1 p with
        | true => rw [hb] at h2; simp only [if_true] at h2; exact h2 (hh1 _ (near_mem r _))
        | false => rw [hb] at h2; simp only [Bool.false_eq_true, if_false] at h2; exact h2 (h0 _ (near_mem l _))
      have hlt : p < place := by omega
      split
      · rename_i hb
        simp only [near, hb, if_true] at h1 h2
        refine ⟨hl, grow_wf r hr e he place h1 h2, h0, fun f hf => ?_, fun x hx y hy i hi => ?_⟩
        · rcases (grow_mem r e place f).1 hf with rfl | hf
          · exact hb
          · exact hh1 f hf
        · have key : ∀ x, x ∈ l.ents ++ (r.grow e place).ents → bit x.1 i = bit (r.near e.1).1 i := fun x hx => by
            rcases List.mem_append.1 hx with hx | hx
            · exact hall x (List.mem_append.2 (.inl hx)) _ (List.mem_append.2 (.inr (near_mem r _))) i hi
            · rcases (grow_mem r e place x).1 hx with rfl | hx
              · exact (h1 i (by omega)).symm
              · exact hall x (List.mem_append.2 (.inr hx)) _ (List.mem_append.2 (.inr (near_mem r _))) i hi
          rw [key x hx, key y hy]
      · rename_i hb
        have hb : bit e.1 p = false := by simpa using hb
        simp only [near, hb, Bool.false_eq_true, if_false] at h1 h2
        refine ⟨grow_wf l hl e he place h1 h2, hr, fun f hf => ?_, hh1, fun x hx y hy i hi => ?_⟩
        · rcases (grow_mem l e place f).1 hf with rfl | hf
          · exact hb
          · exact h0 f hf
        · have key : ∀ x, x ∈ (l.grow e place).ents ++ r.ents → bit x.1 i = bit (l.near e.1).1 i := fun x hx => by
            rcases List.mem_append.1 hx with hx | hx
            · rcases (grow_mem l e place x).1 hx with rfl | hx
              · exact (h1 i (by omega)).symm
              · exact hall x (List.mem_append.2 (.inl hx)) _ (List.mem_append.2 (.inl (near_mem l _))) i hi
            · exact hall x (List.mem_append.2 (.inr hx)) _ (List.mem_append.2 (.inl (near_mem l _))) i hi
          rw [key x hx, key y hy]

/-- Setting a value changes no key. -/
theorem set_keys : ∀ (t : Tri) (e : Ent), (t.set e).ents.map (·.1) = t.ents.map (·.1)
  | leaf k v, e => rfl
  | fork p l r, e => by
    simp only [set]
    split <;> simp [ents, set_keys l e, set_keys r e]

theorem key_of_map {a b : List Ent} (h : a.map (·.1) = b.map (·.1)) (f : Ent) (hf : f ∈ a) : ∃ g ∈ b, g.1 = f.1 := by
  have : f.1 ∈ b.map (·.1) := by rw [← h]; exact List.mem_map.2 ⟨f, hf, rfl⟩
  obtain ⟨g, hg, e⟩ := List.mem_map.1 this
  exact ⟨g, hg, e⟩

theorem set_wf : ∀ (t : Tri), t.WF → ∀ (e : Ent), short e → (t.set e).WF
  | leaf k v, h, e, he => ⟨h.1, he.2⟩
  | fork p l r, h, e, he => by
    obtain ⟨hl, hr, h0, h1, hall⟩ := h
    simp only [set]
    split
    · refine ⟨hl, set_wf r hr e he, h0, fun f hf => ?_, fun x hx y hy i hi => ?_⟩
      · obtain ⟨g, hg, eg⟩ := key_of_map (set_keys r e) f hf
        rw [← eg]; exact h1 g hg
      · have key : (l.ents ++ (r.set e).ents).map (·.1) = (l.ents ++ r.ents).map (·.1) := by simp [set_keys r e]
        obtain ⟨g, hg, eg⟩ := key_of_map key x hx
        obtain ⟨g', hg', eg'⟩ := key_of_map key y hy
        rw [← eg, ← eg']; exact hall g hg g' hg' i hi
    · refine ⟨set_wf l hl e he, hr, fun f hf => ?_, h1, fun x hx y hy i hi => ?_⟩
      · obtain ⟨g, hg, eg⟩ := key_of_map (set_keys l e) f hf
        rw [← eg]; exact h0 g hg
      · have key : ((l.set e).ents ++ r.ents).map (·.1) = (l.ents ++ r.ents).map (·.1) := by simp [set_keys l e]
        obtain ⟨g, hg, eg⟩ := key_of_map key x hx
        obtain ⟨g', hg', eg'⟩ := key_of_map key y hy
        rw [← eg, ← eg']; exact hall g hg g' hg' i hi

theorem set_length (t : Tri) (e : Ent) : (t.set e).ents.length = t.ents.length := by
  have := congrArg List.length (set_keys t e)
  simpa using this

theorem set_mem : ∀ (t : Tri), t.WF → ∀ (e : Ent), (t.near e.1).1 = e.1 → ∀ f, f ∈ (t.set e).ents ↔ f = e ∨ (f ∈ t.ents ∧ f.1 ≠ e.1)
  | leaf k v, h, e, hn, f => by
    simp only [near] at hn
    subst hn
    simp only [set, ents, List.mem_singleton]
    constructor
    · rintro rfl; exact .inl rfl
    · rintro (rfl | ⟨rfl, h⟩)
      · rfl
      · exact absurd rfl h
  | fork p l r, h, e, hn, f => by
    obtain ⟨hl, hr, h0, h1, hall⟩ := h
    simp only [set]
    cases hb : bit e.1 p with
    | true =>
      simp only [near, hb, if_true] at hn
      simp only [if_true, ents, List.mem_append, set_mem r hr e hn f]
      constructor
      · rintro (h | h | ⟨h, h'⟩)
        · exact .inr ⟨.inl h, fun e' => by have := h0 f h; rw [e', hb] at this; cases this⟩
        · exact .inl h
        · exact .inr ⟨.inr h, h'⟩
      · rintro (h | ⟨h | h, h'⟩)
        · exact .inr (.inl h)
        · exact .inl h
        · exact .inr (.inr ⟨h, h'⟩)
    | false =>
      simp only [near, hb, Bool.false_eq_true, if_false] at hn
      simp only [Bool.false_eq_true, if_false, ents, List.mem_append, set_mem l hl e hn f]
      constructor
      · rintro ((h | ⟨h, h'⟩) | h)
        · exact .inl h
        · exact .inr ⟨.inl h, h'⟩
        · exact .inr ⟨.inr h, fun e' => by have := h1 f h; rw [e', hb] at this; cases this⟩
      · rintro (h | ⟨h | h, h'⟩)
        · exact .inl (.inl h)
        · exact .inl (.inr ⟨h, h'⟩)
        · exact .inr h

/-- The entries of a tree that may be none. -/
def entsO : Option Tri → List Ent
  | none => []
  | some t => t.ents

def WFO : Option Tri → Prop
  | none => True
  | some t => t.WF

theorem cut_spec : ∀ (t : Tri), t.WF → ∀ (key : List UInt8), (t.near key).1 = key → (∀ f, f ∈ entsO (t.cut key) ↔ f ∈ t.ents ∧ f.1 ≠ key) ∧ WFO (t.cut key) ∧ (entsO (t.cut key)).length + 1 = t.ents.length
  | leaf k v, h, key, hn => by
    simp only [near] at hn
    subst hn
    refine ⟨fun f => ?_, trivial, rfl⟩
    simp only [cut, entsO, ents, List.mem_singleton, List.not_mem_nil, false_iff, not_and, ne_eq, Decidable.not_not]
    rintro rfl; rfl
  | fork p l r, h, key, hn => by
    obtain ⟨hl, hr, h0, h1, hall⟩ := h
    cases hb : bit key p with
    | true =>
      simp only [near, hb, if_true] at hn
      obtain ⟨hm, hw, hlen⟩ := cut_spec r hr key hn
      have hlk : ∀ f ∈ l.ents, f.1 ≠ key := fun f hf e => by have := h0 f hf; rw [e, hb] at this; cases this
      simp only [cut, hb, if_true]
      cases hc : r.cut key with
      | none =>
        rw [hc] at hm hlen
        simp only [entsO, List.not_mem_nil, false_iff, List.length_nil] at hm hlen
        refine ⟨fun f => ?_, hl, by simp [entsO, ents]; omega⟩
        simp only [entsO, ents, List.mem_append]
        exact ⟨fun hf => ⟨.inl hf, hlk f hf⟩, fun ⟨hf, hk⟩ => hf.resolve_right fun hf => hm f ⟨hf, hk⟩⟩
      | some r' =>
        rw [hc] at hm hw hlen
        simp only [entsO, WFO] at hm hw hlen
        refine ⟨fun f => ?_, ⟨hl, hw, h0, fun f hf => h1 f ((hm f).1 hf).1, fun x hx y hy i hi => ?_⟩, by simp [entsO, ents]; omega⟩
        · simp only [entsO, ents, List.mem_append, hm f]
          exact ⟨fun hf => hf.elim (fun hf => ⟨.inl hf, hlk f hf⟩) (fun hf => ⟨.inr hf.1, hf.2⟩), fun ⟨hf, hk⟩ => hf.imp id (fun hf => ⟨hf, hk⟩)⟩
        · have key' : ∀ x, x ∈ l.ents ++ r'.ents → x ∈ l.ents ++ r.ents := fun x hx => (List.mem_append.1 hx).elim (fun h => List.mem_append.2 (.inl h)) (fun h => List.mem_append.2 (.inr ((hm x).1 h).1))
          exact hall x (key' x hx) y (key' y hy) i hi
    | false =>
      simp only [near, hb, Bool.false_eq_true, if_false] at hn
      obtain ⟨hm, hw, hlen⟩ := cut_spec l hl key hn
      have hrk : ∀ f ∈ r.ents, f.1 ≠ key := fun f hf e => by have := h1 f hf; rw [e, hb] at this; cases this
      simp only [cut, hb, Bool.false_eq_true, if_false]
      cases hc : l.cut key with
      | none =>
        rw [hc] at hm hlen
        simp only [entsO, List.not_mem_nil, false_iff, List.length_nil] at hm hlen
        refine ⟨fun f => ?_, hr, by simp [entsO, ents]; omega⟩
        simp only [entsO, ents, List.mem_append]
        exact ⟨fun hf => ⟨.inr hf, hrk f hf⟩, fun ⟨hf, hk⟩ => hf.resolve_left fun hf => hm f ⟨hf, hk⟩⟩
      | some l' =>
        rw [hc] at hm hw hlen
        simp only [entsO, WFO] at hm hw hlen
        refine ⟨fun f => ?_, ⟨hw, hr, fun f hf => h0 f ((hm f).1 hf).1, h1, fun x hx y hy i hi => ?_⟩, by simp [entsO, ents]; omega⟩
        · simp only [entsO, ents, List.mem_append, hm f]
          exact ⟨fun hf => hf.elim (fun hf => ⟨.inl hf.1, hf.2⟩) (fun hf => ⟨.inr hf, hrk f hf⟩), fun ⟨hf, hk⟩ => hf.imp (fun hf => ⟨hf, hk⟩) id⟩
        · have key' : ∀ x, x ∈ l'.ents ++ r.ents → x ∈ l.ents ++ r.ents := fun x hx => (List.mem_append.1 hx).elim (fun h => List.mem_append.2 (.inl ((hm x).1 h).1)) (fun h => List.mem_append.2 (.inr h))
          exact hall x (key' x hx) y (key' y hy) i hi

/-- The subtrees that a key leads through, from the top. -/
def way : Tri → List UInt8 → List Tri
  | leaf k v, _ => [leaf k v]
  | fork p l r, key => fork p l r :: (if bit key p then r.way key else l.way key)

/-- Two trees of the same entries are one. -/
theorem unique : ∀ (t u : Tri), t.WF → u.WF → t.ents = u.ents → t = u
  | leaf k v, leaf k' v', _, _, h => by simp [ents] at h; rw [h.1, h.2]
  | leaf k v, fork p l r, _, _, h => by
    have := congrArg List.length h
    have h1 := ents_pos l
    have h2 := ents_pos r
    simp [ents] at this
    omega
  | fork p l r, leaf k v, _, _, h => by
    have := congrArg List.length h
    have h1 := ents_pos l
    have h2 := ents_pos r
    simp [ents] at this
    omega
  | fork p l r, fork q a b, h1, h2, h => by
    have e1 : p = q := Nat.le_antisymm (place_lt q a b h2 p (by have := h1.2.2.2.2; simp only [ents] at h; rw [h] at this; exact this)) (place_lt p l r h1 q (by have := h2.2.2.2.2; simp only [ents] at h; rw [← h] at this; exact this))
    subst e1
    simp only [ents] at h
    obtain ⟨w1, w2, b0, b1, _⟩ := h1
    obtain ⟨w3, w4, c0, c1, _⟩ := h2
    have f1 : l.ents = a.ents := by
      have hf := congrArg (List.filter fun e => !bit e.1 p) h
      rw [List.filter_append, List.filter_append] at hf
      rwa [List.filter_eq_self.2 (fun e he => by simp [b0 e he]), List.filter_eq_nil_iff.2 (fun e he => by simp [b1 e he]), List.filter_eq_self.2 (fun e he => by simp [c0 e he]), List.filter_eq_nil_iff.2 (fun e he => by simp [c1 e he]), List.append_nil, List.append_nil] at hf
    have f2 : r.ents = b.ents := by rw [f1] at h; exact List.append_cancel_left h
    rw [unique l a w1 w3 f1, unique r b w2 w4 f2]

/-- A tree that may be none, with one entry more, or with another value. -/
def put : Option Tri → Ent → Tri
  | none, e => leaf e.1 e.2
  | some t, e => if (t.near e.1).1 = e.1 then t.set e else t.grow e (fu (t.near e.1).1 e.1)

theorem put_spec (o : Option Tri) (ho : WFO o) (e : Ent) (he : short e) : (put o e).WF ∧ ∀ f, f ∈ (put o e).ents ↔ f = e ∨ (f ∈ entsO o ∧ f.1 ≠ e.1) := by
  cases o with
  | none => exact ⟨he, fun f => by simp [put, ents, entsO]⟩
  | some t =>
    simp only [put]
    split
    · rename_i hn
      exact ⟨set_wf t ho e he, set_mem t ho e hn⟩
    · rename_i hn
      refine ⟨grow_wf t ho e he _ (fun i hi => fu_pre _ _ i hi) (fu_at _ _ hn).1, fun f => ?_⟩
      rw [grow_mem]
      refine ⟨fun h => h.imp id fun h => ⟨h, fun e' => hn ?_⟩, fun h => h.imp id (·.1)⟩
      rw [← e', near_of_mem t ho f h]

/-- Every row of rising short entries is that of a tree. -/
theorem exists_of : ∀ (l : List Ent), Rises l → (∀ e ∈ l, short e) → ∃ o, WFO o ∧ entsO o = l
  | [], _, _ => ⟨none, trivial, rfl⟩
  | e :: l, h, hs => by
    obtain ⟨h1, h2⟩ := List.pairwise_cons.1 h
    obtain ⟨o, ho, hl⟩ := exists_of l h2 fun x hx => hs x (by simp [hx])
    obtain ⟨hw, hm⟩ := put_spec o ho e (hs e (by simp))
    refine ⟨some (put o e), hw, ?_⟩
    refine Rises.ext (rises _ hw) h fun f => ?_
    show f ∈ (put o e).ents ↔ _
    rw [hm, hl, List.mem_cons]
    refine ⟨fun hf => hf.imp id (·.1), fun hf => hf.imp id fun hf => ⟨hf, fun e' => ?_⟩⟩
    have := h1 f hf
    rw [e', less_irrefl] at this
    cases this
end Tri
end Go.Proofs.Ytjfipejfejmlaaa
