/- Plain facts on sets of replicas: sizes, bits, members, what enough of them say: nothing of the program is named here. -/
import Derived.WalkKit
import Derived.Test.YtkjgipiaamhdlaaChecked
namespace Go.Proofs.Ytkjgipiaamhdlaa
open Go.RowKit
set_option linter.unusedVariables false
set_option maxRecDepth 20000

theorem hid {p : Prop} (h : p) : Hid p := h

/-- The string of bytes. -/
def str8 (bs : List UInt8) : ByteArray := ⟨bs.toArray⟩

theorem str8_size (t : List UInt8) : (str8 t).size = t.length := by simp [str8, ByteArray.size]

theorem str8_list (t : List UInt8) : (str8 t).data.toList = t := by simp [str8]

theorem str8_inj {a b : List UInt8} (h : str8 a = str8 b) : a = b := by
  have := congrArg (fun s : ByteArray => s.data.toList) h
  simpa [str8_list] using this

theorem str8_of (s : ByteArray) : str8 s.data.toList = s := by
  apply ByteArray.ext
  simp [str8]

/-- A number that is 64 bits wide. -/
def I64 (x : Int) : Prop := -9223372036854775808 ≤ x ∧ x ≤ 9223372036854775807

theorem I64.wf {x : Int} (h : I64 x) : (Lit.int .i64 x).wf = true := by
  unfold I64 at h
  simp [Lit.wf, IntKind.min, IntKind.max, IntKind.signed, IntKind.bits]
  omega

theorem I64.of_wf {x : Int} (h : (Lit.int .i64 x).wf = true) : I64 x := by
  simpa [I64, Lit.wf, IntKind.min, IntKind.max, IntKind.signed, IntKind.bits] using h

/-! ### sizes -/

def sizeQ (f : Int) : Int := if 1 ≤ f ∧ f ≤ 5 then 3 * f + 1 else 0
def sizeE (f : Int) : Int := if 1 ≤ f ∧ f ≤ 5 then 0 else 1
def fltQ (n : Int) : Int := if n = 4 then 1 else if n = 7 then 2 else if n = 10 then 3 else if n = 13 then 4 else if n = 16 then 5 else 0
def fltE (n : Int) : Int := if fltQ n = 0 then 1 else 0
def mostQ (n : Int) : Int := if fltQ n = 0 then 0 else 2 * fltQ n + 1
def fewQ (n : Int) : Int := if fltQ n = 0 then 0 else fltQ n + 1

theorem fltQ_cases (n : Int) : (n = 4 ∧ fltQ n = 1) ∨ (n = 7 ∧ fltQ n = 2) ∨ (n = 10 ∧ fltQ n = 3) ∨ (n = 13 ∧ fltQ n = 4) ∨ (n = 16 ∧ fltQ n = 5) ∨ fltQ n = 0 := by
  by_cases h1 : n = 4
  · subst h1; exact .inl ⟨rfl, rfl⟩
  by_cases h2 : n = 7
  · subst h2; exact .inr (.inl ⟨rfl, rfl⟩)
  by_cases h3 : n = 10
  · subst h3; exact .inr (.inr (.inl ⟨rfl, rfl⟩))
  by_cases h4 : n = 13
  · subst h4; exact .inr (.inr (.inr (.inl ⟨rfl, rfl⟩)))
  by_cases h5 : n = 16
  · subst h5; exact .inr (.inr (.inr (.inr (.inl ⟨rfl, rfl⟩))))
  unfold fltQ
  rw [if_neg h1, if_neg h2, if_neg h3, if_neg h4, if_neg h5]
  simp

theorem fltQ_range (n : Int) : 0 ≤ fltQ n ∧ fltQ n ≤ 5 := by
  rcases fltQ_cases n with ⟨_, h⟩ | ⟨_, h⟩ | ⟨_, h⟩ | ⟨_, h⟩ | ⟨_, h⟩ | h <;> omega

theorem fltQ_hit (k : Int) (h1 : 1 ≤ k) (h5 : k ≤ 5) : fltQ (3 * k + 1) = k := by
  have : k = 1 ∨ k = 2 ∨ k = 3 ∨ k = 4 ∨ k = 5 := by omega
  rcases this with rfl | rfl | rfl | rfl | rfl <;> rfl

theorem fltQ_none (n : Int) (h : ∀ j : Int, 1 ≤ j → j < 6 → 3 * j + 1 ≠ n) : fltQ n = 0 := by
  have h1 := h 1 (by omega) (by omega)
  have h2 := h 2 (by omega) (by omega)
  have h3 := h 3 (by omega) (by omega)
  have h4 := h 4 (by omega) (by omega)
  have h5 := h 5 (by omega) (by omega)
  unfold fltQ
  rw [if_neg (by omega), if_neg (by omega), if_neg (by omega), if_neg (by omega), if_neg (by omega)]

theorem fltQ_pos {n : Int} (h : fltQ n ≠ 0) : n = 3 * fltQ n + 1 := by
  rcases fltQ_cases n with ⟨_, h⟩ | ⟨_, h⟩ | ⟨_, h⟩ | ⟨_, h⟩ | ⟨_, h⟩ | h <;> omega

theorem sizeQ_ok {f : Int} (h : 1 ≤ f ∧ f ≤ 5) : sizeQ f = 3 * f + 1 ∧ sizeE f = 0 ∧ fltQ (sizeQ f) = f ∧ mostQ (sizeQ f) = 2 * f + 1 ∧ fewQ (sizeQ f) = f + 1 := by
  have e : sizeQ f = 3 * f + 1 := if_pos h
  have e2 := fltQ_hit f h.1 h.2
  refine ⟨e, if_pos h, by rw [e, e2], ?_, ?_⟩
  · unfold mostQ
    rw [e, e2, if_neg (by omega)]
  · unfold fewQ
    rw [e, e2, if_neg (by omega)]

theorem sizeQ_bad {f : Int} (h : ¬ (1 ≤ f ∧ f ≤ 5)) : sizeQ f = 0 ∧ sizeE f = 1 := ⟨if_neg h, if_neg h⟩

theorem mostQ_range (n : Int) : 0 ≤ mostQ n ∧ mostQ n ≤ 11 := by
  have := fltQ_range n
  unfold mostQ
  split <;> omega

theorem fewQ_range (n : Int) : 0 ≤ fewQ n ∧ fewQ n ≤ 6 := by
  have := fltQ_range n
  unfold fewQ
  split <;> omega

/-! ### bits -/

/-- The 64 bits of a number. -/
def low (y : Int) : Nat := (y % 18446744073709551616).toNat

theorem low_lt (y : Int) : low y < 18446744073709551616 := by unfold low; omega

theorem low_nat (n : Nat) (h : n < 18446744073709551616) : low (n : Int) = n := by unfold low; omega

theorem ofInt_low (y : Int) : (BitVec.ofInt 64 y).toNat = low y := by
  rw [BitVec.toNat_ofInt]
  rfl

theorem wrap_nat (n : Nat) (h : n < 9223372036854775808) : IntKind.i64.wrap (n : Int) = (n : Int) := by
  rw [IntKind.wrap_i64]
  omega

theorem bits_and (x y : Int) (h : low x &&& low y < 9223372036854775808) : bits .and .i64 x y = ((low x &&& low y : Nat) : Int) := by
  show IntKind.i64.wrap (((BitVec.ofInt 64 x &&& BitVec.ofInt 64 y).toNat : Nat) : Int) = _
  rw [BitVec.toNat_and, ofInt_low, ofInt_low, wrap_nat _ h]

theorem bits_or (x y : Int) (h : low x ||| low y < 9223372036854775808) : bits .or .i64 x y = ((low x ||| low y : Nat) : Int) := by
  show IntKind.i64.wrap (((BitVec.ofInt 64 x ||| BitVec.ofInt 64 y).toNat : Nat) : Int) = _
  rw [BitVec.toNat_or, ofInt_low, ofInt_low, wrap_nat _ h]

/-- The bits of x that y has not. -/
def but (x y : Nat) : Nat := x &&& (18446744073709551615 - y)

theorem but_bit (x y i : Nat) (hx : x < 18446744073709551616) (hy : y < 18446744073709551616) : (but x y).testBit i = (x.testBit i && !y.testBit i) := by
  unfold but
  rw [Nat.testBit_and]
  by_cases hi : i < 64
  · have e : (18446744073709551615 - y).testBit i = !y.testBit i := by
      have := @Nat.testBit_two_pow_sub_succ y 64 (by simpa using hy) i
      simp only [Nat.reducePow] at this
      rw [show 18446744073709551615 - y = 18446744073709551616 - (y + 1) by omega, this]
      simp [hi]
    rw [e]
  · have e : x.testBit i = false := Nat.testBit_lt_two_pow (Nat.lt_of_lt_of_le hx (show 2 ^ 64 ≤ 2 ^ i from Nat.pow_le_pow_right (by omega) (by omega)))
    rw [e]
    simp

theorem bits_but (x y : Int) (h : but (low x) (low y) < 9223372036854775808) : bits .andNot .i64 x y = ((but (low x) (low y) : Nat) : Int) := by
  show IntKind.i64.wrap (((BitVec.ofInt 64 x &&& ~~~ BitVec.ofInt 64 y).toNat : Nat) : Int) = _
  rw [BitVec.toNat_and, BitVec.toNat_not, ofInt_low, ofInt_low]
  have e : (2 ^ 64 - 1 - low y) = 18446744073709551615 - low y := rfl
  rw [e]
  exact wrap_nat _ h

/-! ### members -/

/-- The bits of s among the first k, rising. -/
def memsN (s k : Nat) : List Nat := (List.range k).filter fun i => s.testBit i

theorem memsN_succ (s k : Nat) : memsN s (k + 1) = memsN s k ++ if s.testBit k then [k] else [] := by
  unfold memsN
  rw [List.range_succ, List.filter_append]
  congr 1
  cases h : s.testBit k <;> simp [h]

theorem memsN_len (s k : Nat) : (memsN s k).length = (List.range k).countP fun i => s.testBit i := (List.countP_eq_length_filter ..).symm

theorem memsN_le (s k : Nat) : (memsN s k).length ≤ k := by
  have := List.length_filter_le (fun i => s.testBit i) (List.range k)
  simpa [memsN] using this

theorem bit_high {s k i : Nat} (h : s < 2 ^ k) (hi : k ≤ i) : s.testBit i = false :=
  Nat.testBit_lt_two_pow (Nat.lt_of_lt_of_le h (Nat.pow_le_pow_right (by omega) hi))

theorem memsN_rest {s k : Nat} (h : s < 2 ^ k) : ∀ m, k ≤ m → memsN s m = memsN s k
  | 0, hm => by have : k = 0 := by omega
                rw [this]
  | m + 1, hm => by
    rcases Nat.lt_or_ge m k with e | e
    · have : k = m + 1 := by omega
      rw [this]
    · rw [memsN_succ, memsN_rest h m e, bit_high h e]
      simp

theorem mem_memsN {s k i : Nat} : i ∈ memsN s k ↔ i < k ∧ s.testBit i = true := by simp [memsN]

/-- The members of a set up to a last one. -/
def memQ (s last : Int) : List Int := if 0 ≤ s ∧ s < 65536 then (memsN s.toNat (min last.toNat 16)).map fun i : Nat => (i : Int) + 1 else []

theorem memQ_none {s : Int} (h : ¬ (0 ≤ s ∧ s < 65536)) (last : Int) : memQ s last = [] := if_neg h

theorem memQ_nat (s : Nat) (h : s < 65536) (last : Int) : memQ (s : Int) last = (memsN s (min last.toNat 16)).map fun i : Nat => (i : Int) + 1 := by
  unfold memQ
  rw [if_pos (by omega)]
  rfl

theorem memQ_len (s last : Int) : (memQ s last).length ≤ 16 := by
  unfold memQ
  split
  · have := memsN_le s.toNat (min last.toNat 16)
    simp
    omega
  · simp

theorem memQ_ok (s last : Int) : ∀ x ∈ memQ s last, 1 ≤ x ∧ x ≤ 16 := by
  intro x hx
  unfold memQ at hx
  split at hx
  · obtain ⟨i, hi, rfl⟩ := List.mem_map.1 hx
    have := (mem_memsN.1 hi).1
    omega
  · simp at hx

/-- Is who a member? -/
def hasQ (s who : Int) : Bool := decide (0 ≤ s ∧ s < 65536) && (decide (1 ≤ who ∧ who ≤ 16) && s.toNat.testBit (who - 1).toNat)

theorem hasQ_mem (s who : Int) : hasQ s who = decide (who ∈ memQ s 16) := by
  rw [Bool.eq_iff_iff]
  unfold hasQ memQ
  by_cases h : 0 ≤ s ∧ s < 65536
  · rw [if_pos h]
    simp only [h, and_self, decide_true, Bool.true_and, Bool.and_eq_true, decide_eq_true_eq, List.mem_map, mem_memsN]
    constructor
    · rintro ⟨h1, h2⟩
      exact ⟨(who - 1).toNat, ⟨by omega, h2⟩, by omega⟩
    · rintro ⟨i, ⟨h1, h2⟩, rfl⟩
      refine ⟨by omega, ?_⟩
      rw [show ((i : Int) + 1 - 1).toNat = i by omega]
      exact h2
  · rw [if_neg h]
    simp [h]

/-- Is a set a quorum? -/
def isQ (n s : Int) : Bool := decide (0 < mostQ n) && decide (mostQ n ≤ ((memQ s n).length : Int))

/-- What a set of some is worth. -/
def setN (l : List Int) : Nat := l.foldl (fun s x => s ||| 2 ^ (x - 1).toNat) 0

theorem setN_snoc (l : List Int) (x : Int) : setN (l ++ [x]) = setN l ||| 2 ^ (x - 1).toNat := by simp [setN]

theorem setN_bit_go (i : Nat) : ∀ (l : List Int) (s : Nat), (∀ x ∈ l, 1 ≤ x) → (l.foldl (fun s x => s ||| 2 ^ (x - 1).toNat) s).testBit i = (s.testBit i || decide ((i : Int) + 1 ∈ l))
  | [], s, _ => by simp
  | x :: l, s, h => by
    rw [List.foldl_cons, setN_bit_go i l _ (fun y hy => h y (by simp [hy])), Nat.testBit_or, Nat.testBit_two_pow, Bool.or_assoc]
    congr 1
    have := h x (by simp)
    rw [Bool.eq_iff_iff]
    simp only [Bool.or_eq_true, decide_eq_true_eq, List.mem_cons]
    constructor
    · rintro (e | e)
      · exact .inl (by omega)
      · exact .inr e
    · rintro (e | e)
      · exact .inl (by omega)
      · exact .inr e

theorem setN_bit (l : List Int) (h : ∀ x ∈ l, 1 ≤ x ∧ x ≤ 16) (i : Nat) : (setN l).testBit i = decide ((i : Int) + 1 ∈ l) := by
  have := setN_bit_go i l 0 (fun x hx => (h x hx).1)
  rw [setN, this]
  simp

theorem setN_lt (l : List Int) (h : ∀ x ∈ l, 1 ≤ x ∧ x ≤ 16) : setN l < 65536 := by
  have : setN l < 2 ^ 16 := Nat.lt_pow_two_of_testBit _ fun i hi => by
    rw [setN_bit l h]
    simp only [decide_eq_false_iff_not]
    intro hm
    have := (h _ hm).2
    omega
  simpa using this

/-- What Set answers. -/
def setV (l : List Int) : Int := if ∀ x ∈ l, 1 ≤ x ∧ x ≤ 16 then (setN l : Int) else 0
def setE (l : List Int) : Int := if ∀ x ∈ l, 1 ≤ x ∧ x ≤ 16 then 0 else 6

theorem set_ok {l : List Int} (h : ∀ x ∈ l, 1 ≤ x ∧ x ≤ 16) : setV l = (setN l : Int) ∧ setE l = 0 := ⟨if_pos h, if_pos h⟩
theorem set_bad {l : List Int} {x : Int} (hx : x ∈ l) (h : ¬ (1 ≤ x ∧ x ≤ 16)) : setV l = 0 ∧ setE l = 6 := ⟨if_neg fun a => h (a x hx), if_neg fun a => h (a x hx)⟩

/-! ### what enough say -/

/-- The least of the texts that so many of the first k say. -/
def agB (lt : List UInt8 → List UInt8 → Bool) (few : Int) (ts : List (List UInt8)) : Nat → List UInt8
  | 0 => []
  | k + 1 => if ts[k]?.getD [] ≠ [] ∧ few ≤ ((ts.take (k + 1)).count (ts[k]?.getD []) : Int) ∧ (agB lt few ts k = [] ∨ lt (ts[k]?.getD []) (agB lt few ts k) = true) then ts[k]?.getD [] else agB lt few ts k

theorem count_take (ts : List (List UInt8)) (x : List UInt8) (k : Nat) : ∀ m, k ≤ m → (ts.take k).count x ≤ (ts.take m).count x := by
  intro m h
  have : ts.take k = (ts.take m).take k := by rw [List.take_take, Nat.min_eq_left h]
  rw [this]
  exact (List.take_sublist _ _).count_le _

theorem agB_said (lt : List UInt8 → List UInt8 → Bool) (few : Int) (ts : List (List UInt8)) : ∀ k, agB lt few ts k ≠ [] → few ≤ ((ts.take k).count (agB lt few ts k) : Int)
  | 0, h => absurd rfl h
  | k + 1, h => by
    rw [agB] at h ⊢
    split
    · rename_i hc
      exact hc.2.1
    · rename_i hc
      rw [if_neg hc] at h
      have h1 := agB_said lt few ts k h
      have h2 := count_take ts (agB lt few ts k) k (k + 1) (by omega)
      omega

/-- How often a text is said by those whose bit is set. -/
theorem count_bits (ts : List (List UInt8)) (x : List UInt8) (p : Nat → Bool) : ∀ m, (∀ j, j < m → ts[j]? = some x → p j = true) → (ts.take m).count x ≤ (List.range m).countP p
  | 0, _ => by simp
  | m + 1, h => by
    have ih := count_bits ts x p m fun j hj => h j (by omega)
    rw [List.take_add_one, List.count_append, List.range_succ, List.countP_append]
    have : (ts[m]?.toList).count x ≤ List.countP p [m] := by
      cases e : ts[m]? with
      | none => simp
      | some y =>
        by_cases hy : y = x
        · subst hy
          have := h m (by omega) e
          simp [this]
        · simp [hy]
    omega
end Go.Proofs.Ytkjgipiaamhdlaa
