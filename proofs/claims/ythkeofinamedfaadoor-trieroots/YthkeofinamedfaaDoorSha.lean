/- The digest of bytes as a function on plain lists: nothing of the program is named here. -/
import Derived.Test.YthkeofinamedfaaDoorBase
import Derived.Laws.BitsLemmas
namespace Go.Proofs.YthkeofinamedfaaDoor
open Go.RowKit
set_option linter.unusedVariables false
set_option maxRecDepth 20000

/-- A word as a cell. -/
def w32 (n : Nat) : Value := .int .u32 (n : Int)

/-- x turned right by n bits. -/
def rot (x n : Nat) : Nat := (x / 2 ^ n) ||| (x * 2 ^ (32 - n) % 4294967296)

theorem u32_fit : ∀ n : Int, 0 ≤ n → n < 2 ^ 32 → IntKind.u32.wrap n = n := by
  intro n h0 h1
  rw [IntKind.wrap_u32]
  simp only [Int.reducePow] at h1
  omega

theorem i64_fit : ∀ n : Int, 0 ≤ n → n < 2 ^ 62 → IntKind.i64.wrap n = n := by
  intro n h0 h1
  rw [IntKind.wrap_i64]
  simp only [Int.reducePow] at h1
  omega

theorem xor_nat (k : IntKind) (j : Nat) (hj : j ≤ k.bits) (hk : ∀ n : Int, 0 ≤ n → n < 2 ^ j → k.wrap n = n) (a b : Nat) (ha : a < 2 ^ j) (hb : b < 2 ^ j) :
    bits .xor k a b = ((a ^^^ b : Nat) : Int) := by
  have hp : 2 ^ j ≤ 2 ^ k.bits := Nat.pow_le_pow_right (by decide) hj
  have ha' : a % 2 ^ k.bits = a := Nat.mod_eq_of_lt (Nat.lt_of_lt_of_le ha hp)
  have hb' : b % 2 ^ k.bits = b := Nat.mod_eq_of_lt (Nat.lt_of_lt_of_le hb hp)
  have cast : ∀ n : Nat, n < 2 ^ j → ((n : Nat) : Int) < 2 ^ j := fun n h => by exact_mod_cast h
  simp only [bits, BitVec.ofInt_natCast, BitVec.toNat_xor, BitVec.toNat_ofNat, ha', hb']
  exact hk _ (Int.natCast_nonneg _) (cast _ (Nat.xor_lt_two_pow ha hb))

theorem or32 (a b : Nat) (ha : a < 4294967296) (hb : b < 4294967296) : bits .or .u32 (a : Int) (b : Int) = ((a ||| b : Nat) : Int) :=
  (bits_nat .u32 32 (by decide) u32_fit a b (by simpa using ha) (by simpa using hb)).2
theorem and32 (a b : Nat) (ha : a < 4294967296) (hb : b < 4294967296) : bits .and .u32 (a : Int) (b : Int) = ((a &&& b : Nat) : Int) :=
  (bits_nat .u32 32 (by decide) u32_fit a b (by simpa using ha) (by simpa using hb)).1
theorem xor32 (a b : Nat) (ha : a < 4294967296) (hb : b < 4294967296) : bits .xor .u32 (a : Int) (b : Int) = ((a ^^^ b : Nat) : Int) :=
  xor_nat .u32 32 (by decide) u32_fit a b (by simpa using ha) (by simpa using hb)

theorem or64 (a b : Nat) (ha : a < 4611686018427387904) (hb : b < 4611686018427387904) : bits .or .i64 (a : Int) (b : Int) = ((a ||| b : Nat) : Int) :=
  (bits_nat .i64 62 (by decide) i64_fit a b (by simpa using ha) (by simpa using hb)).2
theorem and64 (a b : Nat) (ha : a < 4611686018427387904) (hb : b < 4611686018427387904) : bits .and .i64 (a : Int) (b : Int) = ((a &&& b : Nat) : Int) :=
  (bits_nat .i64 62 (by decide) i64_fit a b (by simpa using ha) (by simpa using hb)).1
theorem xor64 (a b : Nat) (ha : a < 4611686018427387904) (hb : b < 4611686018427387904) : bits .xor .i64 (a : Int) (b : Int) = ((a ^^^ b : Nat) : Int) :=
  xor_nat .i64 62 (by decide) i64_fit a b (by simpa using ha) (by simpa using hb)

theorem or_lt32 {a b : Nat} (ha : a < 4294967296) (hb : b < 4294967296) : a ||| b < 4294967296 := by
  have := Nat.or_lt_two_pow (n := 32) (x := a) (y := b) (by simpa using ha) (by simpa using hb)
  simpa using this
theorem and_lt32 {a b : Nat} (ha : a < 4294967296) (hb : b < 4294967296) : a &&& b < 4294967296 := by
  have := Nat.and_lt_two_pow (n := 32) a (y := b) (by simpa using hb)
  simpa using this
theorem xor_lt32 {a b : Nat} (ha : a < 4294967296) (hb : b < 4294967296) : a ^^^ b < 4294967296 := by
  have := Nat.xor_lt_two_pow (n := 32) (x := a) (y := b) (by simpa using ha) (by simpa using hb)
  simpa using this

theorem rot_lt (x n : Nat) (h : x < 4294967296) : rot x n < 4294967296 :=
  or_lt32 (Nat.lt_of_le_of_lt (Nat.div_le_self _ _) h) (Nat.mod_lt _ (by decide))

/-! The words of a piece. -/
def lo1 (x : Nat) : Nat := rot x 17 ^^^ rot x 19 ^^^ x / 1024
def lo0 (x : Nat) : Nat := rot x 7 ^^^ rot x 18 ^^^ x / 8

theorem div_lt32 {x : Nat} (h : x < 4294967296) (n : Nat) : x / n < 4294967296 := Nat.lt_of_le_of_lt (Nat.div_le_self _ _) h

theorem lo1_lt {x : Nat} (h : x < 4294967296) : lo1 x < 4294967296 := xor_lt32 (xor_lt32 (rot_lt _ _ h) (rot_lt _ _ h)) (div_lt32 h _)
theorem lo0_lt {x : Nat} (h : x < 4294967296) : lo0 x < 4294967296 := xor_lt32 (xor_lt32 (rot_lt _ _ h) (rot_lt _ _ h)) (div_lt32 h _)

/-- The first bytes, i of them, worked into 64 words. -/
def part (bs : List UInt8) (i : Nat) : List Nat := (List.range 64).map fun j => num ((bs.drop (4 * j)).take (min 4 (i - 4 * j)))

theorem part_length (bs : List UInt8) (i : Nat) : (part bs i).length = 64 := by simp [part]

theorem part_at (bs : List UInt8) (i j : Nat) (hj : j < 64) : (part bs i)[j]? = some (num ((bs.drop (4 * j)).take (min 4 (i - 4 * j)))) := by
  simp [part, hj]

theorem part_lt (bs : List UInt8) (i : Nat) : ∀ x ∈ part bs i, x < 4294967296 := by
  intro x hx
  obtain ⟨j, _, rfl⟩ := List.mem_map.1 hx
  have h1 := num_lt ((bs.drop (4 * j)).take (min 4 (i - 4 * j)))
  have h2 : ((bs.drop (4 * j)).take (min 4 (i - 4 * j))).length ≤ 4 := by simp; omega
  have h3 : (256 : Nat) ^ ((bs.drop (4 * j)).take (min 4 (i - 4 * j))).length ≤ 256 ^ 4 := Nat.pow_le_pow_right (by omega) h2
  simp only [Nat.reducePow] at h3
  omega

theorem part_zero (bs : List UInt8) : part bs 0 = List.replicate 64 0 := by
  simp [part, num]
  rfl

/-- One byte more. -/
theorem part_step (bs : List UInt8) (i : Nat) (hi : i < bs.length) (hl : bs.length = 64) :
    part bs (i + 1) = (part bs i).set (i / 4) ((part bs i).getD (i / 4) 0 * 256 + (bs[i]?.getD 0).toNat) ∧ (part bs i).getD (i / 4) 0 < 16777216 := by
  have hq : i / 4 < 64 := by omega
  have hv : (part bs i).getD (i / 4) 0 = num ((bs.drop (4 * (i / 4))).take (i - 4 * (i / 4))) := by
    rw [List.getD_eq_getElem?_getD, part_at _ _ _ hq, Option.getD_some, show min 4 (i - 4 * (i / 4)) = i - 4 * (i / 4) by omega]
  refine ⟨?_, ?_⟩
  · apply List.ext_getElem?
    intro j
    by_cases hj : j < 64
    · rw [part_at _ _ _ hj, List.getElem?_set, part_length]
      by_cases hji : i / 4 = j
      · subst hji
        rw [if_pos rfl, if_pos hq, hv, show min 4 (i + 1 - 4 * (i / 4)) = (i - 4 * (i / 4)) + 1 by omega]
        rw [num_take _ _ (by simp; omega), List.getElem?_drop, show 4 * (i / 4) + (i - 4 * (i / 4)) = i by omega]
      · rw [if_neg hji, part_at _ _ _ hj]
        congr 3
        omega
    · rw [List.getElem?_eq_none (by rw [part_length]; omega), List.getElem?_eq_none (by rw [List.length_set, part_length]; omega)]
  · rw [hv]
    have h1 := num_lt ((bs.drop (4 * (i / 4))).take (i - 4 * (i / 4)))
    have h2 : ((bs.drop (4 * (i / 4))).take (i - 4 * (i / 4))).length ≤ 3 := by simp; omega
    have h3 : (256 : Nat) ^ ((bs.drop (4 * (i / 4))).take (i - 4 * (i / 4))).length ≤ 256 ^ 3 := Nat.pow_le_pow_right (by omega) h2
    simp only [Nat.reducePow] at h3
    omega

/-- Word number t, out of those before it. -/
def nextWord (ws : List Nat) (t : Nat) : Nat := (lo1 (ws.getD (t - 2) 0) + ws.getD (t - 7) 0 + lo0 (ws.getD (t - 15) 0) + ws.getD (t - 16) 0) % 4294967296

/-- The words, up to number 16 + k. -/
def spread (bs : List UInt8) : Nat → List Nat
  | 0 => part bs 64
  | k + 1 => (spread bs k).set (16 + k) (nextWord (spread bs k) (16 + k))

theorem spread_length (bs : List UInt8) : ∀ k, (spread bs k).length = 64
  | 0 => part_length bs 64
  | k + 1 => by rw [spread, List.length_set, spread_length bs k]

theorem spread_lt (bs : List UInt8) : ∀ k, ∀ x ∈ spread bs k, x < 4294967296
  | 0, x, hx => part_lt bs 64 x hx
  | k + 1, x, hx => by
    rcases List.mem_or_eq_of_mem_set hx with h | h
    · exact spread_lt bs k x h
    · rw [h]; exact Nat.mod_lt _ (by decide)

def sched (bs : List UInt8) : List Nat := spread bs 48

theorem getD_lt {ws : List Nat} (h : ∀ x ∈ ws, x < 4294967296) (i : Nat) : ws.getD i 0 < 4294967296 := by
  rw [List.getD_eq_getElem?_getD]
  cases e : ws[i]? with
  | none => simp
  | some x => exact h x (List.mem_of_getElem? e)

/-! The rounds. -/
structure St where
  a : Nat
  b : Nat
  c : Nat
  d : Nat
  e : Nat
  f : Nat
  g : Nat
  h : Nat

def St.Ok (s : St) : Prop := s.a < 4294967296 ∧ s.b < 4294967296 ∧ s.c < 4294967296 ∧ s.d < 4294967296 ∧ s.e < 4294967296 ∧ s.f < 4294967296 ∧ s.g < 4294967296 ∧ s.h < 4294967296

def up1 (x : Nat) : Nat := rot x 6 ^^^ rot x 11 ^^^ rot x 25
def up0 (x : Nat) : Nat := rot x 2 ^^^ rot x 13 ^^^ rot x 22
def cho (e f g : Nat) : Nat := (e &&& f) ^^^ ((4294967295 - e) &&& g)
def maj (a b c : Nat) : Nat := (a &&& b) ^^^ (a &&& c) ^^^ (b &&& c)
def pOf (s : St) (k w : Nat) : Nat := (s.h + up1 s.e + cho s.e s.f s.g + k + w) % 4294967296
def qOf (s : St) : Nat := (up0 s.a + maj s.a s.b s.c) % 4294967296
def rnd (s : St) (k w : Nat) : St := ⟨(pOf s k w + qOf s) % 4294967296, s.a, s.b, s.c, (s.d + pOf s k w) % 4294967296, s.e, s.f, s.g⟩

def cubes : List Nat := [
    0x428a2f98, 0x71374491, 0xb5c0fbcf, 0xe9b5dba5, 0x3956c25b, 0x59f111f1, 0x923f82a4, 0xab1c5ed5,
    0xd807aa98, 0x12835b01, 0x243185be, 0x550c7dc3, 0x72be5d74, 0x80deb1fe, 0x9bdc06a7, 0xc19bf174,
    0xe49b69c1, 0xefbe4786, 0x0fc19dc6, 0x240ca1cc, 0x2de92c6f, 0x4a7484aa, 0x5cb0a9dc, 0x76f988da,
    0x983e5152, 0xa831c66d, 0xb00327c8, 0xbf597fc7, 0xc6e00bf3, 0xd5a79147, 0x06ca6351, 0x14292967,
    0x27b70a85, 0x2e1b2138, 0x4d2c6dfc, 0x53380d13, 0x650a7354, 0x766a0abb, 0x81c2c92e, 0x92722c85,
    0xa2bfe8a1, 0xa81a664b, 0xc24b8b70, 0xc76c51a3, 0xd192e819, 0xd6990624, 0xf40e3585, 0x106aa070,
    0x19a4c116, 0x1e376c08, 0x2748774c, 0x34b0bcb5, 0x391c0cb3, 0x4ed8aa4a, 0x5b9cca4f, 0x682e6ff3,
    0x748f82ee, 0x78a5636f, 0x84c87814, 0x8cc70208, 0x90befffa, 0xa4506ceb, 0xbef9a3f7, 0xc67178f2]

def start : St := ⟨0x6a09e667, 0xbb67ae85, 0x3c6ef372, 0xa54ff53a, 0x510e527f, 0x9b05688c, 0x1f83d9ab, 0x5be0cd19⟩

theorem cubes_lt : ∀ x ∈ cubes, x < 4294967296 := by decide +kernel
theorem cubes_length : cubes.length = 64 := by decide +kernel
theorem start_ok : start.Ok := by unfold St.Ok; decide +kernel

theorem up1_lt {x : Nat} (h : x < 4294967296) : up1 x < 4294967296 := xor_lt32 (xor_lt32 (rot_lt _ _ h) (rot_lt _ _ h)) (rot_lt _ _ h)
theorem up0_lt {x : Nat} (h : x < 4294967296) : up0 x < 4294967296 := xor_lt32 (xor_lt32 (rot_lt _ _ h) (rot_lt _ _ h)) (rot_lt _ _ h)
theorem cho_lt {e f g : Nat} (he : e < 4294967296) (hf : f < 4294967296) (hg : g < 4294967296) : cho e f g < 4294967296 := xor_lt32 (and_lt32 he hf) (and_lt32 (by omega) hg)
theorem maj_lt {a b c : Nat} (ha : a < 4294967296) (hb : b < 4294967296) (hc : c < 4294967296) : maj a b c < 4294967296 := xor_lt32 (xor_lt32 (and_lt32 ha hb) (and_lt32 ha hc)) (and_lt32 hb hc)

theorem rnd_ok {s : St} (h : s.Ok) (k w : Nat) : (rnd s k w).Ok := by
  obtain ⟨h1, h2, h3, h4, h5, h6, h7, h8⟩ := h
  exact ⟨Nat.mod_lt _ (by decide), h1, h2, h3, Nat.mod_lt _ (by decide), h5, h6, h7⟩

def rnds (ws : List Nat) (s : St) : Nat → St
  | 0 => s
  | t + 1 => rnd (rnds ws s t) (cubes.getD t 0) (ws.getD t 0)

theorem rnds_ok (ws : List Nat) {s : St} (h : s.Ok) : ∀ t, (rnds ws s t).Ok
  | 0 => h
  | t + 1 => rnd_ok (rnds_ok ws h t) _ _

def St.plus (s r : St) : St := ⟨(s.a + r.a) % 4294967296, (s.b + r.b) % 4294967296, (s.c + r.c) % 4294967296, (s.d + r.d) % 4294967296, (s.e + r.e) % 4294967296, (s.f + r.f) % 4294967296, (s.g + r.g) % 4294967296, (s.h + r.h) % 4294967296⟩

/-- s with one more piece worked in. -/
def work (s : St) (bs : List UInt8) : St := s.plus (rnds (sched bs) s 64)

theorem plus_ok (s r : St) : (s.plus r).Ok := by
  refine ⟨?_, ?_, ?_, ?_, ?_, ?_, ?_, ?_⟩ <;> exact Nat.mod_lt _ (by decide)

theorem work_ok (s : St) (bs : List UInt8) : (work s bs).Ok := plus_ok _ _

/-- The first n pieces of bs worked in. -/
def works (bs : List UInt8) (s : St) : Nat → St
  | 0 => s
  | n + 1 => work (works bs s n) ((bs.drop (64 * n)).take 64)

theorem works_ok (bs : List UInt8) {s : St} (h : s.Ok) : ∀ n, (works bs s n).Ok
  | 0 => h
  | n + 1 => work_ok _ _

def St.bytes (s : St) : List UInt8 := be s.a 4 ++ be s.b 4 ++ be s.c 4 ++ be s.d 4 ++ be s.e 4 ++ be s.f 4 ++ be s.g 4 ++ be s.h 4

theorem St.bytes_length (s : St) : s.bytes.length = 32 := by simp [St.bytes, be_length]

/-- What stands behind the last whole piece. -/
def ending (rest : List UInt8) (n : Nat) : List UInt8 := rest ++ [128] ++ List.replicate ((119 - rest.length) % 64) 0 ++ be (8 * n) 8

/-- The text that is worked in. -/
def padded (bs : List UInt8) : List UInt8 := bs ++ [128] ++ List.replicate ((119 - bs.length % 64) % 64) 0 ++ be (8 * bs.length) 8

/-- The digest. -/
def sha (bs : List UInt8) : List UInt8 := (works (padded bs) start ((padded bs).length / 64)).bytes

theorem sha_length (bs : List UInt8) : (sha bs).length = 32 := St.bytes_length _

theorem sha_abc : sha [97, 98, 99] = [0xba, 0x78, 0x16, 0xbf, 0x8f, 0x01, 0xcf, 0xea, 0x41, 0x41, 0x40, 0xde, 0x5d, 0xae, 0x22, 0x23, 0xb0, 0x03, 0x61, 0xa3, 0x96, 0x17, 0x7a, 0x9c, 0xb4, 0x10, 0xff, 0x61, 0xf2, 0x00, 0x15, 0xad] := by decide +kernel
end Go.Proofs.YthkeofinamedfaaDoor
